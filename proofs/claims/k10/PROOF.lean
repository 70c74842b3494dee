import PyProof.Rows.All
import Wide.All
import OpenK.AllK
import Wide.FinOn
import PyProof.EqAt
import PyProof.EqKinds
import PyProof.TupleCall
import KE.BitLaws
import PySem.Challenge.RW_beadway_k10_whole_first
set_option Elab.async false
set_option linter.all false
set_option maxRecDepth 100000
namespace L2
open PySem PySem.Spec PyProof.Rows
abbrev Key := Sum Int Str
def keyIs : Key → Value → Bool
  | .inl k, v => Value.isInt k v
  | .inr x, v => Value.isStrOf x v
def keyH (w : World) : Key → Int
  | .inl k => hashInt k
  | .inr x => hashStr w x
theorem keyIs_shape : ∀ {k : Key} {v : Value}, keyIs k v = true → (∃ i t, k = Sum.inl i ∧ v = Value.int i t) ∨ (∃ x t, k = Sum.inr x ∧ v = Value.str x t)
  | .inl i, v, h => by
    obtain ⟨t, e⟩ := Value.isInt_shape (k := i) (v := v) h
    exact .inl ⟨i, t, rfl, e⟩
  | .inr x, v, h => by
    obtain ⟨t, e⟩ := Value.isStrOf_shape (x := x) (v := v) h
    exact .inr ⟨x, t, rfl, e⟩
theorem key_ll (a b : Int) : decide ((Sum.inl a : Key) = Sum.inl b) = (a == b) := by
  by_cases e : a = b
  · subst e; simp
  · have h : ¬ (Sum.inl a : Key) = Sum.inl b := fun q => e (Sum.inl.inj q)
    rw [decide_eq_false h]
    exact (beq_eq_false_iff_ne.mpr e).symm
theorem key_rr (a b : Str) : decide ((Sum.inr a : Key) = Sum.inr b) = decide (a = b) := by
  by_cases e : a = b
  · subst e; simp
  · have h : ¬ (Sum.inr a : Key) = Sum.inr b := fun q => e (Sum.inr.inj q)
    rw [decide_eq_false h, decide_eq_false e]
theorem key_lr (a : Int) (b : Str) : decide ((Sum.inl a : Key) = Sum.inr b) = false := decide_eq_false (fun q => nomatch q)
theorem key_rl (a : Str) (b : Int) : decide ((Sum.inr a : Key) = Sum.inl b) = false := decide_eq_false (fun q => nomatch q)
def mixKind (prog : Program) (w : World) : PySem.KeyKind prog w Key where
  is := keyIs
  hash := keyH w
  inj := fun v a b ha hb => by
    rcases keyIs_shape ha with ⟨i, t, rfl, rfl⟩ | ⟨x, t, rfl, rfl⟩
    · rcases keyIs_shape hb with ⟨j, u, rfl, e⟩ | ⟨y, u, rfl, e⟩
      · injection e with e1 _; rw [e1]
      · exact nomatch e
    · rcases keyIs_shape hb with ⟨j, u, rfl, e⟩ | ⟨y, u, rfl, e⟩
      · exact nomatch e
      · injection e with e1 _; rw [e1]
  byValue := fun k v h => by
    rcases keyIs_shape h with ⟨i, t, rfl, rfl⟩ | ⟨x, t, rfl, rfl⟩ <;> rfl
  pyHash := fun hv h => by
    rcases keyIs_shape hv with ⟨i, t, rfl, rfl⟩ | ⟨x, t, rfl, rfl⟩
    · exact wpAny_pyHash_int h
    · exact wpAny_pyHash_str h
  eqBool := fun hu hv h => by
    rcases keyIs_shape hu with ⟨i, t, rfl, rfl⟩ | ⟨x, t, rfl, rfl⟩
    · rcases keyIs_shape hv with ⟨j, u, rfl, rfl⟩ | ⟨y, u, rfl, rfl⟩
      · rw [key_ll] at h; exact wpAny_eqBool_int h
      · rw [key_lr] at h; exact SeqAt.EqAt.int_str i t y u _ _ _ _ h
    · rcases keyIs_shape hv with ⟨j, u, rfl, rfl⟩ | ⟨y, u, rfl, rfl⟩
      · rw [key_rl] at h; exact SeqAt.EqAt.str_int x t j u _ _ _ _ h
      · rw [key_rr] at h; exact wpAny_eqBool_str h
  «strs» := fun k x t v h => by
    rcases keyIs_shape h with ⟨i, u, rfl, e⟩ | ⟨y, u, rfl, e⟩
    · exact nomatch e
    · injection e with e1 _
      subst e1
      cases v <;> rfl
end L2
namespace L2
open PySem PySem.Spec PyProof.Rows
inductive V where
  | non | bl (b : Bool) | int (i : Int) | str (x : Str) | byt (b : Array UInt8) | flt (b : UInt64) | ref (a : Addr) | ty (n : String)
  deriving DecidableEq
def RelV : V → Value → Prop
  | .non, u => u = Value.none
  | .bl b, u => u = Value.bool b
  | .int i, u => ∃ t, u = Value.int i t
  | .str x, u => ∃ t, u = Value.str x t
  | .byt b, u => ∃ t, u = Value.bytes b t
  | .flt b, u => ∃ t, u = Value.float b t
  | .ref a, u => u = Value.ref a
  | .ty n, u => u = Value.type n
abbrev Vals : List V → List Value → Prop := Paired RelV
theorem Vals.length {xs : List V} {us : List Value} (r : Vals xs us) : xs.length = us.length := Paired.length r
theorem Vals.get : ∀ {xs : List V} {us : List Value} {i : Nat} {x : V}, Vals xs us → xs[i]? = some x → ∃ u, us[i]? = some u ∧ RelV x u
  | _, _, _, _, .nil, e => by simp at e
  | _, _, 0, _, .cons r _, e => by simp at e; subst e; exact ⟨_, rfl, r⟩
  | _, _, i + 1, x, .cons _ t, e => by
    obtain ⟨u, h1, h2⟩ := Vals.get (i := i) (x := x) t (by simpa using e)
    exact ⟨u, by simpa using h1, h2⟩
theorem Vals.set {x : V} {u : Value} (r : RelV x u) : ∀ {xs : List V} {us : List Value} (i : Nat), Vals xs us → Vals (xs.set i x) (us.set i u)
  | _, _, _, .nil => .nil
  | _, _, 0, .cons _ t => .cons r t
  | _, _, i + 1, .cons q t => .cons q (Vals.set r i t)
theorem Vals.append : ∀ {xs ys : List V} {us ws : List Value}, Vals xs us → Vals ys ws → Vals (xs ++ ys) (us ++ ws)
  | _, _, _, _, .nil, s => s
  | _, _, _, _, .cons r t, s => .cons r (Vals.append t s)
theorem Vals.take : ∀ {xs : List V} {us : List Value} (n : Nat), Vals xs us → Vals (xs.take n) (us.take n)
  | _, _, 0, _ => .nil
  | _, _, _ + 1, .nil => .nil
  | _, _, n + 1, .cons r t => .cons r (Vals.take n t)
theorem Vals.drop : ∀ {xs : List V} {us : List Value} (n : Nat), Vals xs us → Vals (xs.drop n) (us.drop n)
  | _, _, 0, r => r
  | _, _, _ + 1, .nil => .nil
  | _, _, n + 1, .cons _ t => Vals.drop n t
def RelO : Option V → Option Value → Prop
  | some v, some u => RelV v u
  | none, none => True
  | _, _ => False
def KV {κ : Type} : List (κ × V) → List (κ × Value) → Prop := Paired fun (p : κ × V) (q : κ × Value) => p.1 = q.1 ∧ RelV p.2 q.2
def kV : Key → V
  | .inl i => .int i
  | .inr x => .str x
inductive HO where
  | lst (xs : List V)
  | tup (xs : List V)
  | dK (kvs : List (Key × V)) | dT (kvs : List (List Key × V))
  | set (S : Int → Bool) (n : Nat)
  | ins (C dx : Addr) (fs : List (Str × V))
  | own (x : Addr)
  | xd (fs : List (Str × V))
  | met (f x : Addr)
  | rng (lo hi : Int)
  | frz (o : Obj) (u : HO)
  | tbl (ps : Array Value)
  | ext (φ : Heap → Prop)
abbrev Hp := Addr → Option HO
def upd (H : Hp) (a : Addr) (o : HO) : Hp := fun b => if b = a then some o else H b
theorem upd_same {H : Hp} {a : Addr} {o : HO} : upd H a o a = some o := by unfold upd; rw [if_pos rfl]
theorem upd_ne {H : Hp} {a b : Addr} {o : HO} (h : b ≠ a) : upd H a o b = H b := by unfold upd; rw [if_neg h]
theorem ne_of_none {H : Hp} {a b : Addr} {o : HO} (h : H a = some o) (h' : H b = none) : a ≠ b := by
  intro e; subst e; rw [h] at h'; cases h'
section
variable (P : Program) (w : World)
def ObjOk (H : Hp) (h : Heap) (a : Addr) : HO → Prop
  | .lst xs => xs.length ≤ sizeLine ∧ ∃ (its : List Value) (n : Nat), Vals xs its ∧ h.get? a = some { cls := .type "list", data := .seq its.toArray n }
  | .tup xs => xs.length ≤ sizeLine ∧ ∃ its : List Value, Vals xs its ∧ IsTup h a its.toArray
  | .dK kvs => kvs.length ≤ sizeLine ∧ (a == sysModules) = false ∧ ∃ vs, KV kvs vs ∧ h.DictOf (mixKind P w) a vs
  | .dT kvs => kvs.length ≤ sizeLine ∧ (a == sysModules) = false ∧ ∃ xs : List (List Key × Addr × Value),
      Paired (fun (p : List Key × V) (q : List Key × Addr × Value) => p.1 = q.1 ∧ H q.2.1 = some (.tup (p.1.map kV)) ∧ RelV p.2 q.2.2) kvs xs ∧
      ∃ o es ep, h.get? a = some o ∧ o.ExactDict ∧ o.data = .dict es ep ∧ es.toList = xs.map (entryOfKey (tupleKind (mixKind P w))) ∧ (xs.map (·.1)).Nodup
  | .set S n => h.SetOf (intKind P w) a S n
  | .ins C dx fs => H dx = some (.own a) ∧ fs.length ≤ 1000 ∧ dx ≠ a ∧ h.get? a = some (PySem.W.instObj C dx) ∧
      ∃ mA, h.Ns1 dx mA ∧ (∀ f, RelO (fs.lookup f) (mA f)) ∧ PySem.Within mA (fs.map (·.1))
  | .own _ => ∃ o, h.get? a = some o
  | .xd fs => ∃ mA, h.Ns1 a mA ∧ ∀ f, RelO (fs.lookup f) (mA f)
  | .rng lo hi => ∃ t u v, h.get? a = some { cls := .type "range", data := .fields #[.int lo t, .int hi u, .int 1 v] }
  | .frz o u => h.get? a = some o ∧ ObjOk H h a u
  | .tbl ps => h.get? a = some { cls := .none, data := .fields ps }
  | .met f x => h.get? a = some (PySem.W.methodObj (.ref f) (.ref x))
  | .ext φ => φ h ∧ (∃ o, h.get? a = some o) ∧ ∀ h1 h2 : Heap, φ h1 → (∀ o, h1.get? a = some o → h2.get? a = some o) → φ h2
def HOk (H : Hp) (h : Heap) : Prop := ∀ a o, H a = some o → ObjOk P w H h a o
end
section
variable {P : Program} {w : World} {H H' : Hp} {h h' : Heap} {a : Addr} {o : HO}
theorem ObjOk.lt (x : ObjOk P w H h a o) : a < h.objs.size := by
  cases o with
  | lst xs => obtain ⟨_, _, _, _, e⟩ := x; exact Heap.lt_size e
  | tup xs => obtain ⟨_, _, _, p⟩ := x; exact p.lt
  | dK kvs => obtain ⟨_, _, _, _, o, _, _, e, _⟩ := x; exact Heap.lt_size e
  | dT kvs => obtain ⟨_, _, _, _, o, _, _, e, _⟩ := x; exact Heap.lt_size e
  | set S n => obtain ⟨o, _, _, _, e, _⟩ := x; exact Heap.lt_size e
  | ins C dx fs => obtain ⟨_, _, _, e, _⟩ := x; exact Heap.lt_size e
  | own y => obtain ⟨_, e⟩ := x; exact Heap.lt_size e
  | xd fs => obtain ⟨_, ⟨_, _, _, e, _⟩, _⟩ := x; exact Heap.lt_size e
  | rng lo hi => obtain ⟨_, _, _, e⟩ := x; exact Heap.lt_size e
  | frz ob u => obtain ⟨e, _⟩ := x; exact Heap.lt_size e
  | tbl ps => exact Heap.lt_size (show h.get? a = some _ from x)
  | met f y => exact Heap.lt_size (show h.get? a = some _ from x)
  | ext φ => obtain ⟨_, ⟨_, e⟩, _⟩ := x; exact Heap.lt_size e
theorem Paired.mapP {α β : Type} {F G : α → β → Prop} : ∀ {l₁ : List α} {l₂ : List β}, Paired F l₁ l₂ → (∀ a b, F a b → G a b) → Paired G l₁ l₂
  | _, _, .nil, _ => .nil
  | _, _, .cons r t, f => .cons (f _ _ r) (Paired.mapP t f)
theorem ObjOk.stay (x : ObjOk P w H h a o) (k : ∀ b u, (b = a ∨ H b = some (.own a)) → h.get? b = some u → h'.get? b = some u)
    (ho : ∀ b, H b = some (.own a) → H' b = some (.own a)) (ht : ∀ b xs, H b = some (.tup xs) → H' b = some (.tup xs)) : ObjOk P w H' h' a o := by
  induction o with
  | lst xs => obtain ⟨z, its, n, r, e⟩ := x; exact ⟨z, its, n, r, k _ _ (.inl rfl) e⟩
  | tup xs => obtain ⟨z, its, r, ob, e, c⟩ := x; exact ⟨z, its, r, ob, k _ _ (.inl rfl) e, c⟩
  | dK kvs => obtain ⟨z, y, vs, r, ob, es, ep, e, c⟩ := x; exact ⟨z, y, vs, r, ob, es, ep, k _ _ (.inl rfl) e, c⟩
  | dT kvs =>
    obtain ⟨z, y, xs, r, ob, es, ep, e, c⟩ := x
    exact ⟨z, y, xs, Paired.mapP r fun p q z => ⟨z.1, ht _ _ z.2.1, z.2.2⟩, ob, es, ep, k _ _ (.inl rfl) e, c⟩
  | set S n => obtain ⟨ob, es, ep, t, e, c⟩ := x; exact ⟨ob, es, ep, t, k _ _ (.inl rfl) e, c⟩
  | ins C dx fs =>
    obtain ⟨d, z, ne, e, mA, ⟨od, es, ep, e2, c⟩, r⟩ := x
    exact ⟨ho _ d, z, ne, k _ _ (.inl rfl) e, mA, ⟨od, es, ep, k _ _ (.inr d) e2, c⟩, r⟩
  | own y => obtain ⟨ob, e⟩ := x; exact ⟨ob, k _ _ (.inl rfl) e⟩
  | xd fs => obtain ⟨mA, ⟨od, es, ep, e, c⟩, r⟩ := x; exact ⟨mA, ⟨od, es, ep, k _ _ (.inl rfl) e, c⟩, r⟩
  | rng lo hi => obtain ⟨t, u, v, e⟩ := x; exact ⟨t, u, v, k _ _ (.inl rfl) e⟩
  | frz ob u ih => obtain ⟨e, q⟩ := x; exact ⟨k _ _ (.inl rfl) e, ih q⟩
  | tbl ps =>
    have e : h.get? a = some { cls := .none, data := .fields ps } := x
    show h'.get? a = some { cls := .none, data := .fields ps }
    exact k a _ (.inl rfl) e
  | met f y =>
    have e : h.get? a = some (PySem.W.methodObj (.ref f) (.ref y)) := x
    show h'.get? a = some (PySem.W.methodObj (.ref f) (.ref y))
    exact k a _ (.inl rfl) e
  | ext φ => obtain ⟨p, ⟨o, e⟩, st⟩ := x; exact ⟨st _ _ p fun o q => k _ _ (.inl rfl) q, ⟨o, k _ _ (.inl rfl) e⟩, st⟩
theorem HOk.lt (x : HOk P w H h) (e : H a = some o) : a < h.objs.size := (x a o e).lt
theorem HOk.fresh (x : HOk P w H h) (e : h.objs.size ≤ a) : H a = none := by
  cases q : H a with
  | none => rfl
  | some u => exact absurd (Nat.lt_of_lt_of_le (x.lt q) e) (Nat.lt_irrefl _)
theorem HOk.kept (x : HOk P w H h) (k : ∀ b u, h.get? b = some u → h'.get? b = some u) : HOk P w H h' := fun a o e =>
  (x a o e).stay (fun b u _ q => k b u q) (fun _ q => q) fun _ _ q => q
theorem HOk.laid (x : HOk P w H h) (k : ∀ b u, h.get? b = some u → h'.get? b = some u) (hp : h.objs.size ≤ a) (new : ObjOk P w (upd H a o) h' a o) : HOk P w (upd H a o) h' := fun b u e => by
  have hn := x.fresh hp
  by_cases hb : b = a
  · subst hb; rw [upd_same] at e; cases e; exact new
  · rw [upd_ne hb] at e
    exact (x b u e).stay (fun c v _ q => k c v q) (fun c q => by rw [upd_ne (ne_of_none q hn)]; exact q) fun c xs q => by rw [upd_ne (ne_of_none q hn)]; exact q
end
def Rd (H : Hp) (a : Addr) (u : HO) : Prop := H a = some u ∨ ∃ o, H a = some (.frz o u)
theorem Rd.of {H : Hp} {a : Addr} {u : HO} (h : H a = some u) : Rd H a u := .inl h
theorem Rd.ok {P : Program} {w : World} {H : Hp} {h : Heap} {a : Addr} {u : HO} (r : Rd H a u) (x : HOk P w H h) : ObjOk P w H h a u := by
  rcases r with r | ⟨o, r⟩
  · exact x a u r
  · obtain ⟨_, q⟩ := x a _ r
    exact q
def Mut : Option HO → Prop
  | some (.lst _) => True
  | some (.dK _) => True
  | some (.dT _) => True
  | some (.set _ _) => True
  | some (.ins _ _ _) => True
  | some (.ext _) => True
  | _ => False
section
variable {P : Program} {w : World} {H : Hp} {h h' : Heap} {x e : Addr} {o' : HO}
theorem HOk.write (ok : HOk P w H h) (mu : Mut (H x)) (he : e = x ∨ H e = some (.own x)) (k : ∀ b u, b ≠ e → h.get? b = some u → h'.get? b = some u) (heo : ∃ u, h'.get? e = some u)
    (new : ObjOk P w (upd H x o') h' x o') : HOk P w (upd H x o') h' := fun b u q => by
  have nown : ∀ c y, H c = some (.own y) → c ≠ x := fun c y r z => by subst z; rw [r] at mu; exact mu
  have ntup : ∀ c xs, H c = some (.tup xs) → c ≠ x := fun c xs r z => by subst z; rw [r] at mu; exact mu
  by_cases hb : b = x
  · subst hb; rw [upd_same] at q; cases q; exact new
  · rw [upd_ne hb] at q
    by_cases hbe : b = e
    · have q' : H b = some (.own x) := by
        rcases he with z | z
        · exact absurd (hbe.trans z) hb
        · rw [hbe]; exact z
      rw [q] at q'; cases q'
      obtain ⟨v, hv⟩ := heo
      exact ⟨v, by rw [hbe]; exact hv⟩
    · refine (ok b u q).stay (fun c v hc r => k c v ?_ r) (fun c r => by rw [upd_ne (nown c b r)]; exact r) fun c xs r => by rw [upd_ne (ntup c xs r)]; exact r
      rcases hc with rfl | hc
      · exact hbe
      · rintro rfl
        rcases he with z | z
        · exact nown c b hc z
        · rw [hc] at z; cases z; exact hb rfl
end
structure Un (fs ex : List Addr) (H H' : Hp) (h h' : Heap) : Prop where
  keep : ∀ b o, h.get? b = some o → H b = none → b ∉ fs → b ∉ ex → h'.get? b = some o
  slot : ∀ b o, h.get? b = some o → H b = none → b ∈ fs → b ∉ ex → ∃ sl, h'.get? b = some { o with slots := sl }
  free : ∀ b o, h.get? b = some o → H b = none → b ∉ ex → H' b = none
  there : ∀ b o, h.get? b = some o → b ∉ ex → ∃ o', h'.get? b = some o'
  tups : ∀ b xs, H b = some (.tup xs) → H' b = some (.tup xs)
  frzs : ∀ b o u, H b = some (.frz o u) → H' b = some (.frz o u)
  tbls : ∀ b ps, H b = some (.tbl ps) → ∃ more, H' b = some (.tbl (ps ++ more))
section
variable {fs fs' ex ex' : List Addr} {H H1 H2 : Hp} {h h1 h2 h' : Heap} {a x e : Addr} {o : HO}
theorem Un.any (u : Un fs ex H H1 h h1) {b : Addr} {ob : Obj} (q : h.get? b = some ob) (n : H b = none) (hx : b ∉ ex) : ∃ sl, h1.get? b = some { ob with slots := sl } := by
  by_cases hb : b ∈ fs
  · exact u.slot b ob q n hb hx
  · exact ⟨ob.slots, u.keep b ob q n hb hx⟩
theorem Un.trans (a : Un fs ex H H1 h h1) (b : Un fs ex H1 H2 h1 h2) : Un fs ex H H2 h h2 where
  keep := fun c ob q n hc hx => b.keep c ob (a.keep c ob q n hc hx) (a.free c ob q n hx) hc hx
  slot := fun c ob q n hc hx => by
    obtain ⟨sl, e1⟩ := a.slot c ob q n hc hx
    obtain ⟨sl', e2⟩ := b.slot c _ e1 (a.free c ob q n hx) hc hx
    exact ⟨sl', e2⟩
  free := fun c ob q n hx => by
    obtain ⟨o', e1⟩ := a.there c ob q hx
    exact b.free c o' e1 (a.free c ob q n hx) hx
  there := fun c ob q hx => by
    obtain ⟨o', e1⟩ := a.there c ob q hx
    exact b.there c o' e1 hx
  tups := fun c xs q => b.tups c xs (a.tups c xs q)
  frzs := fun c ob xs q => b.frzs c ob xs (a.frzs c ob xs q)
  tbls := fun c ps q => by
    obtain ⟨m1, e1⟩ := a.tbls c ps q
    obtain ⟨m2, e2⟩ := b.tbls c _ e1
    exact ⟨m1 ++ m2, by rw [e2, Array.append_assoc]⟩
theorem Un.kept (k : ∀ b u, h.get? b = some u → h'.get? b = some u) : Un fs ex H H h h' :=
  ⟨fun b ob q _ _ _ => k b ob q, fun b ob q _ _ _ => ⟨ob.slots, k b ob q⟩, fun _ _ _ n _ => n, fun b ob q _ => ⟨ob, k b ob q⟩, fun _ _ q => q, fun _ _ _ q => q, fun _ ps q => ⟨#[], by rw [q]; simp⟩⟩
theorem Un.refl : Un fs ex H H h h := Un.kept fun _ _ q => q
theorem Un.laid (k : ∀ b u, h.get? b = some u → h'.get? b = some u) (hp : h.objs.size ≤ a) (hn : H a = none) : Un fs ex H (upd H a o) h h' where
  keep := fun b u q _ _ _ => k b u q
  slot := fun b u q _ _ _ => ⟨u.slots, k b u q⟩
  free := fun b u q n _ => by rw [upd_ne (Nat.ne_of_lt (Nat.lt_of_lt_of_le (Heap.lt_size q) hp))]; exact n
  there := fun b u q _ => ⟨u, k b u q⟩
  tups := fun b xs q => by rw [upd_ne (ne_of_none q hn)]; exact q
  frzs := fun b u xs q => by rw [upd_ne (ne_of_none q hn)]; exact q
  tbls := fun b ps q => ⟨#[], by rw [upd_ne (ne_of_none q hn), q]; simp⟩
theorem Un.write (mu : Mut (H x)) (he : e = x ∨ H e = some (.own x)) (k : ∀ b u, b ≠ e → h.get? b = some u → h'.get? b = some u) (heo : ∃ u, h'.get? e = some u) : Un fs ex H (upd H x o) h h' := by
  have hx : ∀ b, H b = none → b ≠ x := fun b n z => by subst z; rw [n] at mu; exact mu
  have hb : ∀ b, H b = none → b ≠ e := fun b n z => by
    subst z
    rcases he with r | r
    · exact hx b n r
    · rw [n] at r; cases r
  have hm : ∀ b u, H b = some u → ¬ Mut (some u) → b ≠ x := fun b u q nm z => by subst z; rw [q] at mu; exact nm mu
  refine ⟨fun b u q n _ _ => k b u (hb b n) q, fun b u q n _ _ => ⟨u.slots, k b u (hb b n) q⟩, fun b u q n _ => by rw [upd_ne (hx b n)]; exact n, fun b u q _ => ?_,
    fun b xs q => by rw [upd_ne (hm b _ q fun z => z)]; exact q, fun b u xs q => by rw [upd_ne (hm b _ q fun z => z)]; exact q, fun b ps q => ⟨#[], by rw [upd_ne (hm b _ q fun z => z), q]; simp⟩⟩
  by_cases hbe : b = e
  · subst hbe; exact heo
  · exact ⟨u, k b u hbe q⟩
theorem Un.mono (u : Un fs ex H H1 h h1) (hs : ∀ b ∈ fs, b ∈ fs') (hx : ∀ b ∈ ex, b ∈ ex') : Un fs' ex' H H1 h h1 :=
  ⟨fun b ob q n hb he => u.keep b ob q n (fun z => hb (hs b z)) fun z => he (hx b z), fun _ _ q n _ he => u.any q n fun z => he (hx _ z), fun b ob q n he => u.free b ob q n fun z => he (hx b z), fun b ob q he => u.there b ob q fun z => he (hx b z), u.tups, u.frzs, u.tbls⟩
end
def trk (h : Heap) (H : Hp) : List Addr := (List.range h.objs.size).filter fun a => (H a).isSome
def hidT (h : Heap) (H : Hp) : Heap := PySem.W.hideAll h (trk h H)
theorem hidT_size (h : Heap) (H : Hp) : (hidT h H).objs.size = h.objs.size := PySem.W.hideAll_size _ _
theorem hidT_get {h : Heap} {H : Hp} {b : Addr} {o : Obj} (e : h.get? b = some o) (n : H b = none) : (hidT h H).get? b = some o :=
  PySem.W.hideAll_get _ e fun hm => by
    have q : (H b).isSome = true := (List.mem_filter.mp hm).2
    rw [n] at q; simp at q
theorem of_hidT {h : Heap} {H : Hp} {b : Addr} {o : Obj} (e : (hidT h H).get? b = some o) : h.get? b = some o ∧ H b = none := by
  have e' : h.get? b = some o := PySem.W.of_hideAll (trk h H) e
  refine ⟨e', ?_⟩
  cases q : H b with
  | none => rfl
  | some x =>
    have hm : b ∈ trk h H := List.mem_filter.mpr ⟨List.mem_range.mpr (Heap.lt_size e'), by simp [q]⟩
    have z : (hidT h H).get? b = none := PySem.W.hideAll_none (trk h H) hm
    rw [z] at e; cases e
def allNews (g h : Heap) (L : Addr) : List (Addr × Obj) := (List.range h.objs.size).filterMap fun a => if a = L ∨ (g.get? a).isSome = true then none else (h.get? a).map fun o => (a, o)
def rest (g h : Heap) (L d : Addr) : List (Addr × Obj) := (allNews g h L).filter fun p => decide (p.1 ≠ d)
end L2
namespace L2
open PySem PySem.Spec PyProof.Rows
structure Mod (K : PySem.W.Frag) (mg : Str → Option Value) (base : Heap) : Prop where
  kin : K.In base
  glob : base.Ns mainGlobals mg
  blt : ∃ mb, base.Ns builtinsNs mb ∧ ∀ x : Str, x ≠ "__name__" → mb x = bootBuiltins x
  nolimit : base.NoLimit
structure Cx where
  prog : Program
  w : World
  K : PySem.W.Frag
  mg : Str → Option Value
  base : Heap
  A : Around
  N : List Str
  s_0 : Shared
  H_0 : Hp
  env : Env
  outer : List Env
  stack : List Env
  ex : List Addr
  fn : Str → Bool
  calm : Bool
  pn : List (Addr × Obj)
  xe : Value → Shared → Prop
def frs (l : List Env) : List Addr := l.filterMap (·.frame)
abbrev Cx.fs (X : Cx) : List Addr := frs X.outer
def Vis (sc : Scope) (x : Str) : Prop := sc.names.lookup x = some .local ∨ sc.names.lookup x = some .cell ∨ sc.names.lookup x = some .free
def Loc (sc : Scope) (x : Str) : Prop := sc.names.lookup x = some .local ∨ sc.names.lookup x = some .cell
def Look (env : Env) (h : Heap) (m : Str → Option Value) (x : Str) (u : Value) : Prop :=
  (env.kindOf x = some .local ∧ m x = some u) ∨ ((env.kindOf x = some .cell ∨ env.kindOf x = some .free) ∧ ∃ c, env.cells.lookup x = some c ∧ h.IsCell c (some u))
structure Cx.Ok (X : Cx) : Prop where
  mod : Mod X.K X.mg X.base
  kind : X.env.scope.kind = .function
  glob : X.env.globals = mainGlobals
  blt : X.env.builtins = builtinsNs
  above : X.s_0.heap.objs.size ≤ X.env.locals
  inj : ∀ x y c, X.env.cells.lookup x = some c → X.env.cells.lookup y = some c → x = y
  has : ∀ x, (X.env.kindOf x = some .cell ∨ X.env.kindOf x = some .free) → ∃ c, X.env.cells.lookup x = some c
  cab : ∀ x c, X.fn x = true → X.env.cells.lookup x = some c → X.s_0.heap.objs.size ≤ c
  hd : X.calm = true → X.A.handled = none
  frames : X.A.frames = some X.stack
  stk : X.stack = X.outer ∨ (X.stack = X.env :: X.outer ∧ X.env.frame = some X.env.locals)
  exf : ∀ b ∈ X.ex, b ≠ X.env.locals ∧ ∀ x c, X.env.cells.lookup x = some c → c ≠ b
  bs : ∀ b o, X.base.get? b = some o → X.s_0.heap.get? b = some o ∧ X.H_0 b = none
  bsz : X.base.objs.size ≤ X.s_0.heap.objs.size
  noex : ∀ b o, X.base.get? b = some o → b ∉ X.ex
  exfs : ∀ b ∈ X.ex, b ∉ X.fs
  funs : X.s_0.heap.FunFrames X.base X.outer
  frf : ∀ b ∈ X.fs, X.H_0 b = none
structure Inv (X : Cx) (pins : List (Addr × Obj)) (σ : List (Option V)) (H : Hp) (s : Shared) : Prop where
  ok : X.Ok
  os : s.os = X.s_0.os
  bare : AllBare s.gens
  base : Un X.fs X.ex X.H_0 H X.s_0.heap s.heap
  loc : ∃ m, s.heap.Ns X.env.locals m ∧ ∀ (i : Nat) (x : Str) (v : V), X.N[i]? = some x → σ[i]? = some (some v) → Vis X.env.scope x → ∃ u, RelV v u ∧ Look X.env s.heap m x u
  cell : ∀ x c, X.env.cells.lookup x = some c → ∃ v, s.heap.IsCell c v
  free : H X.env.locals = none
  freeC : ∀ x c, X.env.cells.lookup x = some c → H c = none
  pin : ∀ p ∈ X.pn ++ pins, s.heap.get? p.1 = some p.2 ∧ H p.1 = none ∧ p.1 ≠ X.env.locals ∧ p.1 ∉ X.fs ∧ ∀ v, p.2.data ≠ .cell v
  hok : HOk X.prog X.w H s.heap
  len : σ.length = X.N.length
section
variable {X : Cx} {pins : List (Addr × Obj)} {σ : List (Option V)} {H H' : Hp} {s : Shared} {h' : Heap}
theorem Cx.Ok.nofr (ok : X.Ok) {b : Addr} {o : Obj} (e : X.base.get? b = some o) : b ∉ X.fs := fun hb => by
  have := (ok.funs.mem hb).1
  rw [e] at this; cases this
theorem Inv.bs (I : Inv X pins σ H s) : ∀ b o, X.base.get? b = some o → s.heap.get? b = some o ∧ H b = none := fun b o e =>
  ⟨I.base.keep b o (I.ok.bs b o e).1 (I.ok.bs b o e).2 (I.ok.nofr e) (I.ok.noex b o e), I.base.free b o (I.ok.bs b o e).1 (I.ok.bs b o e).2 (I.ok.noex b o e)⟩
theorem Inv.bk (I : Inv X pins σ H s) : ∀ b o, X.base.get? b = some o → s.heap.get? b = some o := fun b o e => (I.bs b o e).1
theorem Inv.mod (I : Inv X pins σ H s) : Mod X.K X.mg X.base := I.ok.mod
theorem Inv.kIn (I : Inv X pins σ H s) : X.K.In s.heap := I.ok.mod.kin.keeps I.bk
theorem Inv.nolimit (I : Inv X pins σ H s) : s.heap.NoLimit := I.ok.mod.nolimit.keeps I.bk
theorem Inv.fr (I : Inv X pins σ H s) : ∃ m, Fr X.base X.env.locals s.heap m :=
  let ⟨m, hn, _⟩ := I.loc
  ⟨m, hn, I.bk, Nat.le_trans I.ok.bsz I.ok.above⟩
theorem Inv.lt (I : Inv X pins σ H s) : X.env.locals < s.heap.objs.size := let ⟨_, hn, _⟩ := I.loc; hn.lt
theorem Inv.sz (I : Inv X pins σ H s) : X.s_0.heap.objs.size ≤ s.heap.objs.size := Nat.le_trans I.ok.above (Nat.le_of_lt I.lt)
theorem Inv.nofs (I : Inv X pins σ H s) {a : Addr} (h : s.heap.objs.size ≤ a) : a ∉ X.fs := fun hb => by
  obtain ⟨_, o, ho, _⟩ := I.ok.funs.mem hb
  exact absurd (Nat.lt_of_lt_of_le (Heap.lt_size ho) (Nat.le_trans I.sz h)) (Nat.lt_irrefl _)
theorem Inv.cne (I : Inv X pins σ H s) : ∀ x c, X.env.cells.lookup x = some c → c ≠ X.env.locals := fun x c e z => by
  obtain ⟨v, o, ho, hd⟩ := I.cell x c e
  obtain ⟨m, ⟨o', es, ep, ho', hd', _⟩, _⟩ := I.loc
  rw [z, ho'] at ho; cases ho; rw [hd'] at hd; cases hd
theorem Inv.funs (I : Inv X pins σ H s) : s.heap.FunFrames X.base X.outer := by
  have all : ∀ (l : List Env), (∀ b ∈ frs l, b ∈ X.fs) → X.s_0.heap.FunFrames X.base l → s.heap.FunFrames X.base l := by
    intro l
    induction l with
    | nil => intro _ _; trivial
    | cons env r ih =>
      intro hs hl
      obtain ⟨hk, ⟨L, o, hf, hn, ho, hd⟩, hr⟩ := hl
      have hL : L ∈ X.fs := hs L (by unfold frs; rw [List.filterMap_cons, hf]; exact List.mem_cons_self)
      obtain ⟨sl, e⟩ := I.base.slot L o ho (I.ok.frf L hL) hL fun z => I.ok.exfs L z hL
      exact ⟨hk, ⟨L, _, hf, hn, e, hd⟩, ih (fun b hb => hs b (by unfold frs; rw [List.filterMap_cons, hf]; exact List.mem_cons_of_mem _ hb)) hr⟩
  exact all X.outer (fun _ hb => hb) I.ok.funs
theorem Inv.stack (I : Inv X pins σ H s) : s.heap.FunFrames X.base X.stack := by
  rcases I.ok.stk with e | ⟨e, hf⟩
  · rw [e]; exact I.funs
  · rw [e]
    obtain ⟨m, hn, _⟩ := I.loc
    refine .cons (by rw [I.ok.kind]; decide) hf hn ?_ I.funs
    exact Heap.get?_none_of_le (Nat.le_trans I.ok.bsz I.ok.above)
theorem Inv.stkSub (I : Inv X pins σ H s) : ∀ b ∈ frs X.stack, b ∈ X.env.locals :: X.fs := fun b hb => by
  rcases I.ok.stk with e | ⟨e, hf⟩
  · rw [e] at hb; exact List.mem_cons_of_mem _ hb
  · rw [e] at hb
    unfold frs at hb
    rw [List.filterMap_cons, hf] at hb
    exact hb
theorem Inv.stkFree (I : Inv X pins σ H s) : ∀ b ∈ frs X.stack, H b = none := fun b hb => by
  rcases List.mem_cons.mp (I.stkSub b hb) with e | hb
  · rw [e]; exact I.free
  · obtain ⟨_, o, ho, _⟩ := I.ok.funs.mem hb
    exact I.base.free b o ho (I.ok.frf b hb) fun z => I.ok.exfs b z hb
theorem Inv.step {g' : Array GenState} {t' : Nat} {d' : Drawn} {ch : List Addr} (I : Inv X pins σ H s)
    (hch : ∀ b ∈ ch, (b ∈ X.ex ∨ X.s_0.heap.objs.size ≤ b) ∧ b ≠ X.env.locals ∧ (∀ x c, X.env.cells.lookup x = some c → c ≠ b) ∧ ∀ p ∈ X.pn ++ pins, p.1 ≠ b)
    (keep : ∀ b o, b ≠ X.env.locals → b ∉ X.fs → b ∉ ch → s.heap.get? b = some o → H b = none → h'.get? b = some o)
    (slot : ∀ b o, b ≠ X.env.locals → b ∈ X.fs → b ∉ ch → s.heap.get? b = some o → H b = none → ∃ sl, h'.get? b = some { o with slots := sl }) (free : ∀ b o, b ∉ ch → s.heap.get? b = some o → H b = none → H' b = none)
    (there : ∀ b o, b ∉ ch → s.heap.get? b = some o → ∃ o', h'.get? b = some o')
    (tups : ∀ b xs, H b = some (.tup xs) → H' b = some (.tup xs)) (frzs : ∀ b o u, H b = some (.frz o u) → H' b = some (.frz o u)) (tbls : ∀ b ps, H b = some (.tbl ps) → ∃ more, H' b = some (.tbl (ps ++ more)))
    (ns : ∀ m, s.heap.Ns X.env.locals m → h'.Ns X.env.locals m) (hok : HOk X.prog X.w H' h') (hg : AllBare g') :
    Inv X pins σ H' { s with heap := h', gens := g', drawn := d', toks := t' } := by
  have neL : ∀ b o, X.s_0.heap.get? b = some o → b ≠ X.env.locals := fun b o e => Nat.ne_of_lt (Nat.lt_of_lt_of_le (Heap.lt_size e) I.ok.above)
  have neC : ∀ b o, X.s_0.heap.get? b = some o → b ∉ X.ex → b ∉ ch := fun b o e hx hb => by
    rcases (hch b hb).1 with z | z
    · exact hx z
    · exact absurd (Nat.lt_of_lt_of_le (Heap.lt_size e) z) (Nat.lt_irrefl _)
  have cellK : ∀ x c, X.env.cells.lookup x = some c → ∀ v, s.heap.IsCell c v → h'.IsCell c v := fun x c e v ⟨o, ho, hd⟩ => by
    have nch : c ∉ ch := fun z => (hch c z).2.2.1 x c e rfl
    by_cases hc : c ∈ X.fs
    · obtain ⟨sl, q⟩ := slot c o (I.cne x c e) hc nch ho (I.freeC x c e)
      exact ⟨_, q, hd⟩
    · exact ⟨o, keep c o (I.cne x c e) hc nch ho (I.freeC x c e), hd⟩
  refine ⟨I.ok, I.os, hg, ⟨fun b o e n hb hx => ?_, fun b o e n hb hx => ?_, fun b o e n hx => ?_, fun b o e hx => ?_, fun b xs e => tups b xs (I.base.tups b xs e), fun b o xs e => frzs b o xs (I.base.frzs b o xs e), fun b ps e => ?_⟩, ?_, fun x c e => ?_, ?_, fun x c e => ?_, fun p hp => ?_, hok, I.len⟩
  · exact keep b o (neL b o e) hb (neC b o e hx) (I.base.keep b o e n hb hx) (I.base.free b o e n hx)
  · obtain ⟨sl, e1⟩ := I.base.slot b o e n hb hx
    obtain ⟨sl', e2⟩ := slot b _ (neL b o e) hb (neC b o e hx) e1 (I.base.free b o e n hx)
    exact ⟨sl', e2⟩
  · obtain ⟨o', e1⟩ := I.base.there b o e hx
    exact free b o' (neC b o e hx) e1 (I.base.free b o e n hx)
  · obtain ⟨o', e1⟩ := I.base.there b o e hx
    exact there b o' (neC b o e hx) e1
  · obtain ⟨m1, e1⟩ := I.base.tbls b ps e
    obtain ⟨m2, e2⟩ := tbls b _ e1
    exact ⟨m1 ++ m2, by rw [e2, Array.append_assoc]⟩
  · obtain ⟨m, hn, hl⟩ := I.loc
    refine ⟨m, ns m hn, fun i x v e1 e2 e3 => ?_⟩
    obtain ⟨u, r, l⟩ := hl i x v e1 e2 e3
    refine ⟨u, r, ?_⟩
    rcases l with l | ⟨k, c, e, z⟩
    · exact .inl l
    · exact .inr ⟨k, c, e, cellK x c e _ z⟩
  · obtain ⟨v, z⟩ := I.cell x c e
    exact ⟨v, cellK x c e v z⟩
  · obtain ⟨m, ⟨o, _, _, ho, _⟩, _⟩ := I.loc
    exact free _ o (fun z => (hch _ z).2.1 rfl) ho I.free
  · obtain ⟨v, o, ho, hd⟩ := I.cell x c e
    exact free c o (fun z => (hch c z).2.2.1 x c e rfl) ho (I.freeC x c e)
  · obtain ⟨e, n, ne, nf, d⟩ := I.pin p hp
    have nch : p.1 ∉ ch := fun z => (hch p.1 z).2.2.2 p hp rfl
    exact ⟨keep p.1 p.2 ne nf nch e n, free p.1 p.2 nch e n, ne, nf, d⟩
theorem Inv.un {t' : Nat} (I : Inv X pins σ H s) (u : Un X.fs [] H H' s.heap h') (hok : HOk X.prog X.w H' h') : Inv X pins σ H' { s with heap := h', toks := t' } := by
  obtain ⟨m, ⟨o, es, ep, ho, r⟩, _⟩ := id I.loc
  obtain ⟨sl, hL⟩ := u.any ho I.free (by simp)
  exact I.step (g' := s.gens) (d' := s.drawn) (ch := []) (fun _ z => nomatch z) (fun b o _ hb _ e n => u.keep b o e n hb (by simp)) (fun b o _ hb _ e n => u.slot b o e n hb (by simp)) (fun b o _ e n => u.free b o e n (by simp)) (fun b o _ e => u.there b o e (by simp)) u.tups u.frzs u.tbls (fun m' hm => by
    obtain ⟨o', es', ep', ho', r'⟩ := hm
    rw [ho] at ho'; cases ho'
    exact ⟨_, es', ep', hL, r'⟩) hok I.bare
theorem Inv.call {g' : Array GenState} {t' : Nat} {d' : Drawn} {ch : List Addr} (I : Inv X pins σ H s) (u : Un (frs X.stack) ch H H' s.heap h') (hok : HOk X.prog X.w H' h') (hg : AllBare g')
    (hch : ∀ b ∈ ch, (b ∈ X.ex ∨ X.s_0.heap.objs.size ≤ b) ∧ b ≠ X.env.locals ∧ (∀ x c, X.env.cells.lookup x = some c → c ≠ b) ∧ ∀ p ∈ X.pn ++ pins, p.1 ≠ b) :
    Inv X pins σ H' { s with heap := h', gens := g', drawn := d', toks := t' } := by
  obtain ⟨m, ⟨o, es, ep, ho, r⟩, _⟩ := id I.loc
  obtain ⟨sl, hL⟩ := u.any ho I.free fun z => (hch _ z).2.1 rfl
  exact I.step (ch := ch) hch (fun b o hL hb hc e n => u.keep b o e n (fun z => (List.mem_cons.mp (I.stkSub b z)).elim hL hb) hc) (fun b o _ _ hc e n => u.any e n hc) (fun b o hc e n => u.free b o e n hc) (fun b o hc e => u.there b o e hc) u.tups u.frzs u.tbls (fun m' hm => by
    obtain ⟨o', es', ep', ho', r'⟩ := hm
    rw [ho] at ho'; cases ho'
    exact ⟨_, es', ep', hL, r'⟩) hok hg
theorem Inv.turned {t' : Nat} {it : Addr} (I : Inv X pins σ H s) (k : ∀ b o, b ≠ it → s.heap.get? b = some o → h'.get? b = some o) (hn : H it = none) (hL : it ≠ X.env.locals)
    (h1 : it ∈ X.ex ∨ X.s_0.heap.objs.size ≤ it) (h2 : ∀ x c, X.env.cells.lookup x = some c → c ≠ it) (h3 : ∀ p ∈ X.pn ++ pins, p.1 ≠ it) : Inv X pins σ H { s with heap := h', toks := t' } := by
  have nit : ∀ b u, H b = some u → b ≠ it := fun b u e z => by rw [z, hn] at e; cases e
  refine I.step (g' := s.gens) (d' := s.drawn) (ch := [it]) (fun b hb => ?_) (fun b o _ _ hc e _ => k b o (fun z => hc (by simp [z])) e) (fun b o _ _ hc e _ => ⟨o.slots, k b o (fun z => hc (by simp [z])) e⟩) (fun _ _ _ _ n => n)
    (fun b o hc e => ⟨o, k b o (fun z => hc (by simp [z])) e⟩) (fun _ _ e => e) (fun _ _ _ e => e) (fun b ps e => ⟨#[], by rw [e]; simp⟩) (fun m hm => ?_) (fun b u e => ?_) I.bare
  · have e : b = it := by simpa using hb
    subst e
    exact ⟨h1, hL, h2, h3⟩
  · obtain ⟨o, es, ep, ho, r⟩ := hm
    exact ⟨o, es, ep, k _ o (Ne.symm hL) ho, r⟩
  · refine (I.hok b u e).stay (fun c v hc q => k c v ?_ q) (fun _ q => q) fun _ _ q => q
    rcases hc with z | z
    · rw [z]; exact nit b u e
    · exact nit c _ z
theorem Inv.tok (I : Inv X pins σ H s) (t : Nat) : Inv X pins σ H { s with toks := t } := I.un (h' := s.heap) (t' := t) Un.refl I.hok
theorem Inv.kept {t' : Nat} (I : Inv X pins σ H s) (k : ∀ b u, s.heap.get? b = some u → h'.get? b = some u) : Inv X pins σ H { s with heap := h', toks := t' } := I.un (Un.kept k) (I.hok.kept k)
theorem Inv.laid {a : Addr} {o : HO} {t' : Nat} (I : Inv X pins σ H s) (k : ∀ b u, s.heap.get? b = some u → h'.get? b = some u) (hp : s.heap.objs.size ≤ a) (new : ObjOk X.prog X.w (upd H a o) h' a o) :
    Inv X pins σ (upd H a o) { s with heap := h', toks := t' } := I.un (Un.laid k hp (I.hok.fresh hp)) (I.hok.laid k hp new)
theorem Inv.write {x e : Addr} {o : HO} {t' : Nat} (I : Inv X pins σ H s) (mu : Mut (H x)) (he : e = x ∨ H e = some (.own x)) (k : ∀ b u, b ≠ e → s.heap.get? b = some u → h'.get? b = some u) (heo : ∃ u, h'.get? e = some u)
    (new : ObjOk X.prog X.w (upd H x o) h' x o) : Inv X pins σ (upd H x o) { s with heap := h', toks := t' } := I.un (Un.write mu he k heo) (I.hok.write mu he k heo new)
theorem Inv.weak {σ' : List (Option V)} (I : Inv X pins σ H s) (hl : σ'.length = σ.length) (w : ∀ (i : Nat) v, σ'[i]? = some (some v) → σ[i]? = some (some v)) : Inv X pins σ' H s :=
  ⟨I.ok, I.os, I.bare, I.base, let ⟨m, hn, hl'⟩ := I.loc; ⟨m, hn, fun i x v e1 e2 e3 => hl' i x v e1 (w i v e2) e3⟩, I.cell, I.free, I.freeC, I.pin, I.hok, hl.trans I.len⟩
theorem Inv.pins_of {pins' : List (Addr × Obj)} (I : Inv X pins σ H s) (h : ∀ p ∈ pins', s.heap.get? p.1 = some p.2 ∧ H p.1 = none ∧ p.1 ≠ X.env.locals ∧ p.1 ∉ X.fs ∧ ∀ v, p.2.data ≠ .cell v) : Inv X pins' σ H s :=
  ⟨I.ok, I.os, I.bare, I.base, I.loc, I.cell, I.free, I.freeC, fun p hp => (List.mem_append.mp hp).elim (fun z => I.pin p (List.mem_append_left _ z)) (h p), I.hok, I.len⟩
theorem nodup_ix {N : List Str} (hN : N.Nodup) {i j : Nat} {x : Str} (a : N[i]? = some x) (b : N[j]? = some x) : i = j := by
  obtain ⟨h1, e1⟩ := List.getElem?_eq_some_iff.mp a
  obtain ⟨h2, e2⟩ := List.getElem?_eq_some_iff.mp b
  exact (List.getElem_inj hN).mp (e1.trans e2.symm)
theorem store_ok2 {M : Model} {A : Around} {E : Value → Shared → Prop} {i : Nat} {x : Str} {v : V} {u : Value} {Q : Unit → Shared → Prop} (I : Inv X pins σ H s) (hN : X.N.Nodup) (hi : X.N[i]? = some x) (hx : Loc X.env.scope x) (r : RelV v u)
    (h : ∀ s', Inv X pins (σ.set i (some v)) H s' → (∃ a, Heap.SameBut a s.heap s'.heap ∧ (a = X.env.locals ∨ X.env.cells.lookup x = some a)) → Q () s') (hf : X.fn x = true ∨ X.env.scope.names.lookup x = some .local := by first | exact .inl rfl | exact .inr rfl | assumption) : wpAny M A (storeName X.env x u) Q E s := by
  obtain ⟨m, hn, hl⟩ := id I.loc
  have hcls : (X.env.scope.kind == .class || (X.env.scope.kind == .module && X.env.locals != X.env.globals)) = false := by rw [I.ok.kind]; rfl
  have hiσ : i < σ.length := by rw [I.len]; exact (List.getElem?_eq_some_iff.mp hi).1
  have cne := I.cne
  have tracked : ∀ {a : Addr} {h' : Heap}, (∃ o, s.heap.get? a = some o ∧ H a = none) → Heap.SameBut a s.heap h' → HOk X.prog X.w H h' := fun {a h'} ha hs b ob e => by
    obtain ⟨_, _, hfree⟩ := ha
    refine (I.hok b ob e).stay (fun c w' hc q => (hs.2 c ?_).trans q) (fun _ q => q) fun _ _ q => q
    rintro rfl
    rcases hc with rfl | hc
    · rw [hfree] at e; cases e
    · rw [hfree] at hc; cases hc
  rcases hx with hk | hk
  · refine wpAny_storeName_local hk hn (fun h' hn' hs => ?_) hcls
    obtain ⟨oL, _, _, hoL, _⟩ := id hn
    refine h _ ⟨I.ok, I.os, I.bare, ⟨fun b o e n hb hx => ?_, fun b o e n hb hx => ?_, I.base.free, fun b o e hx => ?_, I.base.tups, I.base.frzs, I.base.tbls⟩, ⟨_, hn', fun j y v' e1 e2 e3 => ?_⟩, fun y c e => ?_, I.free, I.freeC, fun p hp => ?_, tracked ⟨oL, hoL, I.free⟩ hs, by simpa using I.len⟩ ⟨_, hs, .inl rfl⟩
    · exact (hs.2 b (Nat.ne_of_lt (Nat.lt_of_lt_of_le (Heap.lt_size e) I.ok.above))).trans (I.base.keep b o e n hb hx)
    · obtain ⟨sl, e1⟩ := I.base.slot b o e n hb hx
      exact ⟨sl, (hs.2 b (Nat.ne_of_lt (Nat.lt_of_lt_of_le (Heap.lt_size e) I.ok.above))).trans e1⟩
    · obtain ⟨o', e1⟩ := I.base.there b o e hx
      exact ⟨o', (hs.2 b (Nat.ne_of_lt (Nat.lt_of_lt_of_le (Heap.lt_size e) I.ok.above))).trans e1⟩
    · by_cases hj : j = i
      · subst hj
        rw [hi] at e1; cases e1
        rw [List.getElem?_set_self hiσ] at e2
        cases e2
        exact ⟨u, r, .inl ⟨hk, by simp⟩⟩
      · rw [List.getElem?_set_ne (Ne.symm hj)] at e2
        obtain ⟨u', r', q⟩ := hl j y v' e1 e2 e3
        refine ⟨u', r', ?_⟩
        rcases q with ⟨k, e⟩ | ⟨k, c, e, z⟩
        · refine .inl ⟨k, ?_⟩
          have : y ≠ x := fun e => hj (nodup_ix hN e1 (e ▸ hi))
          simp [this, e]
        · exact .inr ⟨k, c, e, z.sameBut hs (cne y c e)⟩
    · obtain ⟨w', z⟩ := I.cell y c e
      exact ⟨w', z.sameBut hs (cne y c e)⟩
    · obtain ⟨e, n, ne, nf, d⟩ := I.pin p hp
      exact ⟨(hs.2 p.1 ne).trans e, n, ne, nf, d⟩
  · have hfn : X.fn x = true := by
      rcases hf with z | z
      · exact z
      · rw [z] at hk; cases hk
    obtain ⟨c, hc⟩ := I.ok.has x (.inl hk)
    obtain ⟨w', z⟩ := I.cell x c hc
    refine wpAny_storeName_cell I.ok.kind hk hc z (fun h' hc' hs => ?_)
    obtain ⟨oc, hoc, hocd⟩ := id z
    refine h { s with heap := h' } ⟨I.ok, I.os, I.bare, ⟨fun b o e n hb hx => ?_, fun b o e n hb hx => ?_, I.base.free, fun b o e hx => ?_, I.base.tups, I.base.frzs, I.base.tbls⟩, ⟨m, hn.sameBut hs (Ne.symm (cne x c hc)), fun j y v' e1 e2 e3 => ?_⟩, fun y c' e => ?_, I.free, I.freeC, fun p hp => ?_, tracked ⟨oc, hoc, I.freeC x c hc⟩ hs, by simpa using I.len⟩ ⟨c, hs, .inr hc⟩
    · exact (hs.2 b (Nat.ne_of_lt (Nat.lt_of_lt_of_le (Heap.lt_size e) (I.ok.cab x c hfn hc)))).trans (I.base.keep b o e n hb hx)
    · obtain ⟨sl, e1⟩ := I.base.slot b o e n hb hx
      exact ⟨sl, (hs.2 b (Nat.ne_of_lt (Nat.lt_of_lt_of_le (Heap.lt_size e) (I.ok.cab x c hfn hc)))).trans e1⟩
    · obtain ⟨o', e1⟩ := I.base.there b o e hx
      exact ⟨o', (hs.2 b (Nat.ne_of_lt (Nat.lt_of_lt_of_le (Heap.lt_size e) (I.ok.cab x c hfn hc)))).trans e1⟩
    · by_cases hj : j = i
      · subst hj
        rw [hi] at e1; cases e1
        rw [List.getElem?_set_self hiσ] at e2
        cases e2
        exact ⟨u, r, .inr ⟨.inl hk, c, hc, hc'⟩⟩
      · rw [List.getElem?_set_ne (Ne.symm hj)] at e2
        obtain ⟨u', r', q⟩ := hl j y v' e1 e2 e3
        refine ⟨u', r', ?_⟩
        rcases q with q | ⟨k, c', e, z'⟩
        · exact .inl q
        · refine .inr ⟨k, c', e, z'.sameBut hs ?_⟩
          rintro rfl
          exact hj (nodup_ix hN e1 (I.ok.inj _ _ _ e hc ▸ hi))
    · by_cases hcc : c' = c
      · subst hcc; exact ⟨_, hc'⟩
      · obtain ⟨w2, z2⟩ := I.cell y c' e
        exact ⟨w2, z2.sameBut hs hcc⟩
    · obtain ⟨e, n, ne, nf, d⟩ := I.pin p hp
      refine ⟨(hs.2 p.1 ?_).trans e, n, ne, nf, d⟩
      intro q
      rw [q, hoc] at e
      have q' : oc = p.2 := Option.some.inj e
      exact d w' (by rw [← q']; exact hocd)
theorem store_ok {M : Model} {A : Around} {E : Value → Shared → Prop} {i : Nat} {x : Str} {v : V} {u : Value} {Q : Unit → Shared → Prop} (I : Inv X pins σ H s) (hN : X.N.Nodup) (hi : X.N[i]? = some x) (hx : Loc X.env.scope x) (r : RelV v u)
    (h : ∀ s', Inv X pins (σ.set i (some v)) H s' → Q () s') (hf : X.fn x = true ∨ X.env.scope.names.lookup x = some .local := by first | exact .inl rfl | exact .inr rfl | assumption) : wpAny M A (storeName X.env x u) Q E s :=
  store_ok2 I hN hi hx r (fun s' I' _ => h s' I') hf
theorem Inv.call' {s' : Shared} {ch : List Addr} (I : Inv X pins σ H s) (ho : s'.os = s.os) (u : Un (frs X.stack) ch H H' s.heap s'.heap) (hok : HOk X.prog X.w H' s'.heap) (hg : AllBare s'.gens)
    (hch : ∀ b ∈ ch, (b ∈ X.ex ∨ X.s_0.heap.objs.size ≤ b) ∧ b ≠ X.env.locals ∧ (∀ x c, X.env.cells.lookup x = some c → c ≠ b) ∧ ∀ p ∈ X.pn ++ pins, p.1 ≠ b) : Inv X pins σ H' s' := by
  obtain ⟨h', g', d', t', o'⟩ := s'
  have e : o' = s.os := ho
  subst e
  exact I.call (g' := g') (t' := t') (d' := d') u hok hg hch
end
abbrev XK := Value → Option Addr → Hp → Prop
abbrev St := List (Option V)
abbrev VK := V → Hp → Prop
abbrev TE := St → Hp → VK → Prop
abbrev TT := St → Hp → (Bool → Hp → Prop) → Prop
abbrev TA := St → Hp → (List V → Hp → Prop) → Prop
structure Ends where
  nx : St → Hp → Prop
  rt : VK
  bk : St → Hp → Prop := fun _ _ => False
  ct : St → Hp → Prop := fun _ _ => False
abbrev TS := Ends → St → Hp → Prop
def EP (X : Cx) (pins : List (Addr × Obj)) (σ : St) (Q : VK) (u : Value) (s' : Shared) : Prop := ∃ v H', Inv X pins σ H' s' ∧ RelV v u ∧ Q v H'
def TP (X : Cx) (pins : List (Addr × Obj)) (σ : St) (Q : Bool → Hp → Prop) (b : Bool) (s' : Shared) : Prop := ∃ H', Inv X pins σ H' s' ∧ Q b H'
def AP (X : Cx) (pins : List (Addr × Obj)) (σ : St) (Q : List V → Hp → Prop) (us : List Value) (s' : Shared) : Prop := ∃ vs H', Inv X pins σ H' s' ∧ Vals vs us ∧ Q vs H'
def SP (X : Cx) (pins : List (Addr × Obj)) (D : Ends) (f : Flow) (s' : Shared) : Prop :=
  match f with
  | .next => ∃ σ' H', Inv X pins σ' H' s' ∧ D.nx σ' H'
  | .brk => ∃ σ' H', Inv X pins σ' H' s' ∧ D.bk σ' H'
  | .cont => ∃ σ' H', Inv X pins σ' H' s' ∧ D.ct σ' H'
  | .ret u => ∃ v σ' H', Inv X pins σ' H' s' ∧ RelV v u ∧ D.rt v H'
def PE (X : Cx) (e : Expr) (t : TE) : Prop :=
  ∀ (pins : List (Addr × Obj)) (s : Shared) (σ : St) (H : Hp) (Q : VK), Inv X pins σ H s → t σ H Q → wpAny (model X.prog X.w) X.A (eval e X.env) (EP X pins σ Q) X.xe s
def PT (X : Cx) (e : Expr) (t : TT) : Prop :=
  ∀ (pins : List (Addr × Obj)) (s : Shared) (σ : St) (H : Hp) (Q : Bool → Hp → Prop), Inv X pins σ H s → t σ H Q → wpAny (model X.prog X.w) X.A (isTrue e X.env (eval e X.env)) (TP X pins σ Q) X.xe s
def PW (X : Cx) (e : Expr) (t : TT) : Prop :=
  ∀ (whole : Sem Value) (pins : List (Addr × Obj)) (s : Shared) (σ : St) (H : Hp) (Q : Bool → Hp → Prop), Inv X pins σ H s → t σ H Q → wpAny (model X.prog X.w) X.A (isTrue e X.env whole) (TP X pins σ Q) X.xe s
theorem PW.pt {X : Cx} {e : Expr} {t : TT} (h : PW X e t) : PT X e t := h _
def PA (X : Cx) (es : List Expr) (t : TA) : Prop :=
  ∀ (pos : Pos) (pins : List (Addr × Obj)) (s : Shared) (σ : St) (H : Hp) (Q : List V → Hp → Prop), Inv X pins σ H s → t σ H Q → wpAny (model X.prog X.w) X.A (spliced (backTo pos (starEach es X.env))) (AP X pins σ Q) X.xe s
def PS (X : Cx) (st : Stmt) (t : TS) : Prop :=
  ∀ (pins : List (Addr × Obj)) (s : Shared) (σ : St) (H : Hp) (D : Ends), Inv X pins σ H s → t D σ H → wpAny (model X.prog X.w) X.A (exec st X.env) (SP X pins D) X.xe s
def PSs (X : Cx) (st : List Stmt) (t : TS) : Prop :=
  ∀ (pins : List (Addr × Obj)) (s : Shared) (σ : St) (H : Hp) (D : Ends), Inv X pins σ H s → t D σ H → wpAny (model X.prog X.w) X.A (execs st X.env) (SP X pins D) X.xe s
theorem thn {α : Type} {t : Sem α} {Q Q' : α → Shared → Prop} {M : Model} {A : Around} {E : Value → Shared → Prop} {s : Shared} (h : wpAny M A t Q E s) (hQ : ∀ a s, Q a s → Q' a s) : wpAny M A t Q' E s := wpAny_mono h hQ fun _ _ x => x
end L2
namespace L2
open PySem PySem.Spec PyProof.Rows
section
variable {X : Cx}
def tVar (i : Nat) : TE := fun σ H Q => ∃ v, σ[i]? = some (some v) ∧ Q v H
def tC (v : V) : TE := fun _ H Q => Q v H
theorem pe_var {i : Nat} {x : Str} {pos : Pos} (hN : X.N[i]? = some x) (hv : Vis X.env.scope x) (hd : (x == ("__debug__" : Str)) = false := by decide) (hcd : (x == ("__classdict__" : Str)) = false := by decide) : PE X (.Name x pos) (tVar i) := by
  intro pins s σ H Q I h
  obtain ⟨v, e, h⟩ := h
  obtain ⟨m, hn, hl⟩ := I.loc
  obtain ⟨u, r, l⟩ := hl i x v hN e hv
  have fin : EP X pins σ Q u s := ⟨v, H, I, r, h⟩
  rcases l with ⟨hk, hm⟩ | ⟨hk, c, hc, hcell⟩
  · exact wpAny_Name (wpAny_loadName_local I.ok.kind hk hn hm fin) hd
  · rcases hk with hk | hk
    · exact wpAny_Name (wpAny_loadName_cell I.ok.kind hk hc hcell fin) hd
    · exact wpAny_Name (wpAny_loadName_free I.ok.kind hk hc hcell fin hcd) hd
theorem pe_int {i j pos} : PE X (.Constant (.int i) j pos) (tC (.int i)) := fun _ _ _ H _ I h => wpAny_Constant_int ⟨.int i, H, I.tok _, ⟨_, rfl⟩, h⟩
theorem pe_bl {b j pos} : PE X (.Constant (.bool b) j pos) (tC (.bl b)) := fun _ _ _ H _ I h => Constant_bool ⟨.bl b, H, I, rfl, h⟩
theorem pe_non {j pos} : PE X (.Constant .none j pos) (tC .non) := fun _ _ _ H _ I h => Constant_none ⟨.non, H, I, rfl, h⟩
theorem pe_str {x j pos} : PE X (.Constant (.str x) j pos) (tC (.str x)) := fun _ _ _ H _ I h => Calls.Constant_str ⟨.str x, H, I.tok _, ⟨_, rfl⟩, h⟩
def Gl (X : Cx) (x : Str) : Prop := X.env.kindOf x = some .globalImplicit
theorem ld_glob {E : Value → Shared → Prop} {pins : List (Addr × Obj)} {s : Shared} {σ : St} {H : Hp} {x : Str} {u : Value} {pos : Pos} {Q : Value → Shared → Prop} (I : Inv X pins σ H s) (hg : Gl X x) (hm : X.mg x = some u) (h : Q u s)
    (hd : (x == ("__debug__" : Str)) = false := by decide) : wpAny (model X.prog X.w) X.A (eval (.Name x pos) X.env) Q E s :=
  Calls.Name_function_global I.ok.kind hg (Calls.loadGlobal_global (by rw [I.ok.glob]; exact I.mod.glob.keeps I.bk) hm h) hd
theorem ld_blt {E : Value → Shared → Prop} {pins : List (Addr × Obj)} {s : Shared} {σ : St} {H : Hp} {x : Str} {u : Value} {pos : Pos} {Q : Value → Shared → Prop} (I : Inv X pins σ H s) (hg : Gl X x) (hm : X.mg x = none) (hv : bootBuiltins x = some u) (h : Q u s)
    (hn : x ≠ "__name__" := by decide) (hd : (x == ("__debug__" : Str)) = false := by decide) : wpAny (model X.prog X.w) X.A (eval (.Name x pos) X.env) Q E s := by
  obtain ⟨mb, h1, h2⟩ := I.mod.blt
  exact Calls.Name_function_global I.ok.kind hg (Calls.loadGlobal_builtin (by rw [I.ok.glob]; exact I.mod.glob.keeps I.bk) hm (by rw [I.ok.blt]; exact h1.keeps I.bk) ((h2 x hn).trans hv) h) hd
theorem pe_glob {x : Str} {v : V} {u : Value} {pos : Pos} (hg : Gl X x) (hm : X.mg x = some u) (r : RelV v u) (hd : (x == ("__debug__" : Str)) = false := by decide) : PE X (.Name x pos) (tC v) :=
  fun _ _ _ H _ I h => ld_glob I hg hm ⟨v, H, I, r, h⟩ hd
theorem pe_bltn {x : Str} {v : V} {u : Value} {pos : Pos} (hg : Gl X x) (hm : X.mg x = none) (hv : bootBuiltins x = some u) (r : RelV v u) (hn : x ≠ "__name__" := by decide) (hd : (x == ("__debug__" : Str)) = false := by decide) : PE X (.Name x pos) (tC v) :=
  fun _ _ _ H _ I h => ld_blt I hg hm hv ⟨v, H, I, r, h⟩ hn hd
variable {a b : Expr} {ta tb : TE} {pos : Pos}
theorem nobehind (b : Expr) {op : CmpOp} (h : op ≠ .In) (h2 : op ≠ .NotIn) : behindInMarks op b = false := by
  have e1 : (op == CmpOp.In) = false := by cases op <;> first | rfl | exact absurd rfl h
  have e2 : (op == CmpOp.NotIn) = false := by cases op <;> first | rfl | exact absurd rfl h2
  cases b <;> simp [behindInMarks, e1, e2]
variable {tA tB' : TT} {rest : List Expr}
def tAnd (t u : TT) : TT := fun σ H Q => t σ H fun c H1 => if c = true then u σ H1 Q else Q false H1
def tOr (t u : TT) : TT := fun σ H Q => t σ H fun c H1 => if c = true then Q true H1 else u σ H1 Q
def tNot (t : TT) : TT := fun σ H Q => t σ H fun c H1 => Q (!c) H1
theorem pw_and1 (ha : PT X a tA) : PW X (.BoolOp .And [a] pos) tA := by
  intro wh pins s σ H Q I h
  refine isTrue_and (thn (ha pins s σ H Q I h) fun c s1 e => ?_)
  cases c with
  | true => exact isTrue_and_nil e
  | false => exact e
theorem pw_or1 (ha : PT X a tA) : PW X (.BoolOp .Or [a] pos) tA := by
  intro wh pins s σ H Q I h
  refine isTrue_or (thn (ha pins s σ H Q I h) fun c s1 e => ?_)
  cases c with
  | false => exact isTrue_or_nil e
  | true => exact e
theorem pw_and (ha : PT X a tA) (hb : PW X (.BoolOp .And (b :: rest) pos) tB') : PW X (.BoolOp .And (a :: b :: rest) pos) (tAnd tA tB') := by
  intro wh pins s σ H Q I h
  refine isTrue_and (thn (ha pins s σ H _ I h) fun c s1 ⟨H1, I1, q1⟩ => ?_)
  cases c with
  | true => exact hb wh pins s1 σ H1 Q I1 q1
  | false => exact ⟨H1, I1, q1⟩
theorem pw_or (ha : PT X a tA) (hb : PW X (.BoolOp .Or (b :: rest) pos) tB') : PW X (.BoolOp .Or (a :: b :: rest) pos) (tOr tA tB') := by
  intro wh pins s σ H Q I h
  refine isTrue_or (thn (ha pins s σ H _ I h) fun c s1 ⟨H1, I1, q1⟩ => ?_)
  cases c with
  | true => exact ⟨H1, I1, q1⟩
  | false => exact hb wh pins s1 σ H1 Q I1 q1
theorem pt_not (ha : PT X a tA) : PT X (.UnaryOp .Not a pos) (tNot tA) := by
  intro pins s σ H Q I h
  exact isTrue_not (ha pins s σ H (fun c H1 => Q (!c) H1) I h)
def tAndV (ta tb : TE) : TE := fun σ H Q => ta σ H fun x H1 => ∃ c, x = .bl c ∧ if c = true then tb σ H1 Q else Q (.bl false) H1
def tNotV (ta : TE) : TE := fun σ H Q => ta σ H fun x H1 => ∃ c, x = .bl c ∧ Q (.bl (!c)) H1
theorem pe_one {op} {t : TE} (h : PE X a t) : PE X (.BoolOp op [a] pos) t := fun pins s σ H Q I hw => BoolOp_one (h pins s σ H Q I hw)
theorem pe_and (ha : PE X a ta) (hb : PE X (.BoolOp .And (b :: rest) pos) tb) : PE X (.BoolOp .And (a :: b :: rest) pos) (tAndV ta tb) := by
  intro pins s σ H Q I h
  refine BoolOp_and (thn (ha pins s σ H _ I h) fun v s1 ⟨x, H1, I1, r1, q1⟩ => ?_)
  obtain ⟨c, rfl, q1⟩ := q1
  cases r1
  refine wpAny_truthy_bool ?_
  cases c with
  | true => exact hb pins s1 σ H1 Q I1 q1
  | false => exact ⟨.bl false, H1, I1, rfl, q1⟩
theorem pe_not (ha : PE X a ta) : PE X (.UnaryOp .Not a pos) (tNotV ta) := by
  intro pins s σ H Q I h
  refine UnaryOp_ (thn (ha pins s σ H _ I h) fun v s1 ⟨x, H1, I1, r1, q1⟩ => ?_)
  obtain ⟨c, rfl, q1⟩ := q1
  cases r1
  exact not_of (wpAny_truthy_bool ⟨.bl (!c), H1, I1, rfl, q1⟩)
def tIf (t : TT) (ta tb : TE) : TE := fun σ H Q => t σ H fun c H1 => if c = true then ta σ H1 Q else tb σ H1 Q
theorem pe_ifExp {c : Expr} (hc : PT X c tA) (ha : PE X a ta) (hb : PE X b tb) : PE X (.IfExp c a b pos) (tIf tA ta tb) := by
  intro pins s σ H Q I h
  refine wpAny_IfExp (thn (hc pins s σ H _ I h) fun d s1 ⟨H1, I1, q1⟩ => ?_)
  cases d with
  | true => exact ha pins s1 σ H1 Q I1 q1
  | false => exact hb pins s1 σ H1 Q I1 q1
end
end L2
namespace L2
open PySem PySem.Spec PyProof.Rows
def SqL (K : PySem.W.Frag) (H : Hp) (a : Addr) (xs : List V) : Prop :=
  Rd H a (.lst xs) ∨
    ∃ (o : Obj) (its : Array Value) (n : Nat), K.lookup a = some o ∧ o.cls = .type "list" ∧ o.dict = none ∧ o.data = .seq its n ∧ its.size ≤ sizeLine ∧ Vals xs its.toList
def SqT (K : PySem.W.Frag) (H : Hp) (a : Addr) (xs : List V) : Prop :=
  Rd H a (.tup xs) ∨
    ∃ (o : Obj) (its : Array Value) (n : Nat), K.lookup a = some o ∧ o.cls = .type "tuple" ∧ o.data = .seq its n ∧ its.size ≤ sizeLine ∧ Vals xs its.toList
def absV : Value → Option V
  | .none => some .non
  | .bool b => some (.bl b)
  | .int i _ => some (.int i)
  | .str x _ => some (.str x)
  | .bytes b _ => some (.byt b)
  | .float b _ => some (.flt b)
  | .ref a => some (.ref a)
  | .type n => some (.ty n)
  | _ => none
theorem RelV.abs {x : V} {u : Value} (r : RelV x u) : absV u = some x := by
  cases x with
  | non => cases r; rfl
  | bl _ => cases r; rfl
  | int _ => obtain ⟨t, rfl⟩ := r; rfl
  | str _ => obtain ⟨t, rfl⟩ := r; rfl
  | byt _ => obtain ⟨t, rfl⟩ := r; rfl
  | flt _ => obtain ⟨t, rfl⟩ := r; rfl
  | ref _ => cases r; rfl
  | ty _ => cases r; rfl
theorem RelV.inj {x y : V} {u : Value} (r : RelV x u) (q : RelV y u) : x = y := Option.some.inj (r.abs.symm.trans q.abs)
theorem Vals.inj : ∀ {xs ys : List V} {us : List Value}, Vals xs us → Vals ys us → xs = ys
  | _, _, _, .nil, .nil => rfl
  | _, _, _, .cons r t, .cons r' t' => by rw [r.inj r', Vals.inj t t']
section
variable {X : Cx} {pins : List (Addr × Obj)} {σ : St} {H : Hp} {s : Shared} {a : Addr} {xs ys : List V}
theorem SqL.of {K : PySem.W.Frag} (h : H a = some (.lst xs)) : SqL K H a xs := .inl (.inl h)
theorem SqT.of {K : PySem.W.Frag} (h : H a = some (.tup xs)) : SqT K H a xs := .inl (.inl h)
theorem Inv.list (I : Inv X pins σ H s) (h : SqL X.K H a xs) : ∃ its : List Value, Vals xs its ∧ PlainL s.heap a its.toArray ∧ xs.length ≤ sizeLine := by
  rcases h with h | ⟨o, its, n, hk, hc, hd, hs, hz, r⟩
  · obtain ⟨z, its, n, r, e⟩ := h.ok I.hok
    exact ⟨its, r, ⟨_, n, e, rfl, rfl, rfl⟩, z⟩
  · refine ⟨its.toList, r, ⟨o, n, I.kIn a o hk, hc, hd, by simpa using hs⟩, ?_⟩
    have e := r.length
    simp only [Array.length_toList] at e
    omega
theorem Inv.tuple (I : Inv X pins σ H s) (h : SqT X.K H a xs) : ∃ its : List Value, Vals xs its ∧ IsTup s.heap a its.toArray ∧ xs.length ≤ sizeLine := by
  rcases h with h | ⟨o, its, n, hk, hc, hs, hz, r⟩
  · obtain ⟨z, its, r, p⟩ := h.ok I.hok
    exact ⟨its, r, p, z⟩
  · refine ⟨its.toList, r, ⟨o, I.kIn a o hk, hc, n, by simpa using hs⟩, ?_⟩
    have e := r.length
    simp only [Array.length_toList] at e
    omega
theorem Inv.list_inj (I : Inv X pins σ H s) (h : SqL X.K H a xs) (h' : SqL X.K H a ys) : xs = ys := by
  obtain ⟨its, r, ⟨o, n, e, _, _, d⟩, _⟩ := I.list h
  obtain ⟨its', r', ⟨o', n', e', _, _, d'⟩, _⟩ := I.list h'
  rw [e] at e'; cases e'
  rw [d] at d'
  injection d' with d1 _
  have : its = its' := by simpa using congrArg Array.toList d1
  subst this
  exact r.inj r'
end
abbrev Cx.wish (X : Cx) (E : Value → Shared → Prop) : Cx := { X with xe := E }
abbrev Cx.nox (X : Cx) : Cx := X.wish fun _ _ => False
theorem Cx.Ok.wish {X : Cx} (ok : X.Ok) (E : Value → Shared → Prop) : (X.wish E).Ok :=
  ⟨ok.mod, ok.kind, ok.glob, ok.blt, ok.above, ok.inj, ok.has, ok.cab, ok.hd, ok.frames, ok.stk, ok.exf, ok.bs, ok.bsz, ok.noex, ok.exfs, ok.funs, ok.frf⟩
theorem Cx.Ok.unwish {X : Cx} {E : Value → Shared → Prop} (ok : (X.wish E).Ok) : X.Ok :=
  ⟨ok.mod, ok.kind, ok.glob, ok.blt, ok.above, ok.inj, ok.has, ok.cab, ok.hd, ok.frames, ok.stk, ok.exf, ok.bs, ok.bsz, ok.noex, ok.exfs, ok.funs, ok.frf⟩
section
variable {X : Cx} {pins : List (Addr × Obj)} {σ : St} {H : Hp} {s : Shared} {E : Value → Shared → Prop}
theorem Inv.wish (I : Inv X pins σ H s) (E : Value → Shared → Prop) : Inv (X.wish E) pins σ H s := ⟨I.ok.wish E, I.os, I.bare, I.base, I.loc, I.cell, I.free, I.freeC, I.pin, I.hok, I.len⟩
theorem Inv.unwish (I : Inv (X.wish E) pins σ H s) : Inv X pins σ H s := ⟨I.ok.unwish, I.os, I.bare, I.base, I.loc, I.cell, I.free, I.freeC, I.pin, I.hok, I.len⟩
theorem SP.unwish {D : Ends} {f : Flow} {s' : Shared} (h : SP (X.wish E) pins D f s') : SP X pins D f s' := by
  cases f with
  | next => obtain ⟨σ', H', I, q⟩ := h; exact ⟨σ', H', I.unwish, q⟩
  | brk => obtain ⟨σ', H', I, q⟩ := h; exact ⟨σ', H', I.unwish, q⟩
  | cont => obtain ⟨σ', H', I, q⟩ := h; exact ⟨σ', H', I.unwish, q⟩
  | ret u => obtain ⟨v, σ', H', I, r, q⟩ := h; exact ⟨v, σ', H', I.unwish, r, q⟩
theorem PE.nox {e : Expr} {t : TE} (h : PE X.nox e t) : PE X e t := fun pins s σ H Q I hw =>
  wpAny_mono (h pins s σ H Q (I.wish _) hw) (fun _ _ ⟨v, H', I', r, q⟩ => ⟨v, H', I'.unwish, r, q⟩) fun _ _ z => False.elim z
theorem PT.nox {e : Expr} {t : TT} (h : PT X.nox e t) : PT X e t := fun pins s σ H Q I hw =>
  wpAny_mono (h pins s σ H Q (I.wish _) hw) (fun _ _ ⟨H', I', q⟩ => ⟨H', I'.unwish, q⟩) fun _ _ z => False.elim z
theorem PSs.nox {st : List Stmt} {t : TS} (h : PSs X.nox st t) : PSs X st t := fun pins s σ H D I hw =>
  wpAny_mono (h pins s σ H D (I.wish _) hw) (fun _ _ q => q.unwish) fun _ _ z => False.elim z
end
section
variable {X : Cx} {st : Stmt} {rest : List Stmt} {t u : TS} {e : Expr} {te : TE} {pos : Pos}
def tNext : TS := fun D σ H => D.nx σ H
def tSeq (t u : TS) : TS := fun D σ H => t { D with nx := u D } σ H
theorem pss_nil : PSs X [] tNext := fun _ _ σ H _ I h => wpAny_execs_nil ⟨σ, H, I, h⟩
theorem pss_cons (h1 : PS X st t) (h2 : PSs X rest u) : PSs X (st :: rest) (tSeq t u) := by
  intro pins s σ H D I h
  refine wpAny_execs_cons (thn (h1 pins s σ H { D with nx := u D } I h) fun f s1 q => ?_)
  cases f with
  | next =>
    obtain ⟨σ', H', I', q⟩ := q
    exact h2 pins s1 σ' H' D I' q
  | ret v => exact q
  | brk => exact q
  | cont => exact q
theorem Inv.quiet {pins : List (Addr × Obj)} {σ : St} {H : Hp} {s : Shared} (I : Inv X pins σ H s) : interactive X.env = false := by simp [interactive, I.ok.kind]
def tDrop (te : TE) : TS := fun D σ H => te σ H fun _ H1 => D.nx σ H1
theorem ps_expr (he : PE X e te) (hs : swapsWith e none pos.line X.env = pure false := by rfl) : PS X (.Expr e pos) (tDrop te) := by
  intro pins s σ H D I h
  exact wpAny_Expr_any (thn (he pins s σ H _ I h) fun v s1 ⟨x, H1, I1, r1, q1⟩ => ⟨σ, H1, I1, q1⟩) I.quiet hs
def tRet (te : TE) : TS := fun D σ H => te σ H D.rt
theorem ps_ret (he : PE X e te) : PS X (.Return (some e) pos) (tRet te) := by
  intro pins s σ H D I h
  exact wpAny_Return_some (thn (he pins s σ H _ I h) fun v s1 ⟨x, H1, I1, r1, q1⟩ => ⟨x, σ, H1, I1, r1, q1⟩)
def tIfS (c : TT) (t u : TS) : TS := fun D σ H => c σ H fun b H1 => if b = true then t D σ H1 else u D σ H1
theorem ps_if {c : Expr} {a b : List Stmt} {tc : TT} (hc : PT X c tc) (ha : PSs X a t) (hb : PSs X b u) : PS X (.If c a b pos) (tIfS tc t u) := by
  intro pins s σ H D I h
  refine wpAny_If (thn (hc pins s σ H _ I h) fun d s1 ⟨H1, I1, q1⟩ => ?_)
  cases d with
  | true => exact ha pins s1 σ H1 D I1 q1
  | false => exact hb pins s1 σ H1 D I1 q1
end
abbrev TG := V → St → Hp → (St → Hp → Prop) → Prop
abbrev TGs := List V → St → Hp → (St → Hp → Prop) → Prop
def PG (X : Cx) (target : Expr) (t : TG) : Prop :=
  ∀ (pins : List (Addr × Obj)) (s : Shared) (σ : St) (H : Hp) (v : V) (u : Value) (Q : St → Hp → Prop), Inv X pins σ H s → RelV v u → t v σ H Q →
    wpAny (model X.prog X.w) X.A (assign target X.env u) (fun _ s' => ∃ σ' H', Inv X pins σ' H' s' ∧ Q σ' H') X.xe s
def PGs (X : Cx) (ts : List Expr) (t : TGs) : Prop :=
  ∀ (pins : List (Addr × Obj)) (s : Shared) (σ : St) (H : Hp) (vs : List V) (us : List Value) (Q : St → Hp → Prop), Inv X pins σ H s → Vals vs us → t vs σ H Q →
    wpAny (model X.prog X.w) X.A (assignInOrder ((assignEach ts X.env).map (·.2)) us) (fun _ s' => ∃ σ' H', Inv X pins σ' H' s' ∧ Q σ' H') X.xe s
section
variable {X : Cx} {pos : Pos}
def gName (i : Nat) : TG := fun v σ H Q => Q (σ.set i (some v)) H
theorem pg_name {i : Nat} {x : Str} (hN : X.N.Nodup) (hi : X.N[i]? = some x) (hx : Loc X.env.scope x) (hf : X.fn x = true ∨ X.env.scope.names.lookup x = some .local := by first | exact .inl rfl | exact .inr rfl | assumption) : PG X (.Name x pos) (gName i) := by
  intro pins s σ H v u Q I r h
  exact wpAny_assign_Name (store_ok I hN hi hx r (fun s' I' => ⟨_, H, I', h⟩) hf)
def gNil : TGs := fun vs σ H Q => vs = [] ∧ Q σ H
def gCons (t : TG) (u : TGs) : TGs := fun vs σ H Q => ∃ v r, vs = v :: r ∧ t v σ H fun σ' H' => u r σ' H' Q
theorem pgs_nil : PGs X [] gNil := by
  intro pins s σ H vs us Q I r h
  obtain ⟨e, h⟩ := h
  subst e
  cases r
  exact assignInOrder_nil ⟨σ, H, I, h⟩
theorem pgs_cons {e : Expr} {es : List Expr} {t : TG} {u : TGs} (h1 : PG X e t) (h2 : PGs X es u)
    (hs : (assignEach (e :: es) X.env).map (·.2) = assign e X.env :: (assignEach es X.env).map (·.2) := by rfl) : PGs X (e :: es) (gCons t u) := by
  intro pins s σ H vs us Q I r h
  obtain ⟨v, vr, e1, h⟩ := h
  subst e1
  cases r with
  | cons r rr =>
    rw [hs]
    refine assignInOrder_cons (thn (h1 pins s σ H _ _ _ I r h) fun _ s1 ⟨σ1, H1, I1, q1⟩ => ?_)
    exact h2 pins s1 σ1 H1 _ _ Q I1 rr q1
def gTup (K : PySem.W.Frag) (n : Nat) (t : TGs) : TG := fun v σ H Q => ∃ a xs, v = .ref a ∧ SqT K H a xs ∧ xs.length = n ∧ t xs σ H Q
theorem pg_tup {es : List Expr} {k : Nat} {t : TGs} {n : Nat} (hc : X.calm = true) (h : PGs X es t)
    (hn : (assignEach es X.env).length = n := by rfl) (hst : (assignEach es X.env).findIdx? (·.1) = none := by rfl) : PG X (.Tuple es k pos) (gTup X.K n t) := by
  intro pins s σ H v u Q I r hw
  obtain ⟨a, xs, e1, hq, hl, hw⟩ := hw
  subst e1
  cases r
  obtain ⟨its, rv, ht, hz⟩ := I.tuple hq
  refine assign_Tuple_tuple (I.ok.hd hc) ht (by simp [hn, ← hl, rv.length]) hst fun h' hx => ?_
  have I1 : Inv X pins σ H { s with heap := h' } := I.kept (t' := s.toks) fun b o e => hx b o (Nat.ne_of_lt (Heap.lt_size e)) e
  exact h pins _ σ H xs _ Q I1 (by simpa using rv) hw
def tAsg (te : TE) (g : TG) : TS := fun D σ H => te σ H fun x H1 => g x σ H1 D.nx
theorem ps_asg {tg e : Expr} {te : TE} {g : TG} (he : PE X e te) (hg : PG X tg g) (hs : swapsWithSole [tg] e pos.line X.env = pure false := by rfl) (hw : swappedStores [tg] e X.env = pure none := by rfl)
    (h1 : (assignEach [tg] X.env).map (·.2) = [assign tg X.env] := by rfl) : PS X (.Assign [tg] e pos) (tAsg te g) := by
  intro pins s σ H D I h
  refine wpAny_Assign_stores (thn (he pins s σ H _ I h) fun v s1 ⟨x, H1, I1, r1, q1⟩ => ?_) hs hw
  rw [h1]
  exact thn (hg pins s1 σ H1 x v _ I1 r1 q1) fun _ s2 q => q
theorem ps_set {i : Nat} {x : Str} {e : Expr} {te : TE} {pos' : Pos} (hN : X.N.Nodup) (hi : X.N[i]? = some x) (hx : Loc X.env.scope x) (he : PE X e te) (hs : swapsWith e (some (.Name x pos')) pos.line X.env = pure false := by rfl) (hf : X.fn x = true ∨ X.env.scope.names.lookup x = some .local := by first | exact .inl rfl | exact .inr rfl | assumption) :
    PS X (.Assign [.Name x pos'] e pos) (tAsg te (gName i)) := by
  intro pins s σ H D I h
  refine wpAny_Assign_Name (thn (he pins s σ H _ I h) fun v s1 ⟨y, H1, I1, r1, q1⟩ => ?_) hs
  exact store_ok I1 hN hi hx r1 (fun s2 I2 => ⟨_, H1, I2, q1⟩) hf
def tPar (i j : Nat) (ta : TA) : TS := fun D σ H => ta σ H fun vs H1 => ∃ v w, vs = [v, w] ∧ D.nx ((σ.set i (some v)).set j (some w)) H1
theorem ps_par {i j : Nat} {x y : Str} {a b : Expr} {ta : TA} {px py pt : Pos} {kt k2 pt2} (hc : X.calm = true) (hN : X.N.Nodup) (hi : X.N[i]? = some x) (hj : X.N[j]? = some y) (hij : i ≠ j)
    (hx : X.env.scope.names.lookup x = some .local) (hy : X.env.scope.names.lookup y = some .local) (ha : PA X [a, b] ta)
    (hw : swappedStores [.Tuple [.Name x px, .Name y py] kt pt] (.Tuple [a, b] k2 pt2) X.env = pure (some [x, y]))
    (hs : swapsWithSole [.Tuple [.Name x px, .Name y py] kt pt] (.Tuple [a, b] k2 pt2) pos.line X.env = pure false := by rfl) :
    PS X (.Assign [.Tuple [.Name x px, .Name y py] kt pt] (.Tuple [a, b] k2 pt2) pos) (tPar i j ta) := by
  intro pins s σ H D I h
  rw [exec_Assign_arm]
  refine wpAny_bind (wpAny_standAt ?_)
  rw [hs]
  refine wpAny_bind (wpAny_pure ?_)
  rw [if_neg (by decide)]
  refine wpAny_bind (Tuple_ (thn (ha _ pins s σ H _ I h) fun us s1 ⟨vs, H1, I1, r1, q1⟩ => ?_))
  obtain ⟨v, w, e1, q1⟩ := q1
  subst e1
  obtain ⟨u1, u2, rfl, rv, rw'⟩ : ∃ u1 u2, us = [u1, u2] ∧ RelV v u1 ∧ RelV w u2 := by
    cases r1 with
    | cons p q =>
      cases q with
      | cons p' q' =>
        cases q'
        exact ⟨_, _, rfl, p, p'⟩
  refine wpAny_newObj_type ?_ (by show 2 ≤ sizeLine; decide)
  have I2 : Inv X pins σ H1 { s1 with heap := s1.heap.push { cls := .type "tuple", data := .seq [u1, u2].toArray } } := I1.kept (t' := s1.toks) fun b o e => Heap.get?_push_of_some _ e
  rw [hw]
  refine wpAny_bind (wpAny_pure ?_)
  show wpAny (model X.prog X.w) X.A (do rule "assign.swapped-stores"; let items ← unpackItems (.ref s1.heap.objs.size) 2 none; assignInOrder [fun v => bindName X.env y v, fun v => bindName X.env x v] items.reverse; pure Flow.next) _ _ _
  refine wpAny_bind (wpAny_rule (wpAny_bind (unpackItems_tuple (items := #[u1, u2]) (I.ok.hd hc) (IsTup.new s1.heap _) fun h' hx' => ?_)))
  have I3 := I2.kept (h' := h') (t' := s1.toks) fun b o e => hx' b o (Nat.ne_of_lt (Heap.lt_size e)) e
  show wpAny _ _ (assignInOrder [fun v => bindName X.env y v, fun v => bindName X.env x v] [u2, u1] >>= fun _ => pure Flow.next) _ _ _
  refine wpAny_bind (assignInOrder_cons (wpAny_bindName (store_ok I3 hN hj (.inl hy) rw' (fun s2 I4 => ?_) (.inr hy))))
  refine assignInOrder_cons (wpAny_bindName (store_ok I4 hN hi (.inl hx) rv (fun s3 I5 => assignInOrder_nil (wpAny_pure ?_)) (.inr hx)))
  rw [List.set_comm _ _ (Ne.symm hij)] at I5
  exact ⟨_, H1, I5, q1⟩
end
section
variable {X : Cx} {pos : Pos}
def tWhile (c : TT) (tb : TS) : TS := fun D σ H => ∃ W : Nat → St → Hp → Prop, (∃ m, W m σ H) ∧ ∀ m σ H, W m σ H →
  c σ H fun b H1 => if b = true then ∃ N : St → Hp → Prop, (∀ σ' H', N σ' H' → ∃ m', m' < m ∧ W m' σ' H') ∧ tb { D with nx := N, ct := N, bk := D.nx } σ H1 else D.nx σ H1
theorem ps_while {c : Expr} {body : List Stmt} {tc : TT} {tb : TS} (hp : PassesOwn (model X.prog X.w) X.A X.env X.xe) (hc : PT X c tc) (hb : PSs X body tb) : PS X (.While c body [] pos) (tWhile tc tb) := by
  intro pins s σ H D I h
  obtain ⟨W, ⟨m0, w0⟩, turn⟩ := h
  refine wpAny_While (codeAny_whileLoop (fun n s' => ∃ σ' H', Inv X pins σ' H' s' ∧ W n σ' H') ?_ m0 ⟨σ, H, I, w0⟩)
  rintro n s1 ⟨σ1, H1, I1, w1⟩
  refine wpAny_passesOwn hp (thn (hc pins s1 σ1 H1 _ I1 (turn n σ1 H1 w1)) fun b s2 ⟨H2, I2, q2⟩ => ?_)
  cases b with
  | true =>
    obtain ⟨N, hN, q2⟩ := q2
    rw [if_pos rfl]
    refine wpAny_passesOwn hp (thn (hb pins s2 σ1 H2 _ I2 q2) fun f s3 q3 => ?_)
    cases f with
    | next =>
      obtain ⟨σ3, H3, I3, n3⟩ := q3
      obtain ⟨m', hm, w3⟩ := hN σ3 H3 n3
      exact ⟨m', hm, σ3, H3, I3, w3⟩
    | cont =>
      obtain ⟨σ3, H3, I3, n3⟩ := q3
      obtain ⟨m', hm, w3⟩ := hN σ3 H3 n3
      exact ⟨m', hm, σ3, H3, I3, w3⟩
    | brk => exact q3
    | ret v => exact q3
  | false =>
    rw [if_neg Bool.false_ne_true]
    exact wpAny_execs_nil ⟨σ1, H2, I2, q2⟩
end
structure It where
  go : Nat → Hp → Prop
  yld : Nat → Hp → V → Hp → Prop
  stop : Nat → Hp → Prop
def FpOk (X : Cx) (pins : List (Addr × Obj)) (H : Hp) (b : Addr) : Prop :=
  H b = none ∧ b ≠ X.env.locals ∧ b ∉ X.fs ∧ (b ∈ X.ex ∨ X.s_0.heap.objs.size ≤ b) ∧ (∀ x c, X.env.cells.lookup x = some c → c ≠ b) ∧ ∀ p ∈ X.pn ++ pins, p.1 ≠ b
theorem Inv.fpOk {X : Cx} {pins : List (Addr × Obj)} {σ : St} {H H' : Hp} {s : Shared} {b : Addr} (I : Inv X pins σ H s) (hb : s.heap.objs.size ≤ b) (hn : H' b = none) : FpOk X pins H' b := by
  refine ⟨hn, Nat.ne_of_gt (Nat.lt_of_lt_of_le I.lt hb), I.nofs hb, .inr (Nat.le_trans I.sz hb), fun x c e z => ?_, fun p hp z => ?_⟩
  · obtain ⟨v, q⟩ := I.cell x c e
    exact absurd (Nat.lt_of_lt_of_le q.lt (by rw [z]; exact hb)) (Nat.lt_irrefl _)
  · exact absurd (Nat.lt_of_lt_of_le (Heap.lt_size (I.pin p hp).1) (by rw [z]; exact hb)) (Nat.lt_irrefl _)
structure Turn (P : Program) (w : World) (K : PySem.W.Frag) (tg : Expr) (J : It) (fp : List Addr) (it : Addr) (tn : Nat → Heap → Prop) : Prop where
  mem : it ∈ fp
  obj : ∀ i h, tn i h → ∀ b ∈ fp, ∃ o, h.get? b = some o ∧ ∀ v, o.data ≠ .cell v
  keep : ∀ i h h', tn i h → (∀ b ∈ fp, ∀ o, h.get? b = some o → h'.get? b = some o) → tn i h'
  item : ∀ (X : Cx), X.prog = P → X.w = w → X.K = K → X.calm = true → ∀ (i : Nat) (pins : List (Addr × Obj)) (s : Shared) (σ : St) (H : Hp) (E : Value → Shared → Prop), Inv X pins σ H s → (∀ b ∈ fp, FpOk X pins H b) → tn i s.heap → J.go i H →
    wpAny (model P w) X.A (pyNext (.ref it)) (fun r s1 => ∃ u, r = some u ∧
      wpAny (model P w) X.A (letOwnedTupleGo tg (.ref it) u) (fun _ s2 => ∃ x H', Inv X pins σ H' s2 ∧ RelV x u ∧ J.yld i H x H' ∧ tn (i + 1) s2.heap ∧ ∀ b ∈ fp, H' b = none) E s1) E s
  done : ∀ (X : Cx), X.prog = P → X.w = w → X.K = K → X.calm = true → ∀ (i : Nat) (pins : List (Addr × Obj)) (s : Shared) (σ : St) (H : Hp) (E : Value → Shared → Prop), Inv X pins σ H s → (∀ b ∈ fp, FpOk X pins H b) → tn i s.heap → J.stop i H →
    wpAny (model P w) X.A (pyNext (.ref it)) (fun r s1 => r = none ∧ Inv X pins σ H s1) E s
  self : ∀ (A : Around) (i : Nat) (s : Shared) (Q : Value → Shared → Prop) (E : Value → Shared → Prop), tn i s.heap → Q (.ref it) s → wpAny (model P w) A (pyIter (.ref it)) Q E s
abbrev TI := St → Hp → (It → Hp → Prop) → Prop
def PIE (X : Cx) (pins : List (Addr × Obj)) (σ : St) (tg : Expr) (R : It → Hp → Prop) (itv : Value) (s2 : Shared) : Prop :=
  ∃ (it : Addr) (fp : List Addr) (tn : Nat → Heap → Prop) (J : It) (H' : Hp), itv = .ref it ∧ Inv X pins σ H' s2 ∧ Turn X.prog X.w X.K tg J fp it tn ∧ tn 0 s2.heap ∧ (∀ b ∈ fp, FpOk X pins H' b) ∧ R J H'
def PI (X : Cx) (tg iter : Expr) (wi : TI) : Prop :=
  ∀ (pins : List (Addr × Obj)) (s : Shared) (σ : St) (H : Hp) (R : It → Hp → Prop), Inv X pins σ H s → wi σ H R →
    wpAny (model X.prog X.w) X.A (eval iter X.env) (fun v s1 => wpAny (model X.prog X.w) X.A (pyIter v) (PIE X pins σ tg R) X.xe s1) X.xe s
theorem go_of {M : Model} {A : Around} {E : Value → Shared → Prop} {s : Shared} {tg : Expr} {it : Addr} {u : Value} {o : Obj} {n : String} {vs : Array Value} {Q : Unit → Shared → Prop} (ho : s.heap.get? it = some o) (hc : o.cls = .type n) (hd : o.data = .fields vs)
    (hn : ["enumerate", "zip", "dict_itemiterator", "dict_reverseitemiterator", "odict_iterator", "itertools.zip_longest", "itertools.pairwise"].contains n = false) (hQ : Q () s) : wpAny M A (letOwnedTupleGo tg (.ref it) u) Q E s := by
  unfold letOwnedTupleGo
  cases tg <;> first
    | exact wpAny_pure hQ
    | (cases u <;> first
        | exact wpAny_pure hQ
        | (refine wpAny_bind (wpAny_load ho ?_)
           rw [hc, hd]
           show wpAny M A (if (["enumerate", "zip", "dict_itemiterator", "dict_reverseitemiterator", "odict_iterator", "itertools.zip_longest", "itertools.pairwise"].contains n && vs[0]? == some (rawInt _)) = true then _ else _) Q E s
           rw [if_neg (by intro h; rw [hn, Bool.false_and] at h; cases h)]
           exact wpAny_pure hQ))
def Itl (K : PySem.W.Frag) (a : Addr) : It :=
  ⟨fun i H => ∃ xs x, SqL K H a xs ∧ xs[i]? = some x, fun i H x H' => H' = H ∧ ∀ xs, SqL K H a xs → xs[i]? = some x, fun i H => ∃ xs, SqL K H a xs ∧ xs.length ≤ i⟩
def Itr (lo : Int) (n : Nat) : It := ⟨fun i _ => i < n, fun i H x H' => H' = H ∧ x = .int (lo + i), fun i _ => n ≤ i⟩
theorem turn_list {P : Program} {w : World} {K : PySem.W.Frag} {tg : Expr} (a it : Addr) : Turn P w K tg (Itl K a) [it] it (fun i h => h.IsListIter it a i) where
  mem := by simp
  obj := fun i h st b hb => by
    have e : b = it := by simpa using hb
    subst e
    obtain ⟨o, e, c, d⟩ := st
    exact ⟨o, e, fun v z => by rw [d] at z; cases z⟩
  keep := fun i h h' st k => st.at fun o e => k it (by simp) o e
  item := by
    intro X hP hw hK hc i pins s σ H E I hf st hg
    subst hP hw hK
    obtain ⟨xs, x, hq, hx⟩ := hg
    obtain ⟨its, rv, p, hz⟩ := I.list hq
    obtain ⟨u, hu, ru⟩ := rv.get hx
    obtain ⟨f0, f1, f2, f3, f4, f5⟩ := hf it (by simp)
    refine wpAny_pyNext_list_item st p.isList (x := u) (by simpa using hu) fun h' st' sb => ?_
    have I1 : Inv X pins σ H { s with heap := h' } := I.turned (t' := s.toks) (fun b o hb e => (sb.2 b hb).trans e) f0 f1 f3 f4 f5
    obtain ⟨o, e, c, d⟩ := id st'
    exact ⟨u, rfl, go_of (s := { s with heap := h' }) e c d (by decide) ⟨x, H, I1, ru, ⟨rfl, fun ys hy => by rw [I.list_inj hy hq]; exact hx⟩, st', fun b hb => (hf b hb).1⟩⟩
  done := by
    intro X hP hw hK hc i pins s σ H E I hf st hg
    subst hP hw hK
    obtain ⟨xs, hq, hx⟩ := hg
    obtain ⟨its, rv, p, hz⟩ := I.list hq
    obtain ⟨f0, f1, f2, f3, f4, f5⟩ := hf it (by simp)
    have hl := rv.length
    exact wpAny_pyNext_list_end (I.ok.hd hc) st p.isList (by simp; omega) fun h' eb => ⟨rfl, I.turned (t' := s.toks) (fun b o hb e => eb b o hb e) f0 f1 f3 f4 f5⟩
  self := fun _ _ _ _ _ st h => wpAny_pyIter_listiter st h
theorem turn_range {P : Program} {w : World} {K : PySem.W.Frag} {tg : Expr} (it : Addr) (lo : Int) (n : Nat) : Turn P w K tg (Itr lo n) [it] it (fun i h => IsRangeIter h it (lo + (i : Nat) * 1) ((n : Int) - (i : Nat)) 1) where
  mem := by simp
  obj := fun i h st b hb => by
    have e : b = it := by simpa using hb
    subst e
    exact ⟨_, st, fun v z => by
      have z' : Data.fields _ = Data.cell v := z
      cases z'⟩
  keep := fun i h h' st k => k it (by simp) _ st
  item := by
    intro X hP hw hK hc i pins s σ H E I hf st hg
    subst hP hw hK
    obtain ⟨f0, f1, f2, f3, f4, f5⟩ := hf it (by simp)
    have W := Walks.range (prog := X.prog) (w := X.w) (I.ok.hd hc) it lo 1 n
    refine W.item i s _ _ hg st fun v h' tk hv st' kk => ?_
    obtain ⟨t, rfl⟩ := hv
    have I1 : Inv X pins σ H { s with heap := h', toks := tk } := I.turned (fun b o hb e => kk b o (by simpa using hb) e) f0 f1 f3 f4 f5
    refine ⟨_, rfl, go_of (s := { s with heap := h', toks := tk }) (n := "range_iterator") st' rfl rfl (by decide) ⟨.int (lo + i), H, I1, ⟨t, ?_⟩, ⟨rfl, rfl⟩, st', fun b hb => (hf b hb).1⟩⟩
    rw [Int.mul_one]
  done := by
    intro X hP hw hK hc i pins s σ H E I hf st hg
    subst hP hw hK
    obtain ⟨f0, f1, f2, f3, f4, f5⟩ := hf it (by simp)
    exact wpAny_pyNext_range_end (I.ok.hd hc) st (by have : n ≤ i := hg; omega) fun h' eb => ⟨rfl, I.turned (t' := s.toks) (fun b o hb e => eb b o hb e) f0 f1 f3 f4 f5⟩
  self := fun _ _ _ _ _ st h => wpAny_pyIter_rangeiter st h
end L2
namespace L2
open PySem PySem.Spec PyProof.Rows
section
variable {X : Cx} {tg : Expr}
def iList (K : PySem.W.Frag) (tl : TE) : TI := fun σ H R => tl σ H fun x H1 => ∃ a, x = .ref a ∧ (∃ xs, SqL K H1 a xs) ∧ R (Itl K a) H1
theorem pi_list {l : Expr} {tl : TE} (hl : PE X l tl) : PI X tg l (iList X.K tl) := by
  intro pins s σ H R I h
  refine thn (hl pins s σ H _ I h) fun v s1 ⟨x, H1, I1, r1, q1⟩ => ?_
  obtain ⟨a, e, ⟨xs, hq⟩, q⟩ := q1
  subst e
  cases r1
  obtain ⟨its, rv, p, hz⟩ := I1.list hq
  refine wpAny_pyIter_list p.isList ?_
  refine ⟨s1.heap.objs.size, [s1.heap.objs.size], _, _, H1, rfl, I1.kept (t' := s1.toks) fun b o e => Heap.get?_push_of_some _ e, turn_list a _, ⟨_, Heap.get?_push_size _ rfl, rfl, rfl⟩, fun b hb => ?_, q⟩
  have e : b = s1.heap.objs.size := by simpa using hb
  subst e
  exact I1.fpOk (Nat.le_refl _) (I1.hok.fresh (Nat.le_refl _))
theorem range_it {pins : List (Addr × Obj)} {σ : St} {H : Hp} {s : Shared} {R : It → Hp → Prop} {E : Value → Shared → Prop} {lo hi : Int} {t u v : Tok} {tk : Nat} (I : Inv X pins σ H s) (h1 : -(2 ^ 62) ≤ lo) (h2 : lo < 2 ^ 62) (h3 : -(2 ^ 62) ≤ hi) (h4 : hi < 2 ^ 62)
    (q : R (Itr lo (hi - lo).toNat) H) : wpAny (model X.prog X.w) X.A (pyIter (.ref s.heap.objs.size)) (PIE X pins σ tg R) E { s with heap := s.heap.push { cls := .type "range", data := .fields #[.int lo t, .int hi u, .int 1 v] }, toks := tk } := by
  refine wpAny_pyIter_range (IsRange.new ..) (small_one h1 h2 h3 h4) ?_
  have I1 : Inv X pins σ H { s with heap := s.heap.push { cls := .type "range", data := .fields #[.int lo t, .int hi u, .int 1 v] }, toks := tk } := I.kept fun b o e => Heap.get?_push_of_some _ e
  refine ⟨(s.heap.push { cls := .type "range", data := .fields #[.int lo t, .int hi u, .int 1 v] }).objs.size, [(s.heap.push { cls := .type "range", data := .fields #[.int lo t, .int hi u, .int 1 v] }).objs.size], _, _, H, rfl,
    I1.kept (t' := tk) fun b o e => Heap.get?_push_of_some _ e, turn_range _ lo (hi - lo).toNat, ?_, fun b hb => ?_, q⟩
  · have e1 : lo + ((0 : Nat) : Int) * 1 = lo := by simp
    have e2 : (((hi - lo).toNat : Nat) : Int) - ((0 : Nat) : Int) = Builtin.Range.rangeSize lo hi 1 := by rw [rangeSize_one]; split <;> omega
    show IsRangeIter _ _ (lo + ((0 : Nat) : Int) * 1) ((((hi - lo).toNat : Nat) : Int) - ((0 : Nat) : Int)) 1
    rw [e1, e2]
    exact Heap.get?_push_size _ rfl
  · have e : b = (s.heap.push { cls := .type "range", data := .fields #[.int lo t, .int hi u, .int 1 v] }).objs.size := by simpa using hb
    subst e
    exact I1.fpOk (Nat.le_refl _) (I1.hok.fresh (Nat.le_refl _))
def iRng1 (ta : TA) : TI := fun σ H R => ta σ H fun vs H1 => ∃ j : Int, vs = [.int j] ∧ -(2 ^ 62) ≤ j ∧ j < 2 ^ 62 ∧ R (Itr 0 j.toNat) H1
def iRng2 (ta : TA) : TI := fun σ H R => ta σ H fun vs H1 => ∃ i j : Int, vs = [.int i, .int j] ∧ (-(2 ^ 62) ≤ i ∧ i < 2 ^ 62 ∧ -(2 ^ 62) ≤ j ∧ j < 2 ^ 62) ∧ R (Itr i (j - i).toNat) H1
theorem pi_range1 {a : Expr} {ta : TA} {p pos : Pos} (hg : Gl X "range") (hm : X.mg "range" = none) (ha : PA X [a] ta) (hs : starEach [a] X.env = [(false, eval a X.env)] := by rfl) : PI X tg (.Call (.Name "range" p) [a] [] pos) (iRng1 ta) := by
  intro pins s σ H R I h
  refine Call_ (ld_blt I hg hm boot_range (PyProof.Rows.callWith_type1 (thn (ha pos pins s σ H _ I h) fun us s1 ⟨vs, H1, I1, r1, q1⟩ => ?_) hs rfl))
  obtain ⟨j, e, q1, q2, q⟩ := q1
  subst e
  cases r1 with
  | cons r rr =>
    cases rr
    obtain ⟨t, rfl⟩ := r
    exact call_range_1 (range_it I1 (by omega) (by omega) q1 q2 (by simpa using q))
theorem pi_range2 {a b : Expr} {ta : TA} {p pos : Pos} (hg : Gl X "range") (hm : X.mg "range" = none) (ha : PA X [a, b] ta) (hs : starEach [a, b] X.env = [(false, eval a X.env), (false, eval b X.env)] := by rfl) (hs2 : starEach [b] X.env = [(false, eval b X.env)] := by rfl) :
    PI X tg (.Call (.Name "range" p) [a, b] [] pos) (iRng2 ta) := by
  intro pins s σ H R I h
  refine Call_ (ld_blt I hg hm boot_range (PyProof.Rows.callWith_type1 (thn (ha pos pins s σ H _ I h) fun us s1 ⟨vs, H1, I1, r1, q1⟩ => ?_) (by rw [hs, hs2]) (by rw [hs2]; rfl)))
  obtain ⟨i, j, e, ⟨q1, q2, q3, q4⟩, q⟩ := q1
  subst e
  cases r1 with
  | cons r rr =>
    cases rr with
    | cons r' rr =>
      cases rr
      obtain ⟨t, rfl⟩ := r
      obtain ⟨t', rfl⟩ := r'
      exact call_range_2 (range_it I1 q1 q2 q3 q4 q)
def tFor (wi : TI) (g : TG) (tb : TS) : TS := fun D σ H => wi σ H fun J H1 => ∃ W : Nat → Nat → St → Hp → Prop, (∃ m, W 0 m σ H1) ∧ ∀ i m σ H, W i m σ H →
  (J.stop i H ∧ D.nx σ H) ∨ (J.go i H ∧ ∃ N : St → Hp → Prop, (∀ σ' H', N σ' H' → ∃ m', m' < m ∧ W (i + 1) m' σ' H') ∧ ∀ x H', J.yld i H x H' → g x σ H' fun σ2 H2 => tb { D with nx := N, ct := N, bk := D.nx } σ2 H2)
def pinsAt (fp : List Addr) (h : Heap) : List (Addr × Obj) := fp.filterMap fun b => (h.get? b).map fun o => (b, o)
theorem mem_pinsAt {fp : List Addr} {h : Heap} {b : Addr} {o : Obj} (hb : b ∈ fp) (e : h.get? b = some o) : (b, o) ∈ pinsAt fp h := List.mem_filterMap.mpr ⟨b, hb, by rw [e]; rfl⟩
theorem of_pinsAt {fp : List Addr} {h : Heap} {p : Addr × Obj} (hp : p ∈ pinsAt fp h) : p.1 ∈ fp ∧ h.get? p.1 = some p.2 := by
  obtain ⟨b, hb, e⟩ := List.mem_filterMap.mp hp
  cases q : h.get? b with
  | none => rw [q] at e; cases e
  | some o =>
    rw [q] at e
    have e' : (b, o) = p := Option.some.inj e
    subst e'
    exact ⟨hb, q⟩
theorem Inv.pinned {pins : List (Addr × Obj)} {σ : St} {H : Hp} {s : Shared} {fp : List Addr} (I : Inv X pins σ H s) (hf : ∀ b ∈ fp, FpOk X pins H b) (ho : ∀ b ∈ fp, ∃ o, s.heap.get? b = some o ∧ ∀ v, o.data ≠ .cell v) : Inv X (pins ++ pinsAt fp s.heap) σ H s :=
  I.pins_of fun p hp => (List.mem_append.mp hp).elim (fun z => I.pin p (List.mem_append_right _ z)) fun z => by
    obtain ⟨hb, e⟩ := of_pinsAt z
    obtain ⟨f0, f1, f2, _⟩ := hf p.1 hb
    obtain ⟨o, e', d⟩ := ho p.1 hb
    rw [e] at e'; cases e'
    exact ⟨e, f0, f1, f2, d⟩
theorem Inv.unpinned {pins pl : List (Addr × Obj)} {σ : St} {H : Hp} {s : Shared} (I : Inv X (pins ++ pl) σ H s) : Inv X pins σ H s := I.pins_of fun p hp => I.pin p (List.mem_append_right _ (List.mem_append_left _ hp))
theorem ps_for {iter : Expr} {body : List Stmt} {wi : TI} {g : TG} {tb : TS} {pos : Pos} (hp : PassesOwn (model X.prog X.w) X.A X.env X.xe) (hc : X.calm = true) (hi : PI X tg iter wi) (hg : PG X tg g) (hb : PSs X body tb)
    (hs : ∀ x, foldedSetIterable iter X.env x = pure x := by intro _; rfl) : PS X (.For tg iter body [] pos) (tFor wi g tb) := by
  intro pins s σ H D I h
  refine wpAny_For (thn (hi pins s σ H _ I h) fun v s1 h1 => thn h1 fun itv s2 h2 => ?_) hs
  obtain ⟨it, fp, tn, J, H2, e, I2, T, st2, f2, W, ⟨m0, w0⟩, turn⟩ := h2
  subst e
  have stat : ∀ {H' : Hp}, (∀ b ∈ fp, H' b = none) → ∀ b ∈ fp, FpOk X pins H' b := fun hn b hb => ⟨hn b hb, (f2 b hb).2⟩
  refine codeAny_forLoop_any (fun n s' => ∃ i σ' H', Inv X pins σ' H' s' ∧ tn i s'.heap ∧ (∀ b ∈ fp, H' b = none) ∧ W i n σ' H') ?_ m0 ⟨0, σ, H2, I2, st2, fun b hb => (f2 b hb).1, w0⟩
  rintro n s3 ⟨i, σ3, H3, I3, st3, fr3, w3⟩
  rcases turn i n σ3 H3 w3 with ⟨stop, qn⟩ | ⟨go, N, hN, step⟩
  · refine wpAny_passesOwn hp (thn (T.done X rfl rfl rfl hc i pins s3 σ3 H3 X.xe I3 (stat fr3) st3 stop) fun r s4 ⟨hr, I4⟩ => ?_)
    subst hr
    exact wpAny_execs_nil ⟨σ3, H3, I4, qn⟩
  · refine wpAny_passesOwn hp (thn (T.item X rfl rfl rfl hc i pins s3 σ3 H3 X.xe I3 (stat fr3) st3 go) fun r s4 ⟨u, hr, h4⟩ => ?_)
    subst hr
    refine wpAny_passesOwn hp (thn h4 fun _ s5 ⟨x, H5, I5, r5, y5, st5, fr5⟩ => ?_)
    have I5' := I5.pinned (stat fr5) (T.obj _ _ st5)
    refine wpAny_passesOwn hp (thn (hg _ s5 σ3 H5 x u _ I5' r5 (step x H5 y5)) fun _ s6 ⟨σ6, H6, I6, q6⟩ => ?_)
    refine wpAny_passesOwn hp (thn (hb _ s6 σ6 H6 _ I6 q6) fun f s7 q7 => ?_)
    have again : ∀ {σ7 : St} {H7 : Hp}, Inv X (pins ++ pinsAt fp s5.heap) σ7 H7 s7 → N σ7 H7 → ∃ m, m < n ∧ ∃ i σ' H', Inv X pins σ' H' s7 ∧ tn i s7.heap ∧ (∀ b ∈ fp, H' b = none) ∧ W i m σ' H' := fun {σ7 H7} I7 n7 => by
      obtain ⟨m', hm, w7⟩ := hN σ7 H7 n7
      refine ⟨m', hm, i + 1, σ7, H7, I7.unpinned, T.keep _ _ _ st5 fun b hb o e => (I7.pin (b, o) (List.mem_append_right _ (List.mem_append_right _ (mem_pinsAt hb e)))).1, fun b hb => ?_, w7⟩
      obtain ⟨o, e, d⟩ := T.obj _ _ st5 b hb
      exact (I7.pin (b, o) (List.mem_append_right _ (List.mem_append_right _ (mem_pinsAt hb e)))).2.1
    cases f with
    | next => obtain ⟨σ7, H7, I7, n7⟩ := q7; exact again I7 n7
    | cont => obtain ⟨σ7, H7, I7, n7⟩ := q7; exact again I7 n7
    | brk => obtain ⟨σ7, H7, I7, q7⟩ := q7; exact ⟨σ7, H7, I7.unpinned, q7⟩
    | ret v => obtain ⟨x7, σ7, H7, I7, r7, q7⟩ := q7; exact ⟨x7, σ7, H7, I7.unpinned, r7, q7⟩
end
end L2
namespace L2
open PySem PySem.Spec PyProof.Rows
abbrev R2 := V → V → Hp → VK → Prop
def OpR (X : Cx) (f : Value → Value → Sem Value) (r : R2) : Prop :=
  ∀ (pins : List (Addr × Obj)) (s : Shared) (σ : St) (H : Hp) (x y : V) (v u : Value) (Q : VK), Inv X pins σ H s → RelV x v → RelV y u → r x y H Q →
    wpAny (model X.prog X.w) X.A (f v u) (EP X pins σ Q) X.xe s
def UnR (X : Cx) (f : Value → Sem Value) (r : V → Hp → VK → Prop) : Prop :=
  ∀ (pins : List (Addr × Obj)) (s : Shared) (σ : St) (H : Hp) (x : V) (v : Value) (Q : VK), Inv X pins σ H s → RelV x v → r x H Q →
    wpAny (model X.prog X.w) X.A (f v) (EP X pins σ Q) X.xe s
def CallR (X : Cx) (f : Value) (r : List V → Hp → VK → Prop) : Prop :=
  ∀ (pins : List (Addr × Obj)) (s : Shared) (σ : St) (H : Hp) (xs : List V) (us : List Value) (Q : VK), Inv X pins σ H s → Vals xs us → r xs H Q →
    wpAny (model X.prog X.w) X.A (call f us) (EP X pins σ Q) X.xe s
def TruR (X : Cx) (r : V → Hp → (Bool → Hp → Prop) → Prop) : Prop :=
  ∀ (pins : List (Addr × Obj)) (s : Shared) (σ : St) (H : Hp) (x : V) (v : Value) (Q : Bool → Hp → Prop), Inv X pins σ H s → RelV x v → r x H Q →
    wpAny (model X.prog X.w) X.A (truthy v) (TP X pins σ Q) X.xe s
def tOp (r : R2) (ta tb : TE) : TE := fun σ H Q => ta σ H fun x H1 => tb σ H1 fun y H2 => r x y H2 Q
def tUn (r : V → Hp → VK → Prop) (ta : TE) : TE := fun σ H Q => ta σ H fun x H1 => r x H1 Q
def rI (C : Int → Int → Prop) (g : Int → Int → V) : R2 := fun x y H Q => ∃ i j, x = .int i ∧ y = .int j ∧ C i j ∧ Q (g i j) H
def rI0 (g : Int → Int → V) : R2 := fun x y H Q => ∃ i j, x = .int i ∧ y = .int j ∧ Q (g i j) H
def rU (g : Int → V) : V → Hp → VK → Prop := fun x H Q => ∃ i, x = .int i ∧ Q (g i) H
section
variable {X : Cx} {a b c : Expr} {ta tb tc : TE} {pos : Pos}
theorem binT (ha : PE X a ta) (hb : PE X b tb) {pins : List (Addr × Obj)} {s : Shared} {σ : St} {H : Hp} {R : V → V → Hp → Prop} (I : Inv X pins σ H s)
    (h : ta σ H fun x H1 => tb σ H1 fun y H2 => R x y H2) {Q : Value → Shared → Prop} {f : Value → Value → Sem Value}
    (hf : ∀ v u s2 x y H2, Inv X pins σ H2 s2 → RelV x v → RelV y u → R x y H2 → wpAny (model X.prog X.w) X.A (f v u) Q X.xe s2) :
    wpAny (model X.prog X.w) X.A (eval a X.env) (fun v s₁ => wpAny (model X.prog X.w) X.A (eval b X.env) (fun u s₂ => wpAny (model X.prog X.w) X.A (f v u) Q X.xe s₂) X.xe s₁) X.xe s := by
  refine thn (ha pins s σ H _ I h) fun v s1 ⟨x, H1, I1, r1, q1⟩ => ?_
  refine thn (hb pins s1 σ H1 _ I1 q1) fun u s2 ⟨y, H2, I2, r2, q2⟩ => ?_
  exact hf v u s2 x y H2 I2 r1 r2 q2
theorem pe_op {op : Operator} {r : R2} (ho : OpR X (binaryOp op) r) (ha : PE X a ta) (hb : PE X b tb) : PE X (.BinOp a op b pos) (tOp r ta tb) := by
  intro pins s σ H Q I h
  exact wpAny_BinOp (binT ha hb I h fun v u s2 x y H2 I2 rx ry q => ho pins s2 σ H2 x y v u Q I2 rx ry q)
theorem pe_un {op : UnaryOp} {r : V → Hp → VK → Prop} (ho : UnR X (unaryOp op) r) (ha : PE X a ta) : PE X (.UnaryOp op a pos) (tUn r ta) := by
  intro pins s σ H Q I h
  exact UnaryOp_ (thn (ha pins s σ H _ I h) fun v s1 ⟨x, H1, I1, r1, q1⟩ => ho pins s1 σ H1 x v Q I1 r1 q1)
theorem opI {f : Value → Value → Sem Value} {C : Int → Int → Prop} {g : Int → Int → Int}
    (rule : ∀ (i j : Int) (t u : Tok) (s : Shared) (Q : Value → Shared → Prop) (E : Value → Shared → Prop), C i j → Q (.int (g i j) s.toks) { s with toks := s.toks + 1 } → wpAny (model X.prog X.w) X.A (f (.int i t) (.int j u)) Q E s) :
    OpR X f (rI C fun i j => .int (g i j)) := by
  intro pins s σ H x y v u Q I rx ry h
  obtain ⟨i, j, rfl, rfl, hc, q⟩ := h
  obtain ⟨t, rfl⟩ := rx
  obtain ⟨t', rfl⟩ := ry
  exact rule i j t t' s _ _ hc ⟨.int (g i j), H, I.tok _, ⟨_, rfl⟩, q⟩
theorem opI0 {f : Value → Value → Sem Value} {g : Int → Int → Int}
    (rule : ∀ (i j : Int) (t u : Tok) (s : Shared) (Q : Value → Shared → Prop) (E : Value → Shared → Prop), Q (.int (g i j) s.toks) { s with toks := s.toks + 1 } → wpAny (model X.prog X.w) X.A (f (.int i t) (.int j u)) Q E s) :
    OpR X f (rI0 fun i j => .int (g i j)) := by
  intro pins s σ H x y v u Q I rx ry h
  obtain ⟨i, j, rfl, rfl, q⟩ := h
  obtain ⟨t, rfl⟩ := rx
  obtain ⟨t', rfl⟩ := ry
  exact rule i j t t' s _ _ ⟨.int (g i j), H, I.tok _, ⟨_, rfl⟩, q⟩
theorem opB0 {f : Value → Value → Sem Value} {g : Int → Int → Bool}
    (rule : ∀ (i j : Int) (t u : Tok) (s : Shared) (Q : Value → Shared → Prop) (E : Value → Shared → Prop), Q (.bool (g i j)) s → wpAny (model X.prog X.w) X.A (f (.int i t) (.int j u)) Q E s) :
    OpR X f (rI0 fun i j => .bl (g i j)) := by
  intro pins s σ H x y v u Q I rx ry h
  obtain ⟨i, j, rfl, rfl, q⟩ := h
  obtain ⟨t, rfl⟩ := rx
  obtain ⟨t', rfl⟩ := ry
  exact rule i j t t' s _ _ ⟨.bl (g i j), H, I, rfl, q⟩
def CPow (i j : Int) : Prop := 0 ≤ j ∧ j ≤ 1000000 ∧ i.natAbs < 2 ^ 64
def CMul (i j : Int) : Prop := (-(2 ^ 64) < i ∧ i < 2 ^ 64) ∨ (-(2 ^ 64) < j ∧ j < 2 ^ 64)
theorem CMul.ok {i j : Int} (h : CMul i j) : IntMulOk i j := by
  rcases h with ⟨h1, h2⟩ | ⟨h1, h2⟩
  · exact .of_left (intBits_le_64 h1 h2)
  · exact .of_right (intBits_le_64 h1 h2)
theorem op_add : OpR X (binaryOp .Add) (rI0 fun i j => .int (i + j)) := opI0 fun _ _ _ _ _ _ _ q => add_int q
theorem op_sub : OpR X (binaryOp .Sub) (rI0 fun i j => .int (i - j)) := opI0 fun _ _ _ _ _ _ _ q => sub_int q
theorem op_modN : OpR X (binaryOp .Mod) (rI (fun _ j => j ≠ 0) fun i j => .int (i.fmod j)) := opI fun _ _ _ _ _ _ _ hc q => mod_int' hc q
theorem op_pow : OpR X (binaryOp .Pow) (rI CPow fun i j => .int (i ^ j.toNat)) := opI fun _ _ _ _ _ _ _ hc q => pow_int_small hc.1 hc.2.1 hc.2.2 q
theorem unI {f : Value → Sem Value} {g : Int → Int}
    (rule : ∀ (i : Int) (t : Tok) (s : Shared) (Q : Value → Shared → Prop) (E : Value → Shared → Prop), Q (.int (g i) s.toks) { s with toks := s.toks + 1 } → wpAny (model X.prog X.w) X.A (f (.int i t)) Q E s) :
    UnR X f (rU fun i => .int (g i)) := by
  intro pins s σ H x v Q I rx h
  obtain ⟨i, rfl, q⟩ := h
  obtain ⟨t, rfl⟩ := rx
  exact rule i t s _ _ ⟨.int (g i), H, I.tok _, ⟨_, rfl⟩, q⟩
theorem un_neg : UnR X (unaryOp .USub) (rU fun i => .int (-i)) := unI fun _ _ _ _ _ q => neg_int q
end
section
variable {X : Cx} {a b c : Expr} {ta tb tc : TE} {pos : Pos}
theorem op_lt : OpR X (compareOp .Lt) (rI0 fun i j => .bl (decide (i < j))) := opB0 fun _ _ _ _ _ _ _ q => lt_int q
theorem op_le : OpR X (compareOp .LtE) (rI0 fun i j => .bl (decide (i ≤ j))) := opB0 fun _ _ _ _ _ _ _ q => le_int q
theorem op_gt : OpR X (compareOp .Gt) (rI0 fun i j => .bl (decide (j < i))) := opB0 fun _ _ _ _ _ _ _ q => gt_int q
theorem op_ge : OpR X (compareOp .GtE) (rI0 fun i j => .bl (decide (j ≤ i))) := opB0 fun _ _ _ _ _ _ _ q => ge_int q
def isObj : HO → Bool
  | .lst _ => true
  | .ins _ _ _ => true
  | _ => false
theorem obj_there {pins : List (Addr × Obj)} {s : Shared} {σ : St} {H : Hp} {a : Addr} {o : HO} (I : Inv X pins σ H s) (h : H a = some o) (p : isObj o = true) : ∃ ob, s.heap.get? a = some ob ∧ ob.cls ≠ .type "tuple" := by
  cases o with
  | lst xs =>
    obtain ⟨_, its, n, _, e⟩ : xs.length ≤ sizeLine ∧ ∃ (its : List Value) (n : Nat), Vals xs its ∧ s.heap.get? a = some { cls := .type "list", data := .seq its.toArray n } := I.hok a _ h
    exact ⟨_, e, (by show Value.type "list" ≠ .type "tuple"; decide +kernel)⟩
  | ins C dx fs =>
    have x := I.hok a _ h
    obtain ⟨_, _, _, e, _⟩ := x
    exact ⟨_, e, (by show Value.ref C ≠ .type "tuple"; exact fun z => by cases z)⟩
  | _ => exact absurd (show false = true from p) Bool.false_ne_true
theorem pe_cmpR {op : CmpOp} {r : R2} (ho : OpR X (compareOp op) r) (ha : PE X a ta) (hb : PE X b tb) (hm : behindInMarks op b = false) : PE X (.Compare a [op] [b] pos) (tOp r ta tb) := by
  intro pins s σ H Q I h
  exact wpAny_Compare1 (binT ha hb I h fun v u s2 x y H2 I2 rx ry q => ho pins s2 σ H2 x y v u Q I2 rx ry q) hm
def tTest (t : TE) : TT := fun σ H Q => t σ H fun x H' => ∃ k, x = .bl k ∧ Q k H'
theorem pt_cmpR {op : CmpOp} {r : R2} (ho : OpR X (compareOp op) r) (ha : PE X a ta) (hb : PE X b tb) (hm : behindInMarks op b = false) : PT X (.Compare a [op] [b] pos) (tTest (tOp r ta tb)) := by
  intro pins s σ H Q I h
  refine wpAny_isTrue_Compare1 (thn (ha pins s σ H _ I h) fun v s1 ⟨x, H1, I1, r1, q1⟩ => thn (hb pins s1 σ H1 _ I1 q1) fun u s2 ⟨y, H2, I2, r2, q2⟩ =>
    thn (ho pins s2 σ H2 x y v u _ I2 r1 r2 q2) fun c s3 ⟨z, H3, I3, r3, k, e, q3⟩ => ?_) hm
  subst e
  cases r3
  exact wpAny_truthy_bool ⟨H3, I3, q3⟩
def tChain (r r' : R2) (ta tb tc : TE) : TE := fun σ H Q => ta σ H fun x H1 => tb σ H1 fun y H2 => r x y H2 fun z H3 => ∃ k, z = .bl k ∧
  (if k = true then tc σ H3 fun w' H4 => r' y w' H4 Q else Q (.bl false) H3)
theorem pe_chain {op op' : CmpOp} {r r' : R2} (ho : OpR X (compareOp op) r) (ho' : OpR X (compareOp op') r') (ha : PE X a ta) (hb : PE X b tb) (hc : PE X c tc)
    (hm : lastMarks [op, op'] [b, c] = false := by with_unfolding_all rfl) : PE X (.Compare a [op, op'] [b, c] pos) (tChain r r' ta tb tc) := by
  intro pins s σ H Q I h
  refine Compare_chain (thn (ha pins s σ H _ I h) fun v s1 ⟨x, H1, I1, r1, q1⟩ => chain_link (thn (hb pins s1 σ H1 _ I1 q1) fun u s2 ⟨y, H2, I2, r2, q2⟩ =>
    thn (ho pins s2 σ H2 x y v u _ I2 r1 r2 q2) fun d s3 ⟨z, H3, I3, r3, k, e, q3⟩ => ?_)) hm
  subst e
  cases r3
  refine wpAny_truthy_bool ?_
  cases k with
  | false => exact ite_ff ⟨.bl false, H3, I3, rfl, q3⟩
  | true => exact ite_tt (chain_last (thn (hc pins s3 σ H3 _ I3 q3) fun w' s4 ⟨z', H4, I4, r4, q4⟩ => ho' pins s4 σ H4 y z' u w' Q I4 r2 r4 q4))
theorem pt_chain {op op' : CmpOp} {r r' : R2} (ho : OpR X (compareOp op) r) (ho' : OpR X (compareOp op') r') (ha : PE X a ta) (hb : PE X b tb) (hc : PE X c tc)
    (hm : lastMarks [op, op'] [b, c] = false := by with_unfolding_all rfl) : PT X (.Compare a [op, op'] [b, c] pos) (tTest (tChain r r' ta tb tc)) := by
  intro pins s σ H Q I h
  refine isTrue_chain (thn (ha pins s σ H _ I h) fun v s1 ⟨x, H1, I1, r1, q1⟩ => test_link (thn (hb pins s1 σ H1 _ I1 q1) fun u s2 ⟨y, H2, I2, r2, q2⟩ =>
    thn (ho pins s2 σ H2 x y v u _ I2 r1 r2 q2) fun d s3 ⟨z, H3, I3, r3, k, e, q3⟩ => ?_)) hm
  subst e
  cases r3
  refine wpAny_truthy_bool ?_
  cases k with
  | false =>
    obtain ⟨k', e', q'⟩ := q3
    cases e'
    exact ite_ff ⟨H3, I3, q'⟩
  | true =>
    refine ite_tt (test_last (thn (hc pins s3 σ H3 _ I3 q3) fun w' s4 ⟨z', H4, I4, r4, q4⟩ => thn (ho' pins s4 σ H4 y z' u w' _ I4 r2 r4 q4) fun d' s5 ⟨z2, H5, I5, r5, k2, e2, q5⟩ => ?_))
    subst e2
    cases r5
    exact wpAny_truthy_bool ⟨H5, I5, q5⟩
def TruV (K : PySem.W.Frag) (x : V) (H : Hp) (k : Bool) : Prop :=
  match x with
  | .non => k = false
  | .bl b => k = b
  | .int i => k = (i != 0)
  | .str y => y.length ≤ sizeLine ∧ k = ((y.length : Int) != 0)
  | .byt y => y.size ≤ sizeLine ∧ k = ((y.size : Int) != 0)
  | .ref p => (∃ xs, SqL K H p xs ∧ k = !xs.isEmpty) ∨ (∃ xs, SqT K H p xs ∧ k = !xs.isEmpty) ∨ ∃ kvs, H p = some (.dK kvs) ∧ k = !kvs.isEmpty
  | _ => False
theorem isEmpty_kv {κ : Type} {kvs : List (κ × V)} {vs : List (κ × Value)} (r : KV kvs vs) : (!vs.isEmpty) = !kvs.isEmpty := by
  cases r <;> rfl
theorem isEmpty_of {xs : List V} {its : List Value} (r : Vals xs its) : (!its.toArray.isEmpty) = !xs.isEmpty := by
  cases r <;> simp
theorem line63 : (sizeLine : Nat) < 2 ^ 63 := by rw [sizeLine_eq]; decide
theorem tru_ok : TruR X (fun x H Q => ∃ k, TruV X.K x H k ∧ Q k H) := by
  intro pins s σ H x v Q I rx h
  obtain ⟨k, e, q⟩ := h
  have hl := line63
  have hs : sizeLine = 16777216 := sizeLine_eq
  cases x with
  | non =>
    cases rx
    have e' : k = false := e
    subst e'
    exact truthy_none ⟨H, I, q⟩
  | bl b =>
    cases rx
    have e' : k = b := e
    subst e'
    exact wpAny_truthy_bool ⟨H, I, q⟩
  | int i =>
    obtain ⟨t, rfl⟩ := rx
    have e' : k = (i != 0) := e
    subst e'
    exact PySem.P.truthy_int ⟨H, I, q⟩
  | str y =>
    obtain ⟨t, rfl⟩ := rx
    obtain ⟨hy, e'⟩ : y.length ≤ sizeLine ∧ k = ((y.length : Int) != 0) := e
    subst e'
    exact PySem.P.truthy_str (by omega) ⟨H, I.tok _, q⟩
  | byt y =>
    obtain ⟨t, rfl⟩ := rx
    obtain ⟨hy, e'⟩ : y.size ≤ sizeLine ∧ k = ((y.size : Int) != 0) := e
    subst e'
    exact PySem.W.truthy_bytes (by omega) ⟨H, I.tok _, q⟩
  | ref p =>
    cases rx
    have e' : (∃ xs, SqL X.K H p xs ∧ k = !xs.isEmpty) ∨ (∃ xs, SqT X.K H p xs ∧ k = !xs.isEmpty) ∨ ∃ kvs, H p = some (.dK kvs) ∧ k = !kvs.isEmpty := e
    rcases e' with ⟨xs, hx, e'⟩ | ⟨xs, hx, e'⟩ | ⟨kvs, hx, e'⟩
    · subst e'
      obtain ⟨its, r, pl, hz⟩ := I.list hx
      have hlen := r.length
      exact wpAny_truthy_list pl.isList (by simp only [List.size_toArray]; omega) ⟨H, I.tok _, by rw [isEmpty_of r]; exact q⟩
    · subst e'
      obtain ⟨its, r, pl, hz⟩ := I.tuple hx
      have hlen := r.length
      exact truthy_tuple pl (by simp only [List.size_toArray]; omega) ⟨H, I.tok _, by rw [isEmpty_of r]; exact q⟩
    · subst e'
      obtain ⟨hz, hS, vs, r, m⟩ : kvs.length ≤ sizeLine ∧ (p == sysModules) = false ∧ ∃ vs, KV kvs vs ∧ s.heap.DictOf (mixKind X.prog X.w) p vs := I.hok p _ hx
      have hlen : kvs.length = vs.length := Paired.length r
      exact wpAny_truthy_dict hS m (by omega) ⟨H, I.tok _, by rw [isEmpty_kv r]; exact q⟩
  | _ => exact (show False from e).elim
theorem pt_truth (ha : PE X a ta) (he : ∀ whole, isTrue a X.env whole = (do let v ← whole; standAt a.pos; holding [v] (truthy v))) :
    PT X a (fun σ H Q => ta σ H fun x H' => ∃ k, TruV X.K x H' k ∧ Q k H') := by
  intro pins s σ H Q I h
  exact isTrue_plain (thn (ha pins s σ H _ I h) fun v s1 ⟨x, H1, I1, r1, q1⟩ => tru_ok pins s1 σ H1 x v Q I1 r1 q1) (he _)
theorem vals1 {x : V} {us : List Value} (r : Vals [x] us) : ∃ u, us = [u] ∧ RelV x u := by
  cases r with
  | cons r1 r2 => cases r2; exact ⟨_, rfl, r1⟩
theorem vals2 {x y : V} {us : List Value} (r : Vals [x, y] us) : ∃ u w', us = [u, w'] ∧ RelV x u ∧ RelV y w' := by
  cases r with
  | cons r1 r2 =>
    cases r2 with
    | cons r3 r4 => cases r4; exact ⟨_, _, rfl, r1, r3⟩
theorem call_abs : CallR X (.builtin "abs") (fun xs H Q => ∃ i, xs = [.int i] ∧ Q (.int (if i < 0 then -i else i)) H) := by
  intro pins s σ H xs us Q I r h
  obtain ⟨i, rfl, q⟩ := h
  obtain ⟨u, rfl, t, rfl⟩ := vals1 r
  exact call_abs_int fun u tk => ⟨.int (if i < 0 then -i else i), H, I.tok _, ⟨_, rfl⟩, q⟩
end
end L2
namespace L2
open PySem PySem.Spec PyProof.Rows
structure ObjM (h : Heap) (x dx C : Addr) (mA : Str → Option Value) : Prop where
  obj : h.get? x = some (PySem.W.instObj C dx)
  ns : h.Ns1 dx mA
  ne : dx ≠ x
theorem lookIn_ns {h : Heap} {dx : Addr} {mA : Str → Option Value} (n : h.Ns1 dx mA) : ∃ od, h.get? dx = some od ∧ ∀ name, PySem.W.lookIn name od = some (mA name) := by
  obtain ⟨o, es, ep, ho, hd, hk, _, hm⟩ := n
  refine ⟨o, ho, fun name => ?_⟩
  have e := hm name
  unfold nsFind findBy at e
  rw [← Array.find?_toList] at e
  unfold PySem.W.lookIn
  rw [hd]
  dsimp only
  split
  · rename_i y q
    rw [q] at e
    exact congrArg some e
  · rename_i q
    rw [q] at e
    have a : es.toList.any (·.refKey) = false := by
      rw [List.any_eq_false]
      intro y hy
      obtain ⟨z, t, hkey⟩ := hk y (Array.mem_toList_iff.mp hy)
      simp [DictEntry.refKey, hkey]
    have a' : ¬ es.toList.any (·.refKey) = true := by rw [a]; exact Bool.false_ne_true
    rw [if_neg a']
    exact congrArg some e
theorem ObjM.look {h : Heap} {x dx C : Addr} {mA : Str → Option Value} (I : ObjM h x dx C mA) : ∃ od, PySem.W.InstAt h x (PySem.W.instObj C dx) C (some od) ∧ ∀ name, PySem.W.lookIn name od = some (mA name) :=
  let ⟨od, ho, hl⟩ := lookIn_ns I.ns
  ⟨od, ⟨I.obj, rfl, rfl, ho⟩, hl⟩
section
variable {prog : Program} {w : World} {A : Around} {E : Value → Shared → Prop} {s : Shared} {K : PySem.W.Frag} {x dx C f : Addr} {mA : Str → Option Value} {name : Str} {v : Value}
end
def putF (f : Str) (v : V) : List (Str × V) → List (Str × V)
  | [] => [(f, v)]
  | (g, x) :: r => if g = f then (g, v) :: r else (g, x) :: putF f v r
theorem RelO.some_of {v : V} {o : Option Value} (r : RelO (some v) o) : ∃ u, o = some u ∧ RelV v u := by
  cases o with
  | none => exact (show False from r).elim
  | some u => exact ⟨u, rfl, r⟩
section
variable {P : Program} {w : World} {H H' : Hp} {h h' : Heap} {a C dx : Addr} {fs fs' : List (Str × V)}
end
structure Cls (K : PySem.W.Frag) (C : Addr) : Prop where
  pg : PySem.W.plainGet K C Str.empty = true
  hd : PySem.W.hasDictIn K C = true
  po : PySem.W.plainOver K C = true
  sa : PySem.W.findIn K (.ref C) "__setattr__" = some (some (.builtin "object.__setattr__"))
theorem Cls.get {K : PySem.W.Frag} {C : Addr} (c : Cls K C) (f : Str) : PySem.W.plainGet K C f = true := c.pg
def NoAttr (K : PySem.W.Frag) (C : Addr) (f : Str) : Prop := PySem.W.findIn K (.ref C) f = some none
structure Con (K : PySem.W.Frag) (C : Addr) (f : Str) (v : V) (u : Value) : Prop where
  at_ : PySem.W.findIn K (.ref C) f = some (some u)
  rel : RelV v u
  get : PySem.W.specialIn K u "__get__" = some none
  cp : PySem.W.copiedNames.contains f = false
structure Meth (K : PySem.W.Frag) (C : Addr) (m : Str) (f : Addr) : Prop where
  at_ : PySem.W.findIn K (.ref C) m = some (some (.ref f))
  fn : PySem.W.isFn K (.ref f) = true
  kp : PySem.W.keepIn K (.ref f) = true
section
variable {X : Cx} {pins : List (Addr × Obj)} {σ : St} {H : Hp} {s : Shared} {a C dx : Addr} {fs : List (Str × V)} {f : Str} {v : V} {A : Around} {E : Value → Shared → Prop}
theorem Inv.made (I : Inv X pins σ H s) : Inv X pins σ (upd (upd H s.heap.objs.size (.own (s.heap.objs.size + 1))) (s.heap.objs.size + 1) (.ins C s.heap.objs.size []))
    { s with heap := (s.heap.push PySem.W.emptyDict).push (PySem.W.instObj C s.heap.objs.size) } := by
  have e1 : (s.heap.push PySem.W.emptyDict).get? s.heap.objs.size = some PySem.W.emptyDict := Heap.get?_push_size s.heap rfl
  have e2 : ((s.heap.push PySem.W.emptyDict).push (PySem.W.instObj C s.heap.objs.size)).get? (s.heap.objs.size + 1) = some (PySem.W.instObj C s.heap.objs.size) := by
    have := Heap.get?_push_size (s.heap.push PySem.W.emptyDict) (o := PySem.W.instObj C s.heap.objs.size) rfl
    rwa [Heap.size_push] at this
  have e3 : (s.heap.push PySem.W.emptyDict).Ns s.heap.objs.size (fun _ => none) := ⟨PySem.W.emptyDict, #[], _, e1, rfl, (fun e he => absurd he (by simp)), fun _ => rfl⟩
  have I1 := I.laid (a := s.heap.objs.size) (o := .own (s.heap.objs.size + 1)) (h' := s.heap.push PySem.W.emptyDict) (t' := s.toks) (fun b u q => Heap.get?_push_of_some _ q) (Nat.le_refl _) ⟨_, e1⟩
  refine I1.laid (a := s.heap.objs.size + 1) (o := .ins C s.heap.objs.size []) (t' := s.toks) (fun b u q => Heap.get?_push_of_some _ q) (Nat.le_of_eq (Heap.size_push _ _)) ?_
  have ne : s.heap.objs.size ≠ s.heap.objs.size + 1 := Nat.ne_of_lt (Nat.lt_succ_self _)
  refine ⟨by rw [upd_ne ne, upd_same], Nat.zero_le _, ne, e2, fun _ => none, (Heap.Ns1.of_empty e3).at fun o q => Heap.get?_push_of_some _ q, fun _ => True.intro, fun y hy => absurd rfl hy⟩
end
section
variable {X : Cx} {o e value : Expr} {f : Str} {pos pos' tpos : Pos} {ta tv : TE}
end
section
variable {X : Cx} {pins : List (Addr × Obj)} {σ : St} {H : Hp} {s : Shared} {A : Around} {E : Value → Shared → Prop} {Q : Value → Shared → Prop} {c : Value} {b : Bool}
inductive TyOf (K : PySem.W.Frag) (H : Hp) : V → Value → Prop where
  | non : TyOf K H .non (.type "NoneType")
  | bl (x : Bool) : TyOf K H (.bl x) (.type "bool")
  | int (i : Int) : TyOf K H (.int i) (.type "int")
  | str (x : Str) : TyOf K H (.str x) (.type "str")
  | flt (x : UInt64) : TyOf K H (.flt x) (.type "float")
  | lst {a : Addr} {xs : List V} (e : H a = some (.lst xs)) : TyOf K H (.ref a) (.type "list")
  | frz {a : Addr} {o : Obj} {xs : List V} (e : H a = some (.frz o (.lst xs))) : TyOf K H (.ref a) (.type "list")
  | tup {a : Addr} {xs : List V} (e : H a = some (.tup xs)) : TyOf K H (.ref a) (.type "tuple")
  | dK {a : Addr} {kvs : List (Key × V)} (e : H a = some (.dK kvs)) : TyOf K H (.ref a) (.type "dict")
  | dT {a : Addr} {kvs : List (List Key × V)} (e : H a = some (.dT kvs)) : TyOf K H (.ref a) (.type "dict")
  | ins {a C dx : Addr} {fs : List (Str × V)} (e : H a = some (.ins C dx fs)) (cl : Cls K C) (ha : PySem.W.findIn K (.ref C) "__class__" = some (some (.builtin "object.__class__")))
      (hn : PySem.W.specialIn K (.builtin "object.__class__") "__get__" = some (some (.builtin "getset_descriptor.__get__"))) (htk : PySem.W.takesIn K (.builtin "object.__class__") = some true)
      (hm : PySem.W.mroIn K C (.type "object") = some true) : TyOf K H (.ref a) (.ref C)
end
end L2
namespace L2
open PySem PySem.Spec PyProof.Rows
structure Room (k : Nat) (A : Around) : Prop where
  hd : A.handled = none
  dp : A.depth + 3 * k + 5 < recursionLimit
  un : A.units + 16 * k + 200 < cLine
theorem Room.mono {j k : Nat} {A : Around} (r : Room k A) (h : j ≤ k) : Room j A := ⟨r.hd, by have := r.dp; omega, by have := r.un; omega⟩
theorem Room.deeper {k : Nat} {A : Around} (r : Room (k + 1) A) (env : Env) : Room k (A.deeper env) :=
  ⟨r.hd, by have := r.dp; show A.depth + 1 + 3 * k + 5 < _; omega, by have := r.un; show A.units + 3 + 16 * k + 200 < _; omega⟩
theorem Room.in1 {k : Nat} {A : Around} (r : Room (k + 1) A) : Room k A.in1 :=
  ⟨r.hd, by have := r.dp; show A.depth + 3 * k + 5 < _; omega, by have := r.un; show A.units + 1 + 16 * k + 200 < _; omega⟩
theorem Room.depth {k : Nat} {A : Around} (r : Room k A) : A.depth < recursionLimit := by have := r.dp; omega
theorem Room.units {k : Nat} {A : Around} (r : Room k A) : A.units + 64 < cLine := by have := r.un; omega
def tNil : TA := fun _ H Q => Q [] H
def tCons (ta : TE) (tr : TA) : TA := fun σ H Q => ta σ H fun x H1 => tr σ H1 fun xs H2 => Q (x :: xs) H2
section
variable {X : Cx} {e : Expr} {es : List Expr} {te : TE} {t : TA} {pos : Pos}
theorem pa_nil : PA X [] tNil := fun _ _ _ _ H Q I h => Calls.spliced_nil ⟨[], H, I, .nil, h⟩
theorem pa_cons (ha : PE X e te) (hr : PA X es t) (hs : starEach (e :: es) X.env = (false, eval e X.env) :: starEach es X.env := by rfl) : PA X (e :: es) (tCons te t) := by
  intro pos pins s σ H Q I h
  rw [hs]
  show wpAny _ _ (spliced ((false, eval e X.env) :: backTo pos (starEach es X.env))) _ _ s
  refine Calls.spliced_cons (thn (ha pins s σ H _ I h) fun u s1 ⟨x, H1, I1, r1, q1⟩ => ?_)
  exact thn (hr pos pins s1 σ H1 _ I1 q1) fun us s2 ⟨xs, H2, I2, r2, q2⟩ => ⟨x :: xs, H2, I2, .cons r1 r2, q2⟩
def tTup (t : TA) : TE := fun σ H Q => t σ H fun xs H1 => xs.length ≤ sizeLine ∧ ∀ p, H1 p = none → Q (.ref p) (upd H1 p (.tup xs))
def tLst (t : TA) : TE := fun σ H Q => t σ H fun xs H1 => xs.length ≤ sizeLine ∧ ∀ p, H1 p = none → Q (.ref p) (upd H1 p (.lst xs))
theorem pe_tup {x1} (h : PA X es t) : PE X (.Tuple es x1 pos) (tTup t) := by
  intro pins s σ H Q I hq
  refine wpAny_Tuple_spliced (thn (h pos pins s σ H _ I hq) fun us s1 ⟨xs, H1, I1, r, z, q⟩ => ⟨by rw [← r.length]; exact z, ?_⟩)
  have hf : H1 s1.heap.objs.size = none := I1.hok.fresh (Nat.le_refl _)
  refine ⟨.ref s1.heap.objs.size, upd H1 s1.heap.objs.size (.tup xs), I1.laid (t' := s1.toks) (fun b u e => Heap.get?_push_of_some _ e) (Nat.le_refl _) ?_, rfl, q _ hf⟩
  exact ⟨z, us, r, ⟨_, Heap.get?_push_size _ rfl, rfl, _, rfl⟩⟩
theorem pe_lst (h : PA X es t) : PE X (.List es pos) (tLst t) := by
  intro pins s σ H Q I hq
  refine wpAny_List_spliced (thn (h pos pins s σ H _ I hq) fun us s1 ⟨xs, H1, I1, r, z, q⟩ => ⟨by rw [← r.length]; exact z, ?_⟩)
  have hf : H1 s1.heap.objs.size = none := I1.hok.fresh (Nat.le_refl _)
  refine ⟨.ref s1.heap.objs.size, upd H1 s1.heap.objs.size (.lst xs), I1.laid (t' := s1.toks) (fun b u e => Heap.get?_push_of_some _ e) (Nat.le_refl _) ?_, rfl, q _ hf⟩
  exact ⟨z, us, 0, r, Heap.get?_push_size _ rfl⟩
end
abbrev Sp := List V → Hp → VK → XK → Prop
abbrev CXT := List Env → Hp → Shared → XK → Value → Shared → Prop
structure Env0 (P : Program) (w : World) (K : PySem.W.Frag) (mg : Str → Option Value) (base : Heap) (A : Around) (outer : List Env) (s : Shared) (H : Hp) : Prop where
  frames : A.frames = some outer
  mod : Mod K mg base
  bs : ∀ b o, base.get? b = some o → s.heap.get? b = some o ∧ H b = none
  bsz : base.objs.size ≤ s.heap.objs.size
  funs : s.heap.FunFrames base outer
  frf : ∀ b ∈ frs outer, H b = none
  hok : HOk P w H s.heap
  bare : AllBare s.gens
def CE (outer : List Env) (P : Program) (w : World) (H : Hp) (s : Shared) (Q : VK) (u : Value) (s' : Shared) : Prop :=
  ∃ v H', s'.os = s.os ∧ AllBare s'.gens ∧ Un (frs outer) [] H H' s.heap s'.heap ∧ HOk P w H' s'.heap ∧ RelV v u ∧ Q v H'
def CR (CX : CXT) (outer : List Env) (P : Program) (w : World) (H : Hp) (s : Shared) (Q : VK) (E : XK) (r : Result) (s' : Shared) : Prop :=
  match r with
  | .ok (.ret u) => CE outer P w H s Q u s'
  | .ok _ => False
  | .error e => CX outer H s E e s'
structure FnOk (P : Program) (w : World) (K : PySem.W.Frag) (mg : Str → Option Value) (base : Heap) (CX : CXT) (k : Nat) (f : Addr) (fd : FuncData) (ps : List Str) (sp : Sp) : Prop where
  len : ∀ vs H Q E, sp vs H Q E → vs.length = ps.length
  run : ∀ (A : Around) (outer : List Env) (s : Shared) (H : Hp) (args : Args) (us : List Value) (vs : List V) (Q : VK) (E : XK), Room k A → Env0 P w K mg base A outer s H → BindsTo s fd args (ps.zip us) → Vals vs us → sp vs H Q E →
    codeAny (model P w) A (.call (.ref f) args) (CR CX outer P w H s Q E) s
theorem FnOk.mono {P : Program} {w : World} {K : PySem.W.Frag} {mg : Str → Option Value} {base : Heap} {CX : CXT} {j k : Nat} {f : Addr} {fd : FuncData} {ps : List Str} {sp : Sp} (F : FnOk P w K mg base CX j f fd ps sp) (h : j ≤ k) :
    FnOk P w K mg base CX k f fd ps sp := ⟨F.len, fun A outer s H args us vs Q E hr => F.run A outer s H args us vs Q E (hr.mono h)⟩
theorem FnOk.imp {P : Program} {w : World} {K : PySem.W.Frag} {mg : Str → Option Value} {base : Heap} {CX : CXT} {k : Nat} {f : Addr} {fd : FuncData} {ps : List Str} {sp sp' : Sp} (F : FnOk P w K mg base CX k f fd ps sp)
    (h : ∀ vs H Q E, sp' vs H Q E → sp vs H Q E) : FnOk P w K mg base CX k f fd ps sp' :=
  ⟨fun vs H Q E q => F.len vs H Q E (h _ _ _ _ q), fun A outer s H args us vs Q E hr he hb hv hs => F.run A outer s H args us vs Q E hr he hb hv (h _ _ _ _ hs)⟩
theorem Env0.in1 {P : Program} {w : World} {K : PySem.W.Frag} {mg : Str → Option Value} {base : Heap} {A : Around} {outer : List Env} {s : Shared} {H : Hp} (e : Env0 P w K mg base A outer s H) :
    Env0 P w K mg base A.in1 outer s H := ⟨e.frames, e.mod, e.bs, e.bsz, e.funs, e.frf, e.hok, e.bare⟩
section
variable {X : Cx} {pins : List (Addr × Obj)} {σ : St} {H : Hp} {s s' : Shared}
theorem Inv.env0 (I : Inv X pins σ H s) : Env0 X.prog X.w X.K X.mg X.base X.A X.stack s H :=
  ⟨I.ok.frames, I.ok.mod, I.bs, Nat.le_trans I.ok.bsz I.sz, I.stack, I.stkFree, I.hok, I.bare⟩
theorem Inv.after {Q : VK} {u : Value} (I : Inv X pins σ H s) (h : CE X.stack X.prog X.w H s Q u s') : EP X pins σ Q u s' := by
  obtain ⟨v, H', os, bare, un, hok, r, q⟩ := h
  obtain ⟨hh, g, d, t, os'⟩ := s'
  obtain rfl : os' = s.os := os
  exact ⟨v, H', I.call (h' := hh) (g' := g) (d' := d) (t' := t) (ch := []) un hok bare (fun b z => absurd z (by simp)), r, q⟩
end
def tCall (sp : Sp) (dvs : List V) (E : XK) (t : TA) : TE := fun σ H Q => t σ H fun vs H1 => sp (vs ++ dvs) H1 Q E
def Binds (K : PySem.W.Frag) (fd : FuncData) (ps : List Str) (ds : List Value) : Prop :=
  ∀ (s : Shared) (us : List Value), K.In s.heap → (us ++ ds).length = ps.length → BindsTo s fd ⟨us, []⟩ (ps.zip (us ++ ds))
theorem Binds.all {K : PySem.W.Frag} {fd : FuncData} {ps : List Str} (h : ∀ us : List Value, us.length = ps.length → bindArgs fd ⟨us, []⟩ = pure (ps.zip us)) : Binds K fd ps [] := fun s us _ hl => by
  rw [List.append_nil] at hl ⊢
  exact .of_eq (h us hl)
def Passes (CX : CXT) (X : Cx) (E : XK) : Prop := ∀ (pins : List (Addr × Obj)) (σ : St) (H : Hp) (s : Shared) (e : Value) (s' : Shared), Inv X pins σ H s → CX X.stack H s E e s' → X.xe e s'
section
variable {X : Cx} {CX : CXT} {k : Nat} {f C : Addr} {fd : FuncData} {ps : List Str} {sp : Sp} {dvs : List V} {ds : List Value} {E : XK} {x m : Str} {p pos apos : Pos} {e o : Expr} {es : List Expr} {ta : TE} {t : TA}
theorem run_fn {pins : List (Addr × Obj)} {σ : St} {H : Hp} {s : Shared} {Q : VK} {us : List Value} {vs : List V} (F : FnOk X.prog X.w X.K X.mg X.base CX k f fd ps sp) (hr : Room k X.A) (hb : Binds X.K fd ps ds) (hd : Vals dvs ds) (hx : Passes CX X E)
    (I : Inv X pins σ H s) (r : Vals vs us) (h : sp (vs ++ dvs) H Q E) : wpAny (model X.prog X.w) X.A (call (.ref f) us) (EP X pins σ Q) X.xe s := by
  have r2 : Vals (vs ++ dvs) (us ++ ds) := r.append hd
  have hl : (us ++ ds).length = ps.length := by rw [← r2.length]; exact F.len _ _ _ _ h
  refine wpAny_call (codeAny_mono (F.run X.A X.stack s H ⟨us, []⟩ (us ++ ds) (vs ++ dvs) Q E hr I.env0 (hb s us I.kIn hl) r2 h) fun r s' hq => ?_)
  cases r with
  | error e => exact hx pins σ H s e s' I hq
  | ok fl =>
    cases fl with
    | ret u => exact I.after hq
    | next => exact False.elim hq
    | brk => exact False.elim hq
    | cont => exact False.elim hq
theorem pe_call (F : FnOk X.prog X.w X.K X.mg X.base CX k f fd ps sp) (hr : Room k X.A) (hg : Gl X x) (hm : X.mg x = some (.ref f)) (hk : PySem.W.keepIn X.K (.ref f) = true) (hb : Binds X.K fd ps ds) (hd : Vals dvs ds) (hx : Passes CX X E)
    (ha : PA X (e :: es) t) (hdb : (x == ("__debug__" : Str)) = false := by decide) (he : starEach (e :: es) X.env = (false, eval e X.env) :: starEach es X.env := by rfl) (hpl : (backTo pos (starEach es X.env)).any (·.1) = false := by rfl) :
    PE X (.Call (.Name x p) (e :: es) [] pos) (tCall sp dvs E t) := by
  intro pins s σ H Q I h
  refine wpAny_Call_Name_kw (ld_glob I hg hm ?_ hdb)
  refine PySem.W.callWith_K (h₀ := X.base) I.ok.mod.kin hk (thn (ha pos pins s σ H _ I h) fun us s1 ⟨vs, H1, I1, r, q⟩ => ⟨I1.kIn, ?_⟩) he hpl
  exact run_fn F hr hb hd hx I1 r q
structure Mk (K : PySem.W.Frag) (C f : Addr) : Prop where
  makes : PySem.W.makesIn K C = true
  init : PySem.W.findIn K (.ref C) "__init__" = some (some (.ref f))
  fn : PySem.W.isFn K (.ref f) = true
  kp : PySem.W.keepIn K (.ref C) = true
end
def PK (X : Cx) (kws : List Keyword) (t : TA) : Prop :=
  ∀ (pos : Pos) (pins : List (Addr × Obj)) (s : Shared) (σ : St) (H : Hp) (Q : List V → Hp → Prop), Inv X pins σ H s → t σ H Q → wpAny (model X.prog X.w) X.A (evalAll ((backToKw pos (keywordEach kws X.env)).map (·.2))) (AP X pins σ Q) X.xe s
section
variable {X : Cx} {CX : CXT} {k : Nat} {f C : Addr} {fd : FuncData} {ps ks : List Str} {sp : Sp} {E : XK} {x m : Str} {p pos apos kpos : Pos} {e o : Expr} {es : List Expr} {kws : List Keyword} {te ta : TE} {t tk : TA} {nm : Option Str}
structure KBinds (K : PySem.W.Frag) (fd : FuncData) (ps ks : List Str) (g : List Value → List Value → List Value) (gV : List V → List V → List V) : Prop where
  to : ∀ (s : Shared) (us ws : List Value), K.In s.heap → (g us ws).length = ps.length → BindsTo s fd ⟨us, ks.zip ws⟩ (ps.zip (g us ws))
  rel : ∀ {vs : List V} {us : List Value} {zs : List V} {ws : List Value}, Vals vs us → Vals zs ws → Vals (gV vs zs) (g us ws)
variable {g : List Value → List Value → List Value} {gV : List V → List V → List V}
end
structure FnScope (N P : List Str) (sc : Scope) : Prop where
  kind : sc.kind = .function
  co : sc.isCoroutine = false
  gen : sc.isGenerator = false
  nd : N.Nodup
  pre : N.take P.length = P
  par : ∀ x ∈ P, sc.names.lookup x = some .local ∨ sc.names.lookup x = some .cell
  nofree : ∀ y ∈ sc.names, y.2 ≠ .free
theorem bindL_out {kindOf : Str → Option NameKind} {x : Str} : ∀ {binds : List (Str × Value)} {m : Str → Option Value}, (∀ v, (x, v) ∉ binds) → bindL kindOf binds m x = m x
  | [], _, _ => rfl
  | (n, v) :: r, m, h => by
    unfold bindL
    rw [bindL_out fun w hw => h w (List.mem_cons_of_mem _ hw)]
    split
    · have : x ≠ n := by rintro rfl; exact h v List.mem_cons_self
      simp [this]
    · rfl
theorem bindC_out {kindOf : Str → Option NameKind} {x : Str} : ∀ {binds : List (Str × Value)} {m : Str → Option Value}, (∀ v, (x, v) ∉ binds) → bindC kindOf binds m x = m x
  | [], _, _ => rfl
  | (n, v) :: r, m, h => by
    unfold bindC
    rw [bindC_out fun w hw => h w (List.mem_cons_of_mem _ hw)]
    split
    · rfl
    · have : x ≠ n := by rintro rfl; exact h v List.mem_cons_self
      simp [this]
theorem bindL_get {kindOf : Str → Option NameKind} {x : Str} {v : Value} : ∀ {P : List Str} {vs : List Value} {i : Nat} {m : Str → Option Value}, P.Nodup → P[i]? = some x → vs[i]? = some v → kindOf x = some .local →
    bindL kindOf (P.zip vs) m x = some v
  | [], _, _, _, _, h, _, _ => by simp at h
  | _ :: _, [], _, _, _, _, h, _ => by simp at h
  | p :: P, w :: vs, 0, m, nd, h1, h2, hk => by
    simp at h1 h2; subst h1; subst h2
    show bindL kindOf ((p, w) :: P.zip vs) m p = _
    unfold bindL
    rw [bindL_out fun v hv => (List.nodup_cons.mp nd).1 (List.of_mem_zip hv).1, if_pos hk]
    simp
  | p :: P, w :: vs, i + 1, m, nd, h1, h2, hk => by
    show bindL kindOf ((p, w) :: P.zip vs) m x = _
    unfold bindL
    exact bindL_get (i := i) (List.nodup_cons.mp nd).2 (by simpa using h1) (by simpa using h2) hk
theorem bindC_get {kindOf : Str → Option NameKind} {x : Str} {v : Value} : ∀ {P : List Str} {vs : List Value} {i : Nat} {m : Str → Option Value}, P.Nodup → P[i]? = some x → vs[i]? = some v → kindOf x ≠ some .local →
    bindC kindOf (P.zip vs) m x = some v
  | [], _, _, _, _, h, _, _ => by simp at h
  | _ :: _, [], _, _, _, _, h, _ => by simp at h
  | p :: P, w :: vs, 0, m, nd, h1, h2, hk => by
    simp at h1 h2; subst h1; subst h2
    show bindC kindOf ((p, w) :: P.zip vs) m p = _
    unfold bindC
    rw [bindC_out fun v hv => (List.nodup_cons.mp nd).1 (List.of_mem_zip hv).1, if_neg hk]
    simp
  | p :: P, w :: vs, i + 1, m, nd, h1, h2, hk => by
    show bindC kindOf ((p, w) :: P.zip vs) m x = _
    unfold bindC
    exact bindC_get (i := i) (List.nodup_cons.mp nd).2 (by simpa using h1) (by simpa using h2) hk
def start (N : List Str) (vs : List V) : St := vs.map some ++ List.replicate (N.length - vs.length) none
def cxOf (CX : CXT) (P : Program) (w : World) (K : PySem.W.Frag) (mg : Str → Option Value) (base : Heap) (N : List Str) (qual : Str) (scope : Scope) (f : Addr) (cd : Value) (A : Around) (outer : List Env) (s : Shared) (H : Hp) (E : XK) : Cx where
  prog := P
  w := w
  K := K
  mg := mg
  base := base
  A := A.deeper (envOfC qual scope s.heap.objs.size f cd)
  N := N
  s_0 := s
  H_0 := H
  env := envOfC qual scope s.heap.objs.size f cd
  outer := outer
  stack := envOfC qual scope s.heap.objs.size f cd :: outer
  ex := []
  calm := true
  fn := fun _ => true
  pn := []
  xe := fun e s' => wpAny (model P w) (A.deeper (envOfC qual scope s.heap.objs.size f cd)) (leaving (envOfC qual scope s.heap.objs.size f cd) e) (fun _ s'' => CX outer H s E e s'') (fun e' s'' => CX outer H s E e' s'') s'
theorem cell_has {sc : Scope} {n : Nat} {x : Str} (h : sc.names.lookup x = some .cell) : ∃ c, (cellsFrom n sc.names []).lookup x = some c := by
  have q := PySem.W.cellsFrom_some sc.names n [] (.inl h)
  exact Option.isSome_iff_exists.mp q
theorem inv_start {CX : CXT} {P : Program} {w : World} {K : PySem.W.Frag} {mg : Str → Option Value} {base : Heap} {N ps : List Str} {qual : Str} {scope : Scope} {f : Addr} {cd : Value} {A : Around} {outer : List Env} {s s1 : Shared} {H : Hp} {E : XK} {us : List Value} {vs : List V}
    (S : FnScope N ps scope) (hd : A.handled = none) (e0 : Env0 P w K mg base A outer s H) (hl : vs.length = ps.length) (r : Vals vs us)
    (x : InCallC s s.heap.objs.size (bindL (envOfC qual scope s.heap.objs.size f cd).kindOf (ps.zip us) fun _ => none) (cellsFrom (s.heap.objs.size + 1) scope.names []) (bindC (envOfC qual scope s.heap.objs.size f cd).kindOf (ps.zip us) fun _ => none) s1) :
    Inv (cxOf CX P w K mg base N qual scope f cd A outer s H E) [] (start N vs) H s1 := by
  have hpl : ps.length ≤ N.length := by have := congrArg List.length S.pre; rw [List.length_take] at this; omega
  obtain ⟨h1, tk, rfl, hk⟩ := x.done
  have noA : ∀ b : Addr, b ∉ (cxOf CX P w K mg base N qual scope f cd A outer s H E).ex := fun b z => absurd (show b ∈ ([] : List Addr) from z) (by simp)
  refine ⟨⟨e0.mod, S.kind, rfl, rfl, Nat.le_refl _, fun y z c h1 h2 => ?_, fun y hy => ?_, fun y c _ h => ?_, fun _ => hd, Around.frames_deeper e0.frames, .inr ⟨rfl, rfl⟩, fun b z => absurd z (noA b), e0.bs, e0.bsz, fun b _ _ => noA b, fun b z => absurd z (noA b), e0.funs, e0.frf⟩,
    rfl, e0.bare, Un.kept hk, ⟨_, x.toInCall.ns, fun i y v h1 h2 h3 => ?_⟩, fun y c h => ⟨_, x.cell y c h⟩, e0.hok.fresh (Nat.le_refl _), fun y c h => ?_, fun p hp => absurd (show p ∈ ([] : List (Addr × Obj)) from hp) (by simp), e0.hok.kept hk, ?_⟩
  · exact name_of_addr x.apart (PySem.mem_of_lookup h1) (PySem.mem_of_lookup h2)
  · have hy : scope.names.lookup y = some .cell ∨ scope.names.lookup y = some .free := hy
    rcases hy with hy | hy
    · exact cell_has hy
    · exact absurd rfl (S.nofree _ (PySem.mem_of_lookup hy))
  · exact Nat.le_of_lt (x.above y c (PySem.mem_of_lookup h))
  · have hi : i < vs.length := by
      unfold start at h2
      by_cases hi : i < vs.length
      · exact hi
      · rw [List.getElem?_append_right (by simpa using hi)] at h2
        rw [List.getElem?_replicate] at h2
        split at h2 <;> cases h2
    have ha : vs[i]? = some v := by
      unfold start at h2
      rw [List.getElem?_append_left (by simpa using hi), List.getElem?_map] at h2
      cases e : vs[i]? with
      | none => rw [e] at h2; cases h2
      | some a => rw [e] at h2; cases h2; rfl
    obtain ⟨u, hu, rv⟩ := r.get ha
    have hp : ps[i]? = some y := by
      rw [← S.pre, List.getElem?_take_of_lt (by omega)]; exact h1
    have ndP : ps.Nodup := by rw [← S.pre]; exact S.nd.sublist (List.take_sublist _ _)
    refine ⟨u, rv, ?_⟩
    rcases S.par y (List.mem_of_getElem? hp) with k | k
    · exact .inl ⟨k, bindL_get ndP hp hu k⟩
    · obtain ⟨c, e⟩ := cell_has (n := s.heap.objs.size + 1) k
      refine .inr ⟨.inl k, c, e, ?_⟩
      have q := x.cell y c e
      rw [bindC_get ndP hp hu (by show scope.names.lookup y ≠ _; rw [k]; decide)] at q
      exact q
  · exact e0.hok.fresh (Nat.le_of_lt (x.above y c (PySem.mem_of_lookup h)))
  · unfold start
    show _ = N.length
    rw [List.length_append, List.length_map, List.length_replicate]
    omega
theorem fn_of {CX : CXT} {P : Program} {w : World} {K : PySem.W.Frag} {mg : Str → Option Value} {base : Heap} {k : Nat} {f : Addr} {name qual : Str} {params : Arguments} {body : List Stmt} {scope : Scope} {dV kV doc pm cdv ct oc : Value} {an od : Option Addr}
    {osl : Array (Option Value)} {N ps : List Str} {sp : Sp} (lk : K.lookup f = some ⟨oc, od, .func (PySem.W.fnOf name qual params body scope dV kV doc pm an cdv ct), osl⟩) (hcd : PySem.W.codeIn K cdv qual = true) (S : FnScope N ps scope)
    (len : ∀ vs H Q E, sp vs H Q E → vs.length = ps.length)
    (hbody : ∀ (A : Around) (outer : List Env) (s : Shared) (H : Hp) (vs : List V) (Q : VK) (E : XK), Room k (A.deeper (envOfC qual scope s.heap.objs.size f cdv)) → sp vs H Q E →
      ∃ t, PSs (cxOf CX P w K mg base N qual scope f cdv A outer s H E) body t ∧ t { nx := fun _ H' => Q .non H', rt := Q } (start N vs) H) :
    FnOk P w K mg base CX (k + 1) f (PySem.W.fnOf name qual params body scope dV kV doc pm an cdv ct) ps sp := by
  refine ⟨len, fun A outer s H args us vs Q E hr e0 hb r hsp => ?_⟩
  have hl := len _ _ _ _ hsp
  have KX : K.In s.heap := e0.mod.kin.keeps fun b o e => (e0.bs b o e).1
  have lim : s.heap.NoLimit := e0.mod.nolimit.keeps fun b o e => (e0.bs b o e).1
  have hkind : ∀ y ∈ ps.zip us, scope.names.lookup y.1 = some .local ∨ (scope.names.lookup y.1 = some .cell ∧ ((cellsFrom (s.heap.objs.size + 1) scope.names []).lookup y.1).isSome = true) := fun ⟨n, v⟩ hy => by
    rcases S.par n (List.of_mem_zip hy).1 with q | q
    · exact .inl q
    · exact .inr ⟨q, PySem.W.cellsFrom_some _ _ _ (.inl q)⟩
  refine codeAny_call_function hr.depth (KX _ _ lk) rfl S.co S.gen rfl (PySem.W.codeRec_of KX hcd) (hb _ _ _ _ ?_)
  refine wpAny_newFunctionEnv_cells S.kind hkind fun env he s1 x => ?_
  subst he
  refine ⟨lim.keeps x.toInCall.keep, codeAny_func ?_⟩
  obtain ⟨t, ht, hq⟩ := hbody A outer s H vs Q E (hr.deeper _) hsp
  have I : Inv (cxOf CX P w K mg base N qual scope f cdv A outer s H E) [] (start N vs) H s1 := inv_start S hr.hd e0 hl r x
  refine wpAny_mono (ht [] s1 (start N vs) H _ I hq) (fun fl s' hs => ?_) fun e s' hs => hs
  have fin : ∀ {σ' : St} {H' : Hp} {v : V} {u : Value}, Inv (cxOf CX P w K mg base N qual scope f cdv A outer s H E) [] σ' H' s' → RelV v u → Q v H' → CE outer P w H s Q u s' :=
    fun {σ' H' v u} J rv q => ⟨v, H', J.os, J.bare, J.base, J.hok, rv, q⟩
  cases fl with
  | ret u =>
    obtain ⟨v, σ', H', J, rv, q⟩ := hs
    exact fin J rv q
  | next =>
    obtain ⟨σ', H', J, q⟩ := hs
    exact fin (v := V.non) (u := Value.none) J rfl q
  | brk =>
    obtain ⟨_, _, _, q⟩ := hs
    exact False.elim q
  | cont =>
    obtain ⟨_, _, _, q⟩ := hs
    exact False.elim q
end L2
namespace L2
open PySem PySem.Spec PyProof.Rows
section
variable {X : Cx} {x : Str} {p pos : Pos} {e : Expr} {es : List Expr} {t : TA} {id T : String} {r : List V → Hp → VK → Prop}
def tCB (r : List V → Hp → VK → Prop) (t : TA) : TE := fun σ H Q => t σ H fun vs H1 => r vs H1 Q
theorem pe_callB (hc : CallR X (.builtin id) r) (hg : Gl X x) (hm : X.mg x = none) (hv : bootBuiltins x = some (.builtin id)) (ha : PA X (e :: es) t) (hn : x ≠ "__name__" := by decide) (hdb : (x == ("__debug__" : Str)) = false := by decide)
    (he : starEach (e :: es) X.env = (false, eval e X.env) :: starEach es X.env := by rfl) (hpl : (backTo pos (starEach es X.env)).any (·.1) = false := by rfl) : PE X (.Call (.Name x p) (e :: es) [] pos) (tCB r t) := by
  intro pins s σ H Q I h
  refine wpAny_Call_Name_kw (ld_blt I hg hm hv ?_ hn hdb)
  exact PyProof.Rows.callWith_builtin1 (thn (ha pos pins s σ H _ I h) fun us s1 ⟨vs, H1, I1, r1, q1⟩ => hc pins s1 σ H1 vs us Q I1 r1 q1) he hpl
theorem pe_callTy (hc : CallR X (.type T) r) (hg : Gl X x) (hm : X.mg x = none) (hv : bootBuiltins x = some (.type T)) (ha : PA X (e :: es) t) (hn : x ≠ "__name__" := by decide) (hdb : (x == ("__debug__" : Str)) = false := by decide)
    (he : starEach (e :: es) X.env = (false, eval e X.env) :: starEach es X.env := by rfl) (hpl : (backTo pos (starEach es X.env)).any (·.1) = false := by rfl) : PE X (.Call (.Name x p) (e :: es) [] pos) (tCB r t) := by
  intro pins s σ H Q I h
  refine wpAny_Call_Name_kw (ld_blt I hg hm hv ?_ hn hdb)
  exact PyProof.Rows.callWith_type1 (thn (ha pos pins s σ H _ I h) fun us s1 ⟨vs, H1, I1, r1, q1⟩ => hc pins s1 σ H1 vs us Q I1 r1 q1) he hpl
end
end L2
namespace HT
open PySem PyProof.Rows
def lexLt : List Int → List Int → Bool
  | [], [] => false
  | [], _ :: _ => true
  | _ :: _, [] => false
  | x :: xs, y :: ys => if x = y then lexLt xs ys else decide (x < y)
theorem lexLt_cons (x y : Int) (xs ys : List Int) : lexLt (x :: xs) (y :: ys) = if x = y then lexLt xs ys else decide (x < y) := rfl
theorem lexLt_nil_cons (y : Int) (ys : List Int) : lexLt [] (y :: ys) = true := rfl
theorem lexLt_cons_nil (x : Int) (xs : List Int) : lexLt (x :: xs) [] = false := rfl
section
open PySem.SeqAt
open PySem.AutoSeq1 (wpAny_loadPart')
open PySem.MeetsSeq PySem.MeetsSeq2 PySem.MeetsSeq3
end
section
variable {prog : Program} {w : World} {A : Around} {E : Value → Shared → Prop} {s : Shared}
def sIx (n d : Nat) : Option Int → Nat
  | none => d
  | some v => if v < 0 then (v + (n : Int)).toNat else min v.toNat n
theorem sIx_none (n d : Nat) : sIx n d none = d := rfl
theorem sIx_nat (n d k : Nat) : sIx n d (some (k : Int)) = min k n := by
  show (if (k : Int) < 0 then ((k : Int) + (n : Int)).toNat else min (k : Int).toNat n) = min k n
  rw [if_neg (by omega), Int.toNat_natCast]
theorem sIx_le (n d : Nat) (hd : d ≤ n) (o : Option Int) : sIx n d o ≤ n := by
  cases o with
  | none => exact hd
  | some v =>
    show (if v < 0 then (v + (n : Int)).toNat else min v.toNat n) ≤ n
    by_cases hv : v < 0
    · rw [if_pos hv]; omega
    · rw [if_neg hv]; exact Nat.min_le_right _ _
theorem clip_eq (v : Int) (n d : Nat) : (if v < 0 then max (v + (n : Int)) 0 else min v (n : Int)) = ((sIx n d (some v) : Nat) : Int) := by
  show (if v < 0 then max (v + (n : Int)) 0 else min v (n : Int)) = (((if v < 0 then (v + (n : Int)).toNat else min v.toNat n) : Nat) : Int)
  by_cases hv : v < 0
  · simp only [if_pos hv]; omega
  · simp only [if_neg hv]; omega
theorem adjust_gen (lo hi : Option Int) (n : Nat) : Builtin.Slice.sliceAdjust lo hi 1 (n : Int) = (((sIx n 0 lo : Nat) : Int), ((sIx n n hi : Nat) : Int)) := by
  have h1 : ¬ ((1 : Int) < 0) := by omega
  unfold Builtin.Slice.sliceAdjust
  simp only [h1, if_false]
  refine Prod.ext ?_ ?_
  · cases lo with
    | none => rfl
    | some v => exact clip_eq v n 0
  · cases hi with
    | none => rfl
    | some v => exact clip_eq v n n
theorem places_gen (i j : Nat) : Builtin.Slice.slicePlaces (i : Int) (j : Int) 1 = j - i := by
  unfold Builtin.Slice.slicePlaces
  have h1 : (1 : Int) > 0 := by omega
  simp only [h1, if_true, Int.ediv_one]
  split <;> omega
theorem slicePart_ {v : Value} {o : Option Int} {Q : Option Int → Shared → Prop} (p : IsPart v o) (h : Q o s) : wpAny (model prog w) A (Builtin.Slice.slicePartIndex v) Q E s := by
  cases p with
  | none => exact slicePart_none h
  | int i t => exact slicePart_int h
theorem sliceApplied_gen {sl : Addr} {vl vu : Value} {lo hi : Option Int} {n : Nat} {Q : Int × Int × Nat → Shared → Prop} (hs : s.heap.IsSliceOf sl vl vu .none) (pl : IsPart vl lo) (pu : IsPart vu hi)
    (h : Q (((sIx n 0 lo : Nat) : Int), 1, sIx n n hi - sIx n 0 lo) s) : wpAny (model prog w) A (Builtin.Slice.sliceApplied (.ref sl) (pure (n : Int))) Q E s := by
  obtain ⟨os, hos, hcs, hds⟩ := id hs
  unfold Builtin.Slice.sliceApplied Builtin.Slice.sliceFields
  refine wpAny_bind (wpAny_bind (wpAny_field hos hds (x := vl) rfl (wpAny_bind (wpAny_field hos hds (x := vu) rfl (wpAny_bind (wpAny_field hos hds (x := .none) rfl (wpAny_pure ?_)))))))
  refine wpAny_bind (slicePart_none ?_)
  show wpAny _ _ (if ((1 : Int) == 0) = true then _ else _) _ _ s
  rw [if_neg (by decide)]
  refine wpAny_bind (slicePart_ pl (wpAny_bind (slicePart_ pu (wpAny_bind (wpAny_pure ?_)))))
  show wpAny _ _ (match Builtin.Slice.sliceAdjust lo hi 1 (n : Int) with | (lo, hi) => pure (lo, (1 : Int), Builtin.Slice.slicePlaces lo hi 1)) _ _ s
  rw [adjust_gen lo hi n]
  show wpAny _ _ (pure (((sIx n 0 lo : Nat) : Int), (1 : Int), Builtin.Slice.slicePlaces ((sIx n 0 lo : Nat) : Int) ((sIx n n hi : Nat) : Int) 1)) _ _ s
  rw [places_gen]
  exact wpAny_pure h
theorem pick_gen (xs : Array Value) (i k : Nat) : ((List.range k).filterMap fun (m : Nat) => xs[((i : Int) + (m : Int) * 1).toNat]?).toArray = ((xs.toList.drop i).take k).toArray := by
  have e : (fun (m : Nat) => xs[((i : Int) + (m : Int) * 1).toNat]?) = fun m => xs[i + m]? := by
    funext m
    have : ((i : Int) + (m : Int) * 1).toNat = i + m := by omega
    rw [this]
  rw [e]
  have := pick_run xs i k
  rw [List.filterMap_map] at this
  have e2 : ((fun x => xs[x]?) ∘ fun x => i + x) = fun m => xs[i + m]? := rfl
  rw [e2] at this
  rw [this]
theorem getItem_tuple_cut {t sl : Addr} {items : Array Value} {vl vu : Value} {lo hi : Option Int} {Q : Value → Shared → Prop} (ht : IsTup s.heap t items) (hs : s.heap.IsSliceOf sl vl vu .none) (pl : IsPart vl lo) (pu : IsPart vu hi)
    (hw : ¬ (sIx items.size 0 lo = 0 ∧ sIx items.size items.size hi = items.size))
    (h : Q (.ref s.heap.objs.size) { s with heap := s.heap.push { cls := .type "tuple", data := .seq ((items.toList.drop (sIx items.size 0 lo)).take (sIx items.size items.size hi - sIx items.size 0 lo)).toArray } })
    (hsz : items.size ≤ sizeLine) : wpAny (model prog w) A (getItem (.ref t) (.ref sl)) Q E s := by
  have htake : sizeOk (.seq ((items.toList.drop (sIx items.size 0 lo)).take (sIx items.size items.size hi - sIx items.size 0 lo)).toArray) := by
    show ((items.toList.drop (sIx items.size 0 lo)).take (sIx items.size items.size hi - sIx items.size 0 lo)).toArray.size ≤ sizeLine
    rw [List.size_toArray, List.length_take, List.length_drop, Array.length_toList]
    omega
  have hj : sIx items.size items.size hi ≤ items.size := sIx_le _ _ (Nat.le_refl _) hi
  obtain ⟨os, hos, hcs, hds⟩ := id hs
  have hTs : s.TypeIs (.ref sl) "slice" := ⟨os, hos, hcs⟩
  unfold getItem
  try with_reducible refine wpAny_holding ?_
  first | refine wpAny_bind (wpAny_pure ?_) | skip
  refine wpAny_bind (wpAny_sequenceKey ht.typeIs (by decide) ?_)
  refine wpAny_bind (wpAny_callSpecial?_slot (name := Str.ofString "__getitem__") ht.typeIs PyProof.Rows.slot_tuple_getitem
    (wpAny_call_entry PyProof.Rows.slot_tuple_getitem ht.typeIs entry_tuple_getitem ?_ (args_tuple_getitem _ _)))
  show wpAny _ _ (Builtin.Tuple.tupleItemsOf (.ref t) >>= _) _ _ s
  refine wpAny_bind (tupleItemsOf_ ht ?_)
  refine wpAny_bind (wpAny_typeOf hTs ?_)
  rw [if_pos (by decide)]
  refine wpAny_bind (sliceApplied_gen hs pl pu ?_)
  have hno : ¬ ((((sIx items.size 0 lo : Nat) : Int) == 0 && (1 : Int) == 1 && (sIx items.size items.size hi - sIx items.size 0 lo) == items.size) = true) := by
    intro q
    rw [Bool.and_eq_true, Bool.and_eq_true] at q
    have q1 : ((sIx items.size 0 lo : Nat) : Int) = 0 := eq_of_beq q.1.1
    have q2 : sIx items.size items.size hi - sIx items.size 0 lo = items.size := eq_of_beq q.2
    exact hw ⟨by omega, by omega⟩
  show wpAny _ _ (if (((sIx items.size 0 lo : Nat) : Int) == 0 && (1 : Int) == 1 && (sIx items.size items.size hi - sIx items.size 0 lo) == items.size) = true then _ else _) _ _ s
  rw [if_neg hno, pick_gen]
  first
    | exact wpAny_bind (m := Builtin.Tuple.tupleExact _) (wpAny_newObj_type (wpAny_pure ⟨_, rfl, wpAny_pure h⟩) htake)
    | exact wpAny_bind (m := Builtin.Tuple.tupleExact _) (wpAny_newObj_type (wpAny_bind (wpAny_pure (wpAny_pure ⟨_, rfl, wpAny_pure h⟩))) htake)
    | exact wpAny_bind (wpAny_bind (m := Builtin.Tuple.tupleExact _) (wpAny_newObj_type (wpAny_pure (wpAny_pure ⟨_, rfl, wpAny_pure h⟩)) htake))
    | exact wpAny_bind (wpAny_bind (m := Builtin.Tuple.tupleExact _) (wpAny_newObj_type (wpAny_pure ⟨_, rfl, wpAny_pure h⟩) htake))
end
end HT
namespace L2
open PySem PySem.Spec PyProof.Rows
abbrev TO := St → Hp → (Option Int → Hp → Prop) → Prop
def PO (X : Cx) (e : Option Expr) (t : TO) : Prop :=
  ∀ (pins : List (Addr × Obj)) (s : Shared) (σ : St) (H : Hp) (Q : Option Int → Hp → Prop), Inv X pins σ H s → t σ H Q →
    wpAny (model X.prog X.w) X.A (evalPart e X.env) (fun u s' => ∃ o H', Inv X pins σ H' s' ∧ IsPart u o ∧ Q o H') X.xe s
def tNoPart : TO := fun _ H Q => Q none H
def tPart (t : TE) : TO := fun σ H Q => t σ H fun x H1 => ∃ i, x = .int i ∧ Q (some i) H1
section
variable {X : Cx} {e : Expr} {te : TE} {lo hi : Option Expr} {tl th : TO} {pos p2 : Pos}
theorem po_none : PO X none tNoPart := by
  intro pins s σ H Q I h
  rw [evalPart_none]
  exact wpAny_pure ⟨none, H, I, .none, h⟩
theorem po_some (h : PE X e te) : PO X (some e) (tPart te) := by
  intro pins s σ H Q I hw
  rw [evalPart_some]
  refine thn (h pins s σ H _ I hw) fun u s1 ⟨x, H1, I1, r1, q1⟩ => ?_
  obtain ⟨i, rfl, q⟩ := q1
  obtain ⟨t, rfl⟩ := r1
  exact ⟨some i, H1, I1, .int i t, q⟩
def SlR (X : Cx) (r : V → Option Int → Option Int → Hp → VK → Prop) : Prop :=
  ∀ (pins : List (Addr × Obj)) (s : Shared) (σ : St) (H : Hp) (x : V) (v vl vu : Value) (lo hi : Option Int) (sl : Addr) (Q : VK), Inv X pins σ H s → RelV x v → s.heap.IsSliceOf sl vl vu .none → IsPart vl lo → IsPart vu hi → r x lo hi H Q →
    ∃ T id, typeLookup (.type T) "__getitem__" = pure (some (.builtin id)) ∧ s.TypeIs v T ∧ wpAny (model X.prog X.w) X.A (getItem v (.ref sl)) (EP X pins σ Q) X.xe s
def tSl (r : V → Option Int → Option Int → Hp → VK → Prop) (te : TE) (tl th : TO) : TE := fun σ H Q => te σ H fun x H1 => tl σ H1 fun l H2 => th σ H2 fun u H3 => r x l u H3 Q
theorem pe_slice {r : V → Option Int → Option Int → Hp → VK → Prop} (hr : SlR X r) (he : PE X e te) (hl : PO X lo tl) (hu : PO X hi th) : PE X (.Subscript e (.Slice lo hi none p2) pos) (tSl r te tl th) := by
  intro pins s σ H Q I h
  refine Subscript_ (thn (he pins s σ H _ I h) fun v s1 ⟨x, H1, I1, r1, q1⟩ => ?_)
  refine wpAny_Slice (thn (hl pins s1 σ H1 _ I1 q1) fun vl s2 ⟨l, H2, I2, pl, q2⟩ => thn (hu pins s2 σ H2 _ I2 q2) fun vu s3 ⟨u, H3, I3, pu, q3⟩ => ?_)
  rw [evalPart_none]
  refine wpAny_pure ?_
  have I4 : Inv X pins σ H3 { s3 with heap := s3.heap.push { cls := .type "slice", data := .fields #[vl, vu, .none] } } := I3.kept (t' := s3.toks) fun b ob q => Heap.get?_push_of_some _ q
  obtain ⟨T, id, hT, ht, hg⟩ := hr pins { s3 with heap := s3.heap.push { cls := .type "slice", data := .fields #[vl, vu, .none] } } σ H3 x v vl vu l u s3.heap.objs.size Q I4 r1 (Heap.IsSliceOf.new ..) pl pu q3
  show wpAny (model X.prog X.w) X.A (subscriptTail e (.Slice lo hi none p2) v (.ref s3.heap.objs.size)) (EP X pins σ Q) X.xe { s3 with heap := s3.heap.push { cls := .type "slice", data := .fields #[vl, vu, .none] } }
  exact tail_any (ops := [.ref s3.heap.objs.size, v]) ht hT hg (by with_unfolding_all rfl)
def cutV (xs : List V) (lo hi : Option Int) : List V := (xs.drop (HT.sIx xs.length 0 lo)).take (HT.sIx xs.length xs.length hi - HT.sIx xs.length 0 lo)
theorem cutV_length (xs : List V) (lo hi : Option Int) : (cutV xs lo hi).length ≤ xs.length := by
  unfold cutV
  rw [List.length_take, List.length_drop]
  omega
def rSlT (K : PySem.W.Frag) : V → Option Int → Option Int → Hp → VK → Prop := fun x lo hi H Q => ∃ a xs, x = .ref a ∧ SqT K H a xs ∧
  ¬ (HT.sIx xs.length 0 lo = 0 ∧ HT.sIx xs.length xs.length hi = xs.length) ∧ ∀ p, H p = none → Q (.ref p) (upd H p (.tup (cutV xs lo hi)))
theorem sl_tup : SlR X (rSlT X.K) := by
  intro pins s σ H x v vl vu lo hi sl Q I rx hs pl pu h
  obtain ⟨a, xs, rfl, hx, hw, q⟩ := h
  cases rx
  obtain ⟨its, r, ht, hz⟩ := I.tuple hx
  have hlen : its.toArray.size = xs.length := by rw [List.size_toArray]; exact r.length.symm
  refine ⟨"tuple", _, PyProof.Rows.slot_tuple_getitem.lookup, ht.typeIs, ?_⟩
  refine HT.getItem_tuple_cut ht hs pl pu (by rw [hlen]; exact hw) ?_ (by rw [hlen]; exact hz)
  rw [hlen]
  refine ⟨.ref s.heap.objs.size, _, I.laid (t' := s.toks) (o := .tup (cutV xs lo hi)) (fun b ob q => Heap.get?_push_of_some _ q) (Nat.le_refl _) ?_, rfl, q _ (I.hok.fresh (Nat.le_refl _))⟩
  exact ⟨Nat.le_trans (cutV_length xs lo hi) hz, _, (r.drop (HT.sIx xs.length 0 lo)).take (HT.sIx xs.length xs.length hi - HT.sIx xs.length 0 lo), IsTup.new _ _⟩
end
end L2
namespace L2
open PySem PySem.Spec PyProof.Rows
def ixN (n : Nat) (i : Int) : Option Nat := if 0 ≤ i then (if i < n then some i.toNat else none) else if -(n : Int) ≤ i then some (i + n).toNat else none
def atI {α : Type} (xs : List α) (i : Int) : Option α := (ixN xs.length i).bind fun j => xs[j]?
theorem ixN_seq {n : Nat} {i : Int} {j : Nat} (h : ixN n i = some j) : seqIndex? i n = some j ∧ j < n ∧ -(n : Int) ≤ i ∧ i < n := by
  unfold ixN at h
  by_cases h0 : 0 ≤ i
  · rw [if_pos h0] at h
    by_cases h1 : i < n
    · rw [if_pos h1] at h
      have e : i.toNat = j := Option.some.inj h
      exact ⟨by rw [seqIndex_of h0 h1, e], by omega, by omega, h1⟩
    · rw [if_neg h1] at h; cases h
  · rw [if_neg h0] at h
    by_cases h1 : -(n : Int) ≤ i
    · rw [if_pos h1] at h
      have e : (i + n).toNat = j := Option.some.inj h
      exact ⟨by rw [seqIndex_neg (by omega) h1, e], by omega, h1, by omega⟩
    · rw [if_neg h1] at h; cases h
theorem atI_get {α : Type} {xs : List α} {i : Int} {v : α} (h : atI xs i = some v) : ∃ j, seqIndex? i xs.length = some j ∧ xs[j]? = some v ∧ j < xs.length ∧ -(xs.length : Int) ≤ i ∧ i < xs.length := by
  unfold atI at h
  cases e : ixN xs.length i with
  | none => rw [e] at h; cases h
  | some j =>
    rw [e] at h
    obtain ⟨h1, h2, h3, h4⟩ := ixN_seq e
    exact ⟨j, h1, h, h2, h3, h4⟩
def PlainIx (b : Expr) : Prop := ∀ o i, subscripted b false o i = operate [o, i] (getItem o i)
def IxR (X : Cx) (r : R2) : Prop :=
  ∀ (value slice : Expr) (pins : List (Addr × Obj)) (s : Shared) (σ : St) (H : Hp) (x y : V) (v u : Value) (Q : VK), Inv X pins σ H s → RelV x v → RelV y u → r x y H Q →
    subscripted slice false v u = operate [v, u] (getItem v u) → wpAny (model X.prog X.w) X.A (subscriptTail value slice v u) (EP X pins σ Q) X.xe s
def MtR (X : Cx) (id : String) (r : V → List V → Hp → VK → Prop) : Prop :=
  ∀ (pins : List (Addr × Obj)) (s : Shared) (σ : St) (H : Hp) (x : V) (xs : List V) (v : Value) (us : List Value) (Q : VK), Inv X pins σ H s → RelV x v → Vals xs us → r x xs H Q →
    wpAny (model X.prog X.w) X.A (call (.builtin id) (v :: us)) (EP X pins σ Q) X.xe s
section
variable {X : Cx} {a b : Expr} {ta tb : TE} {pos : Pos}
theorem pe_ix {r : R2} (hr : IxR X r) (ha : PE X a ta) (hb : PE X b tb) (hs : PlainIx b) : PE X (.Subscript a b pos) (tOp r ta tb) := by
  intro pins s σ H Q I h
  exact Subscript_ (binT ha hb I h fun v u s2 x y H2 I2 rx ry q => hr a b pins s2 σ H2 x y v u Q I2 rx ry q (hs _ _))
def rIxL (K : PySem.W.Frag) : R2 := fun x y H Q => ∃ p xs i v, x = .ref p ∧ y = .int i ∧ SqL K H p xs ∧ atI xs i = some v ∧ Q v H
def rIxT (K : PySem.W.Frag) : R2 := fun x y H Q => ∃ p xs i v, x = .ref p ∧ y = .int i ∧ SqT K H p xs ∧ atI xs i = some v ∧ Q v H
theorem ix_list : IxR X (rIxL X.K) := by
  intro value slice pins s σ H x y v u Q I rx ry h hs
  obtain ⟨p, xs, i, z, rfl, rfl, hq, he, q⟩ := h
  cases rx
  obtain ⟨t, rfl⟩ := ry
  obtain ⟨its, r, pl, hz⟩ := I.list hq
  obtain ⟨j, h1, h2, h3, h4, h5⟩ := atI_get he
  obtain ⟨w, ew, rw'⟩ := r.get h2
  have hl := r.length
  have hn := line63
  have fin : EP X pins σ Q w s := ⟨z, H, I, rw', q⟩
  by_cases h0 : 0 ≤ i
  · have hj : i.toNat = j := by
      rw [seqIndex_of h0 h5] at h1
      exact Option.some.inj h1
    exact item_listR pl.isList h0 (by omega) (by rw [hj]; simpa using ew) fin hs
  · have hj : (i + (its.toArray.size : Int)).toNat = j := by
      rw [seqIndex_neg (by omega) h4] at h1
      rw [List.size_toArray, ← hl]
      exact Option.some.inj h1
    exact subscriptTail_builtinR (x := w) pl.isList.typeIs slot_list_getitem.lookup
      (wpAny_getItem_list_neg (Q := fun r s' => r = w ∧ EP X pins σ Q r s') pl.isList (by omega) (by rw [List.size_toArray] <;> omega) (by omega) (by rw [hj]; simpa using ew) ⟨rfl, fin⟩) hs
theorem ix_tup : IxR X (rIxT X.K) := by
  intro value slice pins s σ H x y v u Q I rx ry h hs
  obtain ⟨p, xs, i, z, rfl, rfl, hq, he, q⟩ := h
  cases rx
  obtain ⟨t, rfl⟩ := ry
  obtain ⟨its, r, pl, hz⟩ := I.tuple hq
  obtain ⟨j, h1, h2, h3, h4, h5⟩ := atI_get he
  obtain ⟨w, ew, rw'⟩ := r.get h2
  have hl := r.length
  have hn := line63
  have fin : EP X pins σ Q w s := ⟨z, H, I, rw', q⟩
  exact subscriptTail_builtinR (x := w) pl.typeIs slot_tuple_getitem.lookup
    (getItem_tuple (j := j) (Q := fun r s' => r = w ∧ EP X pins σ Q r s') pl (by omega) (by omega) (by rw [List.size_toArray, ← hl]; exact h1) (by simpa using ew) ⟨rfl, fin⟩) hs
theorem Inv.lst {pins : List (Addr × Obj)} {σ : St} {H : Hp} {s : Shared} {p : Addr} {xs : List V} (I : Inv X pins σ H s) (h : H p = some (.lst xs)) :
    ∃ (its : List Value) (n : Nat), Vals xs its ∧ s.heap.get? p = some { cls := .type "list", data := .seq its.toArray n } ∧ xs.length ≤ sizeLine := by
  obtain ⟨z, its, n, r, e⟩ := I.hok p _ h
  exact ⟨its, n, r, e, z⟩
theorem slice_bounds (lo hi : Option Int) (n : Nat) : (sliceBounds lo hi none n).1 = ((HT.sIx n 0 lo : Nat) : Int) ∧ (sliceBounds lo hi none n).2.1 = ((HT.sIx n n hi : Nat) : Int) ∧ (sliceBounds lo hi none n).2.2 = 1 := by
  refine ⟨?_, ?_, rfl⟩
  · cases lo with
    | none => simp [sliceBounds, HT.sIx]
    | some i =>
      simp only [sliceBounds, HT.sIx, Option.getD_none, show (1 : Int) > 0 by decide, if_true]
      by_cases h : i < 0
      · simp only [h, if_true] <;> omega
      · simp only [h, if_false] <;> omega
  · cases hi with
    | none => simp [sliceBounds, HT.sIx]
    | some i =>
      simp only [sliceBounds, HT.sIx, Option.getD_none, show (1 : Int) > 0 by decide, if_true]
      by_cases h : i < 0
      · simp only [h, if_true] <;> omega
      · simp only [h, if_false] <;> omega
theorem slicePick_cut (its : List Value) (lo hi : Option Int) : slicePick its.toArray lo hi none = ((its.drop (HT.sIx its.length 0 lo)).take (HT.sIx its.length its.length hi - HT.sIx its.length 0 lo)).toArray := by
  obtain ⟨h1, h2, h3⟩ := slice_bounds lo hi its.toArray.size
  unfold slicePick
  rw [h1, h2, h3]
  simp only [sliceRange_one, pick_run, List.size_toArray] <;> rfl
def rSlL (K : PySem.W.Frag) : V → Option Int → Option Int → Hp → VK → Prop := fun x lo hi H Q => ∃ a xs, x = .ref a ∧ SqL K H a xs ∧ ∀ p, H p = none → Q (.ref p) (upd H p (.lst (cutV xs lo hi)))
theorem sl_list : SlR X (rSlL X.K) := by
  intro pins s σ H x v vl vu lo hi sl Q I rx hs pl pu h
  obtain ⟨a, xs, rfl, hx, q⟩ := h
  cases rx
  obtain ⟨its, r, ht, hz⟩ := I.list hx
  have hlen := r.length
  refine ⟨"list", _, slot_list_getitem.lookup, ht.isList.typeIs, ?_⟩
  refine wpAny_getItem_list_slice ht.isList hs pl pu .none (by simp) ?_ (by rw [List.size_toArray] <;> omega)
  rw [slicePick_cut, ← hlen]
  refine ⟨.ref s.heap.objs.size, _, I.laid (t' := s.toks) (o := .lst (cutV xs lo hi)) (fun b ob q => Heap.get?_push_of_some _ q) (Nat.le_refl _) ?_, rfl, q _ (I.hok.fresh (Nat.le_refl _))⟩
  exact ⟨Nat.le_trans (cutV_length xs lo hi) hz, _, 0, (r.drop (HT.sIx xs.length 0 lo)).take (HT.sIx xs.length xs.length hi - HT.sIx xs.length 0 lo), Heap.get?_push_size _ rfl⟩
def flatV : V → Bool
  | .non => true
  | .bl _ => true
  | .int _ => true
  | .str _ => true
  | _ => false
def eqV : V → V → Bool
  | .non, .non => true
  | .bl a, .bl b => a == b
  | .bl a, .int b => (if a then 1 else 0) == b
  | .int a, .bl b => a == (if b then 1 else 0)
  | .int a, .int b => a == b
  | .str a, .str b => a == b
  | _, _ => false
theorem eqAt_V {A : Around} {s : Shared} {y x : V} {u v : Value} (ry : RelV y u) (rx : RelV x v) (fy : flatV y = true) (fx : flatV x = true) : SeqAt.EqAt A s u v (eqV y x) := by
  cases y with
  | non =>
    cases ry
    cases x with
    | non => cases rx; exact SeqAt.EqAt.same _
    | bl b => cases rx; exact SeqAt.EqAt.none_bool b
    | int b => obtain ⟨t, rfl⟩ := rx; exact SeqAt.EqAt.none_int b t
    | str b => obtain ⟨t, rfl⟩ := rx; exact SeqAt.EqAt.none_str b t
    | _ => exact absurd (show false = true from fx) Bool.false_ne_true
  | bl a =>
    cases ry
    cases x with
    | non => cases rx; exact SeqAt.EqAt.bool_none a
    | bl b => cases rx; exact SeqAt.EqAt.bool_bool a b
    | int b => obtain ⟨t, rfl⟩ := rx; exact SeqAt.EqAt.bool_int a b t
    | str b => obtain ⟨t, rfl⟩ := rx; exact SeqAt.EqAt.bool_str a b t
    | _ => exact absurd (show false = true from fx) Bool.false_ne_true
  | int a =>
    obtain ⟨t', rfl⟩ := ry
    cases x with
    | non => cases rx; exact SeqAt.EqAt.int_none a t'
    | bl b => cases rx; exact SeqAt.EqAt.int_bool a t' b
    | int b => obtain ⟨t, rfl⟩ := rx; exact SeqAt.EqAt.int_int a t' b t
    | str b => obtain ⟨t, rfl⟩ := rx; exact SeqAt.EqAt.int_str a t' b t
    | _ => exact absurd (show false = true from fx) Bool.false_ne_true
  | str a =>
    obtain ⟨t', rfl⟩ := ry
    cases x with
    | non => cases rx; exact SeqAt.EqAt.str_none a t'
    | bl b => cases rx; exact SeqAt.EqAt.str_bool a t' b
    | int b => obtain ⟨t, rfl⟩ := rx; exact SeqAt.EqAt.str_int a t' b t
    | str b => obtain ⟨t, rfl⟩ := rx; exact SeqAt.EqAt.str_str a t' b t
    | _ => exact absurd (show false = true from fx) Bool.false_ne_true
  | _ => exact absurd (show false = true from fy) Bool.false_ne_true
def eqU (x : V) (u : Value) : Bool := match u with
  | .none => eqV .non x
  | .bool b => eqV (.bl b) x
  | .int i _ => eqV (.int i) x
  | .str z _ => eqV (.str z) x
  | _ => false
theorem eqU_of {x y : V} {u : Value} (r : RelV y u) (f : flatV y = true) : eqU x u = eqV y x := by
  cases y with
  | non => cases r; rfl
  | bl b => cases r; rfl
  | int i => obtain ⟨t, rfl⟩ := r; rfl
  | str z => obtain ⟨t, rfl⟩ := r; rfl
  | _ => exact absurd (show false = true from f) Bool.false_ne_true
theorem any_eqU {x : V} : ∀ {xs : List V} {us : List Value}, Vals xs us → xs.all flatV = true → us.any (eqU x) = xs.any fun y => eqV y x
  | _, _, .nil, _ => rfl
  | y :: xs, u :: us, .cons r t, f => by
    rw [List.all_cons, Bool.and_eq_true] at f
    rw [List.any_cons, List.any_cons, eqU_of r f.1, any_eqU t f.2]
theorem mem_eqAt {A : Around} {s : Shared} {x : V} {v : Value} (rx : RelV x v) (fx : flatV x = true) : ∀ {xs : List V} {us : List Value}, Vals xs us → xs.all flatV = true → ∀ u ∈ us, SeqAt.EqAt A s u v (eqU x u)
  | _, _, .nil, _ => fun u hu => by cases hu
  | y :: xs, u :: us, .cons r t, f => fun u' hu => by
    rw [List.all_cons, Bool.and_eq_true] at f
    rcases List.mem_cons.mp hu with rfl | hu
    · rw [eqU_of r f.1]; exact eqAt_V r rx f.1 fx
    · exact mem_eqAt rx fx t f.2 u' hu
def inV (x : V) (xs : List V) : Bool := xs.any fun y => eqV y x
def rIn (K : PySem.W.Frag) (neg : Bool) : R2 := fun x y H Q => ∃ p xs, y = .ref p ∧ (SqL K H p xs ∨ SqT K H p xs) ∧ flatV x = true ∧ xs.all flatV = true ∧ Q (.bl (if neg then !inV x xs else inV x xs)) H
theorem op_in_seq : OpR X (compareOp .In) (rIn X.K false) := by
  intro pins s σ H x y v u Q I rx ry h
  obtain ⟨p, xs, rfl, hq, fx, fs, q⟩ := h
  cases ry
  rcases hq with hq | hq
  · obtain ⟨its, r, pl, hz⟩ := I.list hq
    refine SeqAt.in_listAt (eqU x) pl.isList (fun w hw => mem_eqAt rx fx r fs w (by simpa using hw)) ⟨.bl _, H, I, rfl, ?_⟩
    rw [show its.toArray.any (eqU x) = its.any (eqU x) by simp, any_eqU r fs]
    exact q
  · obtain ⟨its, r, pl, hz⟩ := I.tuple hq
    refine SeqAt.in_tupleAt (eqU x) pl (fun w hw => mem_eqAt rx fx r fs w (by simpa using hw)) ⟨.bl _, H, I, rfl, ?_⟩
    rw [show its.toArray.any (eqU x) = its.any (eqU x) by simp, any_eqU r fs]
    exact q
theorem call_len_seq : CallR X (.builtin "len") (fun xs H Q => ∃ p ys, xs = [.ref p] ∧ (SqL X.K H p ys ∨ SqT X.K H p ys) ∧ Q (.int ys.length) H) := by
  intro pins s σ H xs us Q I r h
  obtain ⟨p, ys, rfl, hq, q⟩ := h
  obtain ⟨u, rfl, rx⟩ := vals1 r
  cases rx
  have hn := line63
  rcases hq with hq | hq
  · obtain ⟨its, r', pl, hz⟩ := I.list hq
    have hlen := r'.length
    exact Calls.call_len_list pl.isList (by simp only [List.size_toArray] <;> omega) ⟨.int ys.length, H, I.tok _, ⟨s.toks + 1, by rw [List.size_toArray, hlen]⟩, q⟩
  · obtain ⟨its, r', pl, hz⟩ := I.tuple hq
    have hlen := r'.length
    exact len_tuple pl (by simp only [List.size_toArray] <;> omega) ⟨.int ys.length, H, I.tok _, ⟨s.toks + 1, by rw [List.size_toArray, hlen]⟩, q⟩
theorem call_list_of : CallR X (.type "list") (fun xs H Q => ∃ p ys, xs = [.ref p] ∧ (SqL X.K H p ys ∨ SqT X.K H p ys) ∧ ∀ l, H l = none → Q (.ref l) (upd H l (.lst ys))) := by
  intro pins s σ H xs us Q I r h
  obtain ⟨p, ys, rfl, hq, q⟩ := h
  obtain ⟨u, rfl, rx⟩ := vals1 r
  cases rx
  have fin : ∀ (its : List Value), Vals ys its → ys.length ≤ sizeLine → ∀ (h' : Heap) (c' : Nat), (∀ b o', s.heap.get? b = some o' → h'.get? b = some o') →
      h'.get? s.heap.objs.size = some { cls := .type "list", dict := none, data := .seq its.toArray c', slots := #[] } → EP X pins σ Q (.ref s.heap.objs.size) { s with heap := h' } := fun its r' hz h' c' kp e =>
    ⟨.ref s.heap.objs.size, _, I.laid (t' := s.toks) kp (Nat.le_refl _) (show ObjOk X.prog X.w _ h' _ (.lst ys) from ⟨hz, its, c', r', e⟩), rfl, q _ (I.hok.fresh (Nat.le_refl _))⟩
  rcases hq with hq | hq
  · obtain ⟨its, r', pl, hz⟩ := I.list hq
    have hlen := r'.length
    obtain ⟨o, ho, hc, n, hd⟩ := pl.isList
    exact call_list_seq p (.inl rfl) ho hc hd (fun h' c' kp e => fin its r' hz h' c' kp e) (by simp only [List.size_toArray] <;> omega)
  · obtain ⟨its, r', pl, hz⟩ := I.tuple hq
    have hlen := r'.length
    obtain ⟨o, ho, hc, n, hd⟩ := pl
    exact call_list_seq p (.inr rfl) ho hc hd (fun h' c' kp e => fin its r' hz h' c' kp e) (by simp only [List.size_toArray] <;> omega)
def tyV (K : PySem.W.Frag) (T : String) (x : V) (H : Hp) : Prop := match x with
  | .str _ => T = "str"
  | .int _ => T = "int"
  | .ref p => (T = "list" ∧ ∃ xs, SqL K H p xs) ∨ (T = "tuple" ∧ ∃ o, K.lookup p = some o ∧ o.cls = .type "tuple" ∧ o.dict = none) ∨
      (T = "dict" ∧ ((∃ kvs, H p = some (.dK kvs)) ∨ ∃ kvs, H p = some (.dT kvs))) ∨ (T = "set" ∧ ∃ S n, H p = some (.set S n))
  | _ => False
theorem tyV_is {pins : List (Addr × Obj)} {σ : St} {H : Hp} {s : Shared} {T : String} {x : V} {v : Value} (I : Inv X pins σ H s) (r : RelV x v) (ty : tyV X.K T x H) :
    s.TypeIs v T ∧ ∀ a, v = .ref a → ∃ ob, s.heap.get? a = some ob ∧ ob.dict = none := by
  cases x with
  | str z =>
    obtain ⟨t, rfl⟩ := r
    cases (show T = "str" from ty)
    exact ⟨typeIs_str s z t, fun _ e => nomatch e⟩
  | int i =>
    obtain ⟨t, rfl⟩ := r
    cases (show T = "int" from ty)
    exact ⟨typeIs_int s i t, fun _ e => nomatch e⟩
  | ref p =>
    cases r
    rcases ty with ⟨rfl, xs, hq⟩ | ⟨rfl, o, hk, hc, hd⟩ | ⟨rfl, hk⟩ | ⟨rfl, S, n, hk⟩
    · obtain ⟨its, _, pl, _⟩ := I.list hq
      refine ⟨pl.isList.typeIs, fun a e => ?_⟩
      cases e
      obtain ⟨o, n, e, c, hd, _⟩ := pl
      exact ⟨o, e, hd⟩
    · refine ⟨⟨o, I.kIn p o hk, hc⟩, fun a e => ?_⟩
      cases e
      exact ⟨o, I.kIn _ o hk, hd⟩
    · have z : ∃ o, s.heap.get? p = some o ∧ o.ExactDict := by
        rcases hk with ⟨kvs, hk⟩ | ⟨kvs, hk⟩
        · obtain ⟨_, _, _, _, o, _, _, e, ex, _⟩ := I.hok p _ hk
          exact ⟨o, e, ex⟩
        · obtain ⟨_, _, _, _, o, _, _, e, ex, _⟩ := I.hok p _ hk
          exact ⟨o, e, ex⟩
      obtain ⟨o, e, ex⟩ := z
      refine ⟨⟨o, e, ex.1⟩, fun a e2 => ?_⟩
      cases e2
      exact ⟨o, e, ex.2.1⟩
    · obtain ⟨o, _, _, _, e, ex, _⟩ := I.hok p _ hk
      refine ⟨⟨o, e, ex.1⟩, fun a e2 => ?_⟩
      cases e2
      exact ⟨o, e, ex.2.1⟩
  | _ => exact False.elim ty
def tBM (K : PySem.W.Frag) (T : String) (r : V → List V → Hp → VK → Prop) (to : TE) (t : TA) : TE := fun σ H Q => to σ H fun x H1 => tyV K T x H1 ∧ t σ H1 fun xs H2 => r x xs H2 Q
variable {o e : Expr} {es : List Expr} {to : TE} {t : TA} {name : Str} {apos cpos : Pos} {T id : String} {r : V → List V → Hp → VK → Prop}
theorem pe_bm (pa : PlainAttrs T) (slot : Slot T name id) (hty : typeOf (.builtin id) = pure (.type "method_descriptor")) (hm : MtR X id r) (ho : PE X o to) (ha : PA X (e :: es) t)
    (hbase : attributeBase o name X.env (eval o X.env) = eval o X.env := by rfl)
    (hfew : ((backTo cpos (starEach (e :: es) X.env)).all (fun x => !x.1) && (backToKw cpos (keywordEach [] X.env)).all (fun x => x.1.isSome)
      && decide ((e :: es).length + ([] : List Keyword).length + (if ([] : List Keyword).isEmpty then 0 else 1) < 30)) = true := by rfl)
    (hline : (apos.endLine == cpos.line) = true := by rfl) (hs : starEach (e :: es) X.env = (false, eval e X.env) :: starEach es X.env := by rfl) (hplain : (backTo cpos (starEach es X.env)).any (·.1) = false := by rfl) :
    PE X (.Call (.Attribute o name apos) (e :: es) [] cpos) (tBM X.K T r to t) := by
  intro pins s σ H Q I h
  refine wpAny_Call_method_late hbase hfew hline rfl (thn (ho pins s σ H _ I h) fun v s1 ⟨x, H1, I1, r1, ty, q1⟩ => ?_)
  obtain ⟨h1, h2⟩ := tyV_is I1 r1 ty
  refine ⟨T, id, pa, slot, hty, h1, h2, ?_⟩
  have hA := ha cpos pins s1 σ H1 _ I1 q1
  rw [hs] at hA ⊢
  refine Calls.callWith_builtin (by show (false || (backTo cpos (starEach es X.env)).any (·.1)) = false; rw [hplain] <;> rfl) (Calls.evalArgs_plain ?_)
  exact thn hA fun us s2 ⟨vs, H2, I2, r2, q2⟩ => hm pins s2 σ H2 x vs v us Q I2 r1 r2 q2
end
end L2
namespace L2
open PySem PySem.Spec PyProof.Rows
def MtM (X : Cx) (id : String) (r : V → List V → Hp → VK → Prop) : Prop :=
  ∀ (pins : List (Addr × Obj)) (s : Shared) (σ : St) (H : Hp) (x : V) (xs : List V) (v : Value) (us : List Value) (Q : VK), Inv X pins σ H s → RelV x v → Vals xs us → r x xs H Q →
    wpAny (model X.prog X.w) X.A (call (.builtin id) (v :: us)) (EP X pins σ Q) X.xe s
theorem Vals.one : ∀ {x : V} {us : List Value}, Vals [x] us → ∃ u, us = [u] ∧ RelV x u
  | _, _, .cons r .nil => ⟨_, rfl, r⟩
theorem Vals.zero : ∀ {us : List Value}, Vals [] us → us = []
  | _, .nil => rfl
theorem Vals.dropLast {xs : List V} {us : List Value} (h : Vals xs us) : Vals xs.dropLast us.dropLast := by
  induction h with
  | nil => exact .nil
  | cons r t ih =>
    cases t with
    | nil => exact .nil
    | cons q t' => exact .cons r ih
theorem Vals.eraseIdx : ∀ {xs : List V} {us : List Value} (i : Nat), Vals xs us → Vals (xs.eraseIdx i) (us.eraseIdx i)
  | _, _, _, .nil => .nil
  | _, _, 0, .cons _ t => t
  | _, _, i + 1, .cons r t => .cons r (Vals.eraseIdx i t)
theorem Vals.reverse {xs : List V} {us : List Value} (h : Vals xs us) : Vals xs.reverse us.reverse := by
  induction h with
  | nil => exact .nil
  | cons r t ih => rw [List.reverse_cons, List.reverse_cons]; exact Vals.append ih (.cons r .nil)
section
variable {X : Cx} {pins : List (Addr × Obj)} {σ : St} {H : Hp} {s : Shared} {l b : Addr} {xs ys zs : List V}
theorem Inv.lset {its its' : List Value} {n : Nat} {f : Array Value → Array Value} {t' : Nat} (I : Inv X pins σ H s) (hH : H l = some (.lst xs))
    (e : s.heap.get? l = some { cls := .type "list", data := .seq its.toArray n }) (hf : f its.toArray = its'.toArray) (hv : Vals ys its') (hz : ys.length ≤ sizeLine) :
    Inv X pins σ (upd H l (.lst ys)) { s with heap := s.heap.update l (Obj.mapSeq f), toks := t' } := by
  have q := PySem.IsL.update e f
  rw [hf] at q
  refine I.write (x := l) (e := l) (by rw [hH]; exact trivial) (.inl rfl) (fun b' u hb hu => (Heap.get?_update_other s.heap (Obj.mapSeq f) (Ne.symm hb)).trans hu) ⟨_, q⟩ ?_
  exact ⟨hz, its', _, hv, q⟩
theorem Inv.lnew {its : List Value} {t' : Nat} (I : Inv X pins σ H s) (hv : Vals ys its) (hz : ys.length ≤ sizeLine) :
    Inv X pins σ (upd H s.heap.objs.size (.lst ys)) { s with heap := s.heap.push { cls := .type "list", data := .seq its.toArray }, toks := t' } :=
  I.laid (fun _ _ q => Heap.get?_push_of_some _ q) (Nat.le_refl _) ⟨hz, its, 0, hv, Heap.get?_push_size _ rfl⟩
theorem Inv.fresh (I : Inv X pins σ H s) : H s.heap.objs.size = none := I.hok.fresh (Nat.le_refl _)
theorem Inv.lstM (I : Inv X pins σ H s) (hH : H l = some (.lst xs)) : xs.length ≤ sizeLine ∧ ∃ (its : List Value) (n : Nat), Vals xs its ∧ xs.length = its.length ∧ s.heap.get? l = some { cls := .type "list", data := .seq its.toArray n } := by
  obtain ⟨z, its, n, r, e⟩ := I.hok l _ hH
  exact ⟨z, its, n, r, r.length, e⟩
end
section
variable {X : Cx}
def rAppend : V → List V → Hp → VK → Prop := fun x vs H Q => ∃ l xs y, x = .ref l ∧ vs = [y] ∧ H l = some (.lst xs) ∧ xs.length < sizeLine ∧ Q .non (upd H l (.lst (xs ++ [y])))
theorem mt_append : MtM X "list.append" rAppend := by
  intro pins s σ H x vs v us Q I rx rv h
  obtain ⟨l, xs, y, rfl, rfl, hH, hz, q⟩ := h
  cases rx
  obtain ⟨u, rfl, ru⟩ := rv.one
  obtain ⟨z, its, n, r, hl, e⟩ := I.lstM hH
  refine call_meets F.slot_list_append ⟨_, e, rfl⟩ F.entry_list_append (F.args_list_append_2 _ _) (PySem.list_append l its.toArray n u (by rw [List.size_toArray]; omega)) ⟨e, ?_⟩
  refine ⟨.non, _, I.lset (its' := its ++ [u]) hH e (by simp) (r.append (.cons ru .nil)) ?_, rfl, q⟩
  rw [List.length_append, List.length_singleton]
  omega
end
section
variable {prog : Program} {w : World} {A : Around} {E : Value → Shared → Prop} {s : Shared}
end
section
variable {X : Cx}
end
end L2
namespace L2
open PySem PySem.Spec PyProof.Rows
theorem Vals.ints : ∀ {ns : List Int} {us : List Value}, Vals (ns.map V.int) us → IntsAre us ns
  | [], us, h => by
    rw [List.map_nil] at h
    cases h
    exact IntsAre.nil
  | n :: ns, us, h => by
    rw [List.map_cons] at h
    cases h with
    | cons r t =>
      obtain ⟨k, rfl⟩ := r
      exact IntsAre.cons n k (Vals.ints t)
theorem Vals.strs : ∀ {xs : List Str} {us : List Value}, Vals (xs.map V.str) us → StrsAre us xs
  | [], us, h => by
    rw [List.map_nil] at h
    cases h
    exact StrsAre.nil
  | x :: xs, us, h => by
    rw [List.map_cons] at h
    cases h with
    | cons r t =>
      obtain ⟨k, rfl⟩ := r
      exact StrsAre.cons x k (Vals.strs t)
theorem Vals.bls : ∀ {bs : List Bool} {us : List Value}, Vals (bs.map V.bl) us → us = bs.map Value.bool
  | [], us, h => by
    rw [List.map_nil] at h
    cases h
    rfl
  | b :: bs, us, h => by
    rw [List.map_cons] at h
    cases h with
    | cons r t =>
      cases r
      rw [Vals.bls t, List.map_cons]
theorem Vals.ref1 {a : Addr} {us : List Value} (r : Vals [V.ref a] us) : us = [Value.ref a] := by
  cases r with
  | cons r t =>
    cases t
    cases r
    rfl
section
variable {prog : Program} {w : World} {A : Around} {E : Value → Shared → Prop} {s : Shared} {l : Addr} {its : List Value} {ns : List Int} {Q : Value → Shared → Prop}
theorem sum_raw (hh : A.handled = none) (hl : s.heap.IsList l its.toArray) (hi : IntsAre its ns)
    (h : ∀ h' tk t', (∀ b o, s.heap.get? b = some o → h'.get? b = some o) → Q (.int ns.sum t') { s with heap := h', toks := tk }) : wpAny (model prog w) A (call (.builtin "sum") [.ref l]) Q E s := by
  obtain ⟨xs, e⟩ := hi.allInts.items
  have hn : numsOf (intItems xs).toList = ns := by rw [← e]; exact hi.numsOf
  rw [nums_intItems] at hn
  rw [e] at hl
  refine PySem.sum_intListG hh hl fun h' tk t' hk => ?_
  have := h h' tk t' hk
  rw [preSum_eq, List.take_of_length_le (by simp), hn]; exact this
end
section
variable {X : Cx}
def rSum (K : PySem.W.Frag) : List V → Hp → VK → Prop := fun vs H Q => ∃ (a : Addr) (ns : List Int), vs = [V.ref a] ∧ SqL K H a (ns.map V.int) ∧ Q (.int ns.sum) H
theorem cr_sum (hc : X.calm = true) : CallR X (.builtin "sum") (rSum X.K) := by
  intro pins s σ H vs us Q I r h
  obtain ⟨a, ns, rfl, hs, q⟩ := h
  obtain ⟨its, rv, hl, _⟩ := I.list hs
  rw [Vals.ref1 r]
  exact sum_raw (I.ok.hd hc) hl.isList rv.ints fun h' tk t' hk => ⟨.int _, H, I.kept hk, ⟨_, rfl⟩, q⟩
end
section
variable {X : Cx}
end
section
variable {X : Cx}
end
theorem iter_any {prog : Program} {w : World} {A : Around} {E : Value → Shared → Prop} {s : Shared} {l : Addr} {items : Array Value} {Q : Value → Shared → Prop} (hl : s.heap.IsList l items)
    (h : ∀ s₂ : Shared, s₂ = { s with heap := s.heap.push { cls := .type "list_iterator", data := .fields #[.ref l, .int 0 0] } } →
      (s₂.heap.IsListIter s.heap.objs.size l 0 ∧ s₂.heap.IsList l items) → l ≠ s.heap.objs.size → Q (.ref s.heap.objs.size) s₂) : wpAny (model prog w) A (pyIter (.ref l)) Q E s := by
  have hlt : l < s.heap.objs.size := by obtain ⟨_, e, _⟩ := hl; exact Heap.lt_size e
  exact wpAny_pyIter_list hl (h _ rfl ⟨⟨_, Heap.get?_push_size _ rfl, rfl, rfl⟩, hl.push _⟩ (Nat.ne_of_lt hlt))
theorem truth_bools {prog : Program} {w : World} {A : Around} {bs : List Bool} {its : List Value} (e : its = bs.map Value.bool) :
    TruthOf prog w A (fun i v => its.toArray[i]? = some v) (fun i => bs.getD i false) := fun i v s Q E hv hq => by
  have hv' : its[i]? = some v := by simpa using hv
  rw [e, List.getElem?_map] at hv'
  obtain ⟨b, hb, rfl⟩ := Option.map_eq_some_iff.mp hv'
  have hg : bs.getD i false = b := by rw [List.getD_eq_getElem?_getD, hb] <;> rfl
  have hq' : Q (bs.getD i false) s := hq
  rw [hg] at hq'
  exact wpAny_truthy_bool hq'
theorem any_range : ∀ bs : List Bool, (List.range bs.length).any (fun i => bs.getD i false) = bs.any id
  | [] => rfl
  | b :: bs => by
    rw [List.length_cons, List.range_succ_eq_map, List.any_cons, List.any_map, List.any_cons, ← any_range bs]
    all_goals rfl
theorem all_range : ∀ bs : List Bool, (List.range bs.length).all (fun i => bs.getD i false) = bs.all id
  | [] => rfl
  | b :: bs => by
    rw [List.length_cons, List.range_succ_eq_map, List.all_cons, List.all_map, List.all_cons, ← all_range bs]
    all_goals rfl
section
variable {X : Cx}
def rAny (K : PySem.W.Frag) : List V → Hp → VK → Prop := fun vs H Q => ∃ (a : Addr) (bs : List Bool), vs = [V.ref a] ∧ SqL K H a (bs.map V.bl) ∧ Q (.bl (bs.any id)) H
def rAll (K : PySem.W.Frag) : List V → Hp → VK → Prop := fun vs H Q => ∃ (a : Addr) (bs : List Bool), vs = [V.ref a] ∧ SqL K H a (bs.map V.bl) ∧ Q (.bl (bs.all id)) H
theorem cr_any (hc : X.calm = true) : CallR X (.builtin "any") (rAny X.K) := by
  intro pins s σ H vs us Q I r h
  obtain ⟨a, bs, rfl, hs, q⟩ := h
  obtain ⟨its, rv, hl, _⟩ := I.list hs
  rw [Vals.ref1 r]
  have hb := rv.bls
  refine call_any_walk (iter_any hl.isList fun s₂ e2 st hne => ?_)
  subst e2
  refine ⟨_, _, _, _, _, _, _, rfl, Walks.list (A := X.A.in1) (I.ok.hd hc) _ a hne its.toArray, st, truth_bools hb, fun h' tk hk => ?_⟩
  refine ⟨.bl _, H, I.kept fun b o eo => hk b o (fun hmem => ?_) (Heap.get?_push_of_some _ eo), ?_, q⟩
  · rcases List.mem_cons.mp hmem with e1 | hmem
    · exact absurd (e1 ▸ Heap.lt_size eo) (Nat.lt_irrefl _)
    · cases hmem
  · show Value.bool _ = Value.bool _
    rw [← any_range, hb, List.size_toArray, List.length_map]
theorem cr_all (hc : X.calm = true) : CallR X (.builtin "all") (rAll X.K) := by
  intro pins s σ H vs us Q I r h
  obtain ⟨a, bs, rfl, hs, q⟩ := h
  obtain ⟨its, rv, hl, _⟩ := I.list hs
  rw [Vals.ref1 r]
  have hb := rv.bls
  refine call_all_walk (iter_any hl.isList fun s₂ e2 st hne => ?_)
  subst e2
  refine ⟨_, _, _, _, _, _, _, rfl, Walks.list (A := X.A.in1) (I.ok.hd hc) _ a hne its.toArray, st, truth_bools hb, fun h' tk hk => ?_⟩
  refine ⟨.bl _, H, I.kept fun b o eo => hk b o (fun hmem => ?_) (Heap.get?_push_of_some _ eo), ?_, q⟩
  · rcases List.mem_cons.mp hmem with e1 | hmem
    · exact absurd (e1 ▸ Heap.lt_size eo) (Nat.lt_irrefl _)
    · cases hmem
  · show Value.bool _ = Value.bool _
    rw [← all_range, hb, List.size_toArray, List.length_map]
end
mutual
inductive Dp (K : PySem.W.Frag) (H : Hp) : V → PyData → Prop
  | non : Dp K H .non .none
  | bl (b : Bool) : Dp K H (.bl b) (.bool b)
  | int (i : Int) : Dp K H (.int i) (.int i)
  | str (x : Str) : Dp K H (.str x) (.str x)
  | lst {a : Addr} {xs : List V} {ds : List PyData} : SqL K H a xs → DpAll K H xs ds → Dp K H (.ref a) (.list ds)
  | tup {a : Addr} {xs : List V} {ds : List PyData} : SqT K H a xs → DpAll K H xs ds → Dp K H (.ref a) (.tuple ds)
inductive DpAll (K : PySem.W.Frag) (H : Hp) : List V → List PyData → Prop
  | nil : DpAll K H [] []
  | cons {v : V} {vs : List V} {d : PyData} {ds : List PyData} : Dp K H v d → DpAll K H vs ds → DpAll K H (v :: vs) (d :: ds)
end
section
variable {X : Cx} {pins : List (Addr × Obj)} {σ : St} {H : Hp} {s : Shared}
mutual
theorem Dp.reads (I : Inv X pins σ H s) : ∀ (d : PyData) (v : V) (u : Value), Dp X.K H v d → RelV v u → ∃ as, Reads s.heap u d as
  | .none, _, _, h, r => by
    cases h
    cases r
    exact ⟨_, Reads.none⟩
  | .bool b, _, _, h, r => by
    cases h
    cases r
    exact ⟨_, Reads.bool b⟩
  | .int i, _, _, h, r => by
    cases h
    obtain ⟨t, rfl⟩ := r
    exact ⟨_, Reads.int i t⟩
  | .str x, _, _, h, r => by
    cases h
    obtain ⟨t, rfl⟩ := r
    exact ⟨_, Reads.str x t⟩
  | .list ds, _, _, h, r => by
    cases h with
    | lst hs ha =>
      cases r
      obtain ⟨its, rv, ⟨o, n, ho, hc, _, hd⟩, _⟩ := I.list hs
      obtain ⟨as, hr⟩ := Dp.readsAll I ds _ its ha rv
      exact ⟨_, Reads.list ho hc hd hr⟩
  | .tuple ds, _, _, h, r => by
    cases h with
    | tup hs ha =>
      cases r
      obtain ⟨its, rv, ⟨o, ho, hc, n, hd⟩, _⟩ := I.tuple hs
      obtain ⟨as, hr⟩ := Dp.readsAll I ds _ its ha rv
      exact ⟨_, Reads.tuple ho hc hd hr⟩
  | .dict _, _, _, h, _ => by cases h
theorem Dp.readsAll (I : Inv X pins σ H s) : ∀ (ds : List PyData) (vs : List V) (us : List Value), DpAll X.K H vs ds → Vals vs us → ∃ as, ReadsAll s.heap us ds as
  | [], _, _, h, r => by
    cases h
    cases r
    exact ⟨_, ReadsAll.nil⟩
  | d :: ds, _, _, h, r => by
    cases h with
    | cons h1 h2 =>
      cases r with
      | cons r1 r2 =>
        obtain ⟨as, q1⟩ := Dp.reads I d _ _ h1 r1
        obtain ⟨bs, q2⟩ := Dp.readsAll I ds _ _ h2 r2
        exact ⟨_, ReadsAll.cons q1 q2⟩
end
end
section
variable {X : Cx}
def rEqD (K : PySem.W.Frag) : R2 := fun x y H Q => ∃ d e, Dp K H x d ∧ Dp K H y e ∧ SeqAt.shaped d = true ∧ SeqAt.shaped e = true ∧ Q (.bl (PyData.eqv d e)) H
def rNeD (K : PySem.W.Frag) : R2 := fun x y H Q => ∃ d e, Dp K H x d ∧ Dp K H y e ∧ SeqAt.shaped d = true ∧ SeqAt.shaped e = true ∧ Q (.bl (!PyData.eqv d e)) H
theorem op_eqD (hu : X.A.units + 64 < cLine) : OpR X (compareOp .Eq) (rEqD X.K) := by
  intro pins s σ H x y v u Q I rx ry h
  obtain ⟨d, e, hd, he, sd, se, q⟩ := h
  obtain ⟨as, r1⟩ := Dp.reads I d x v hd rx
  obtain ⟨bs, r2⟩ := Dp.reads I e y u he ry
  exact SeqAt.compareEq_shaped r1 r2 sd se hu ⟨.bl _, H, I, rfl, q⟩
theorem op_neD (hu : X.A.units + 64 < cLine) : OpR X (compareOp .NotEq) (rNeD X.K) := by
  intro pins s σ H x y v u Q I rx ry h
  obtain ⟨d, e, hd, he, sd, se, q⟩ := h
  obtain ⟨as, r1⟩ := Dp.reads I d x v hd rx
  obtain ⟨bs, r2⟩ := Dp.reads I e y u he ry
  exact SeqAt.compareNe_shaped r1 r2 sd se hu ⟨.bl _, H, I, rfl, q⟩
end
end L2
namespace L2
open PySem PySem.Spec PyProof.Rows
abbrev CellAt (h : Heap) (c : Addr) (v : Option Value) : Prop := h.IsCell c v
def relS (scope sc : Scope) : Scope :=
  { scope with names := scope.names.map fun (n, k) => if (k == .free && sc.kind == .function && sc.names.lookup n == some .cell) then (n, .cell) else (n, k) }
def cloFrom (cells : List (Str × Addr)) : List (Str × NameKind) → List (Str × Addr) → List (Str × Addr)
  | [], acc => acc
  | (n, k) :: r, acc => if k == .free then cloFrom cells r ((n, (cells.lookup n).getD 0) :: acc) else cloFrom cells r acc
theorem closure_loop (env : Env) (f : Str × NameKind → List (Str × Addr) → Sem (ForInStep (List (Str × Addr))))
    (hf : ∀ n k c, f (n, k) c = if k == .free then (do let a ← cellOf env n; pure (.yield ((n, a) :: c))) else pure (.yield c)) :
    ∀ (names : List (Str × NameKind)) (acc : List (Str × Addr)), (∀ y ∈ names, y.2 = .free → ∃ c, env.cells.lookup y.1 = some c) → forIn names acc f = pure (cloFrom env.cells names acc)
  | [], acc, _ => by rw [List.forIn_nil]; rfl
  | (n, k) :: r, acc, h => by
    rw [List.forIn_cons, hf]
    have ih := fun acc => closure_loop env f hf r acc fun y hy => h y (List.mem_cons_of_mem _ hy)
    unfold cloFrom
    by_cases hk : (k == NameKind.free) = true
    · rw [if_pos hk, if_pos hk]
      obtain ⟨c, hc⟩ := h (n, k) List.mem_cons_self (by simpa using hk)
      have e : cellOf env n = pure c := by unfold cellOf; rw [hc]
      rw [e]
      have e2 : (env.cells.lookup n).getD 0 = c := by rw [hc]; rfl
      rw [e2]
      exact ih _
    · rw [if_neg hk, if_neg hk]
      exact ih _
theorem closure_ok {scope : Scope} {env : Env} (h : ∀ y ∈ scope.names, y.2 = .free → ∃ c, env.cells.lookup y.1 = some c) : closureFor scope env = pure (cloFrom env.cells scope.names []) := by
  simp only [closureFor]
  rw [closure_loop env _ (fun n k c => rfl) scope.names [] h]
  rfl
theorem mem_lookup {α : Type} : ∀ {l : List (Str × α)} {n : Str} {c : α}, (n, c) ∈ l → ∃ c', l.lookup n = some c'
  | (k, v) :: r, n, c, h => by
    rw [List.lookup_cons]
    cases hb : n == k with
    | true => exact ⟨_, rfl⟩
    | false =>
      rcases List.mem_cons.mp h with e | h
      · cases e; simp at hb
      · exact mem_lookup h
theorem cloFrom_mem {cells : List (Str × Addr)} : ∀ {names : List (Str × NameKind)} {acc : List (Str × Addr)} {n : Str} {c : Addr}, (n, c) ∈ cloFrom cells names acc → (n, c) ∈ acc ∨ ((n, .free) ∈ names ∧ c = (cells.lookup n).getD 0)
  | [], _, _, _, h => .inl h
  | (m, k) :: r, acc, n, c, h => by
    unfold cloFrom at h
    split at h
    · rename_i hk
      have hk : k = .free := by simpa using hk
      rcases cloFrom_mem h with h | ⟨h1, h2⟩
      · rcases List.mem_cons.mp h with e | h
        · cases e; exact .inr ⟨hk ▸ List.mem_cons_self, rfl⟩
        · exact .inl h
      · exact .inr ⟨List.mem_cons_of_mem _ h1, h2⟩
    · rcases cloFrom_mem h with h | ⟨h1, h2⟩
      · exact .inl h
      · exact .inr ⟨List.mem_cons_of_mem _ h1, h2⟩
theorem cloFrom_acc {cells : List (Str × Addr)} : ∀ {names : List (Str × NameKind)} {acc : List (Str × Addr)} {p : Str × Addr}, p ∈ acc → p ∈ cloFrom cells names acc
  | [], _, _, h => h
  | (m, k) :: r, acc, p, h => by
    unfold cloFrom
    split
    · exact cloFrom_acc (List.mem_cons_of_mem _ h)
    · exact cloFrom_acc h
theorem cloFrom_has {cells : List (Str × Addr)} : ∀ {names : List (Str × NameKind)} {acc : List (Str × Addr)} {n : Str}, (n, .free) ∈ names → (n, (cells.lookup n).getD 0) ∈ cloFrom cells names acc
  | (m, k) :: r, acc, n, h => by
    unfold cloFrom
    rcases List.mem_cons.mp h with e | h
    · cases e
      exact cloFrom_acc List.mem_cons_self
    · split
      · exact cloFrom_has h
      · exact cloFrom_has h
theorem cells_mem : ∀ {names : List (Str × NameKind)} {h : Heap} {acc : List (Str × Addr)} {x : Str} {c : Addr}, (x, c) ∈ cellsFrom h.objs.size names acc →
    (x, c) ∈ acc ∨ ((x, .cell) ∈ names ∧ h.objs.size ≤ c ∧ CellAt (pushCells h names) c none)
  | [], _, _, _, _, h => .inl h
  | (n, k) :: r, h, acc, x, c, hm => by
    unfold cellsFrom at hm
    unfold pushCells
    split at hm
    · rename_i hk
      rw [if_pos hk]
      have hk : k = .cell := by simpa using hk
      rw [← Heap.size_push h { cls := .type "cell", data := .cell none }] at hm
      rcases cells_mem hm with hm | ⟨h1, h2, h3⟩
      · rcases List.mem_cons.mp hm with e | hm
        · cases e
          exact .inr ⟨hk ▸ List.mem_cons_self, Nat.le_refl _, _, pushCells_keeps r _ _ _ (Heap.get?_push_size _ rfl), rfl⟩
        · exact .inl hm
      · rw [Heap.size_push] at h2
        exact .inr ⟨List.mem_cons_of_mem _ h1, Nat.le_of_succ_le h2, h3⟩
    · rename_i hk
      rw [if_neg hk]
      rcases cells_mem hm with hm | ⟨h1, h2, h3⟩
      · exact .inl hm
      · exact .inr ⟨List.mem_cons_of_mem _ h1, h2, h3⟩
theorem cells_acc : ∀ {names : List (Str × NameKind)} {n : Nat} {acc : List (Str × Addr)} {p : Str × Addr}, p ∈ acc → p ∈ cellsFrom n names acc
  | [], _, _, _, h => h
  | (m, k) :: r, n, acc, p, h => by
    unfold cellsFrom
    split
    · exact cells_acc (List.mem_cons_of_mem _ h)
    · exact cells_acc h
theorem cells_has : ∀ {names : List (Str × NameKind)} {n : Nat} {acc : List (Str × Addr)} {x : Str}, (x, .cell) ∈ names → ∃ c, (x, c) ∈ cellsFrom n names acc
  | (m, k) :: r, n, acc, x, h => by
    unfold cellsFrom
    rcases List.mem_cons.mp h with e | h
    · cases e
      exact ⟨n, cells_acc List.mem_cons_self⟩
    · split
      · exact cells_has h
      · exact cells_has h
theorem cells_inj : ∀ {names : List (Str × NameKind)} {h : Heap} {acc : List (Str × Addr)} {x y : Str} {c : Addr}, (∀ p ∈ acc, p.2 < h.objs.size) → (∀ x y c, (x, c) ∈ acc → (y, c) ∈ acc → x = y) →
    (x, c) ∈ cellsFrom h.objs.size names acc → (y, c) ∈ cellsFrom h.objs.size names acc → x = y
  | [], _, _, _, _, _, _, hi, h1, h2 => hi _ _ _ h1 h2
  | (n, k) :: r, h, acc, x, y, c, hl, hi, h1, h2 => by
    unfold cellsFrom at h1 h2
    split at h1
    · rename_i hk
      rw [if_pos hk] at h2
      rw [← Heap.size_push h { cls := .type "cell", data := .cell none }] at h1 h2
      refine cells_inj (h := h.push _) (fun p hp => ?_) (fun x y c a b => ?_) h1 h2
      · rw [Heap.size_push]
        rcases List.mem_cons.mp hp with rfl | hp
        · exact Nat.lt_succ_self _
        · exact Nat.lt_succ_of_lt (hl p hp)
      · rcases List.mem_cons.mp a with e | a <;> rcases List.mem_cons.mp b with e' | b
        · cases e; cases e'; rfl
        · cases e; exact absurd (hl _ b) (Nat.lt_irrefl _)
        · cases e'; exact absurd (hl _ a) (Nat.lt_irrefl _)
        · exact hi _ _ _ a b
    · rename_i hk
      rw [if_neg hk] at h2
      exact cells_inj hl hi h1 h2
theorem newEnv_comp {M : Model} {A : Around} {E : Value → Shared → Prop} {s : Shared} {scope : Scope} {globals : Addr} {closure : List (Str × Addr)} {qual : Str} {func : Option Addr} {code : Value} {around : Env} {builtins : Addr} {Q : Env → Shared → Prop}
    (h : Q (newEnv scope s.heap.objs.size globals (cellsFrom (s.heap.objs.size + 1) scope.names closure) qual func code (some around) builtins)
      { s with heap := pushCells (s.heap.push { cls := .type "dict", data := .dict #[] }) scope.names }) :
    wpAny M A (newFunctionEnv scope globals closure [] qual func code (some around) builtins) Q E s := by
  simp only [newFunctionEnv, Option.isSome_some, if_true]
  refine wpAny_bind (wpAny_alloc ?_)
  refine wpAny_bind (wpAny_layCells _ (fun n k c => rfl) scope.names closure _ _ ?_)
  rw [show ({ s with heap := s.heap.push { cls := .type "dict", data := .dict #[] } } : Shared).heap.objs.size = s.heap.objs.size + 1 from Heap.size_push ..]
  rw [List.forIn_nil]
  exact wpAny_bind (wpAny_pure (wpAny_pure h))
theorem lookup_relS {sc : Scope} : ∀ {names : List (Str × NameKind)} {x : Str} {k : NameKind},
    (names.map fun (n, k) => if (k == NameKind.free && sc.kind == .function && sc.names.lookup n == some .cell) then (n, NameKind.cell) else (n, k)).lookup x = some k →
    ∃ k', names.lookup x = some k' ∧ (k = k' ∨ (k' = .free ∧ k = .cell))
  | [], _, _, h => by simp at h
  | (n, k₀) :: r, x, k, h => by
    have ih := @lookup_relS sc r x k
    have h' : List.lookup x ((if (k₀ == NameKind.free && sc.kind == .function && sc.names.lookup n == some .cell) = true then (n, NameKind.cell) else (n, k₀)) :: (r.map _)) = some k := h
    cases hx : x == n with
    | true =>
      simp only [List.lookup_cons, hx]
      by_cases hc : (k₀ == NameKind.free && sc.kind == .function && sc.names.lookup n == some .cell) = true
      · rw [if_pos hc] at h'
        simp only [List.lookup_cons, hx] at h'
        cases h'
        simp only [Bool.and_eq_true, beq_iff_eq] at hc
        exact ⟨k₀, rfl, .inr ⟨hc.1.1, rfl⟩⟩
      · rw [if_neg hc] at h'
        simp only [List.lookup_cons, hx] at h'
        cases h'
        exact ⟨_, rfl, .inl rfl⟩
    | false =>
      simp only [List.lookup_cons, hx]
      by_cases hc : (k₀ == NameKind.free && sc.kind == .function && sc.names.lookup n == some .cell) = true
      · rw [if_pos hc] at h'
        simp only [List.lookup_cons, hx] at h'
        exact ih h'
      · rw [if_neg hc] at h'
        simp only [List.lookup_cons, hx] at h'
        exact ih h'
structure BlkOk (N : List Str) (sc scope : Scope) (own : List (Str × Nat)) : Prop where
  kind : scope.kind = .function
  uniq : ∀ y ∈ scope.names, scope.names.lookup y.1 = some y.2
  ix : ∀ p ∈ own, N[p.2]? = some p.1
  free : ∀ y ∈ scope.names, y.2 = .free → sc.names.lookup y.1 = some .cell ∨ sc.names.lookup y.1 = some .free
  own : ∀ y ∈ scope.names, y.2 = .local ∨ y.2 = .cell → y.1 ∈ own.map (·.1) ∨ y.1 ∉ N
def wipe (σ : St) : List Nat → St
  | [] => σ
  | v :: vs => (wipe σ vs).set v none
theorem wipe_length (σ : St) : ∀ vs : List Nat, (wipe σ vs).length = σ.length
  | [] => rfl
  | v :: vs => by unfold wipe; rw [List.length_set, wipe_length σ vs]
theorem wipe_some {σ : St} {i : Nat} {x : V} : ∀ {vs : List Nat}, (wipe σ vs)[i]? = some (some x) → σ[i]? = some (some x) ∧ i ∉ vs
  | [], h => ⟨h, by simp⟩
  | v :: vs, h => by
    unfold wipe at h
    by_cases hi : v = i
    · subst hi
      by_cases hv : v < (wipe σ vs).length
      · rw [List.getElem?_set_self hv] at h; cases h
      · rw [List.getElem?_eq_none (by simpa using hv)] at h; cases h
    · rw [List.getElem?_set_ne hi] at h
      obtain ⟨h1, h2⟩ := wipe_some h
      exact ⟨h1, by simp only [List.mem_cons, not_or]; exact ⟨fun e => hi e.symm, h2⟩⟩
abbrev Cx.blk (X : Cx) (s : Shared) (H : Hp) (scope : Scope) (cenv : Env) (fp : List Addr) : Cx := { X with s_0 := s, H_0 := H, env := cenv, outer := X.stack, ex := fp, fn := fun x => scope.names.lookup x == some .cell, pn := [], xe := fun _ _ => False }
section
variable {X : Cx} {pins : List (Addr × Obj)} {σ : St} {H : Hp} {s : Shared}
theorem block_start {scope : Scope} {own : List (Str × Nat)} {fp : List Addr} (I : Inv X pins σ H s) (ok : BlkOk X.N X.env.scope scope own) (hN : X.N.Nodup) (hfp : ∀ b ∈ fp, FpOk X pins H b ∧ b < s.heap.objs.size) :
    Inv (X.blk s H scope (compEnvC scope (cellsFrom (s.heap.objs.size + 1) scope.names (cloFrom X.env.cells scope.names [])) s.heap.objs.size X.env) fp) [] (wipe σ (own.map (·.2))) H { s with heap := pushCells (s.heap.push { cls := .type "dict", data := .dict #[] }) scope.names } := by
  have hfree : ∀ y ∈ scope.names, y.2 = .free → ∃ c, X.env.cells.lookup y.1 = some c := fun y hy e => by
    rcases ok.free y hy e with k | k
    · exact I.ok.has _ (.inl k)
    · exact I.ok.has _ (.inr k)
  generalize hcenv : compEnvC scope (cellsFrom (s.heap.objs.size + 1) scope.names (cloFrom X.env.cells scope.names [])) s.heap.objs.size X.env = cenv
  have kp : ∀ b o, s.heap.get? b = some o → (pushCells (s.heap.push { cls := .type "dict", data := .dict #[] }) scope.names).get? b = some o := fun b o e => pushCells_keeps _ _ _ _ (Heap.get?_push_of_some _ e)
  have hL : cenv.locals = s.heap.objs.size := by rw [← hcenv]; rfl
  have hcl : cenv.cells = cellsFrom (s.heap.objs.size + 1) scope.names (cloFrom X.env.cells scope.names []) := by rw [← hcenv]; rfl
  have hsc : cenv.scope = relS scope X.env.scope := by rw [← hcenv]; rfl
  rw [← Heap.size_push s.heap { cls := .type "dict", data := .dict #[] }] at hcl
  have cm : ∀ {y c}, (y, c) ∈ cloFrom X.env.cells scope.names [] → X.env.cells.lookup y = some c ∧ c < s.heap.objs.size := fun {y c} hm => by
    rcases cloFrom_mem hm with hm | ⟨h1, rfl⟩
    · cases hm
    · obtain ⟨c, hc⟩ := hfree _ h1 rfl
      rw [hc]
      obtain ⟨w, z⟩ := I.cell _ _ hc
      exact ⟨rfl, z.lt⟩
  have mem : ∀ {y c}, cenv.cells.lookup y = some c → (X.env.cells.lookup y = some c ∧ c < s.heap.objs.size) ∨ (s.heap.objs.size + 1 ≤ c ∧ CellAt (pushCells (s.heap.push { cls := .type "dict", data := .dict #[] }) scope.names) c none) := fun {y c} e => by
    rw [hcl] at e
    rcases cells_mem (PySem.mem_of_lookup e) with hm | ⟨_, h2, h3⟩
    · exact .inl (cm hm)
    · rw [Heap.size_push] at h2; exact .inr ⟨h2, h3⟩
  have look : ∀ {y}, scope.names.lookup y = some .free → ∃ c, cenv.cells.lookup y = some c ∧ X.env.cells.lookup y = some c := fun {y} hl => by
    have hy : (y, NameKind.free) ∈ scope.names := PySem.mem_of_lookup hl
    obtain ⟨c', e'⟩ := mem_lookup (cells_acc (names := scope.names) (n := (s.heap.push { cls := .type "dict", data := .dict #[] }).objs.size) (cloFrom_has (cells := X.env.cells) (acc := []) hy))
    rw [← hcl] at e'
    refine ⟨c', e', ?_⟩
    rw [hcl] at e'
    rcases cells_mem (PySem.mem_of_lookup e') with hm | ⟨h1, _, _⟩
    · exact (cm hm).1
    · have := ok.uniq _ h1
      rw [hl] at this; cases this
  have okB : (X.blk s H scope cenv fp).Ok := by
    refine ⟨I.ok.mod, by show cenv.scope.kind = _; rw [hsc]; exact ok.kind, by show cenv.globals = _; rw [← hcenv]; exact I.ok.glob, by show cenv.builtins = _; rw [← hcenv]; exact I.ok.blt, by show s.heap.objs.size ≤ cenv.locals; rw [hL]; exact Nat.le_refl _,
      fun y z c e1 e2 => ?_, fun y hy => ?_, fun y c z e => ?_, I.ok.hd, I.ok.frames, .inl rfl, fun b hb => ⟨?_, fun y c e z => ?_⟩, I.bs, Nat.le_trans I.ok.bsz I.sz, fun b o e hb => ?_, fun b hb z => ?_, I.stack, I.stkFree⟩
    · have e1 : cenv.cells.lookup y = some c := e1
      have e2 : cenv.cells.lookup z = some c := e2
      rw [hcl] at e1 e2
      refine cells_inj (fun p hp => ?_) (fun y z c a b => I.ok.inj y z c (cm a).1 (cm b).1) (PySem.mem_of_lookup e1) (PySem.mem_of_lookup e2)
      rw [Heap.size_push]
      exact Nat.lt_succ_of_lt (cm (y := p.1) (c := p.2) hp).2
    · show ∃ c, cenv.cells.lookup y = some c
      have key : ∀ k, cenv.kindOf y = some k → (k = .cell ∨ k = .free) → ∃ c, cenv.cells.lookup y = some c := fun k hk hk' => by
        unfold Env.kindOf at hk
        rw [hsc] at hk
        obtain ⟨k', e, r⟩ := lookup_relS hk
        have : k' = .cell ∨ k' = .free := by
          rcases r with rfl | ⟨rfl, _⟩
          · exact hk'
          · exact .inr rfl
        rcases this with rfl | rfl
        · obtain ⟨c, hm⟩ := cells_has (n := (s.heap.push { cls := .type "dict", data := .dict #[] }).objs.size) (acc := cloFrom X.env.cells scope.names []) (PySem.mem_of_lookup e)
          obtain ⟨c', e'⟩ := mem_lookup hm
          exact ⟨c', by rw [hcl]; exact e'⟩
        · obtain ⟨c, h1, _⟩ := look e
          exact ⟨c, h1⟩
      rcases hy with hy | hy
      · exact key _ hy (.inl rfl)
      · exact key _ hy (.inr rfl)
    · have z : (scope.names.lookup y == some NameKind.cell) = true := z
      have z : scope.names.lookup y = some .cell := by simpa using z
      have e : cenv.cells.lookup y = some c := e
      rw [hcl] at e
      rcases cells_mem (PySem.mem_of_lookup e) with hm | ⟨_, h2, _⟩
      · rcases cloFrom_mem hm with hm | ⟨h1, _⟩
        · cases hm
        · have q := ok.uniq _ h1
          rw [z] at q; cases q
      · rw [Heap.size_push] at h2
        exact Nat.le_of_succ_le h2
    · show b ≠ cenv.locals
      rw [hL]; exact Nat.ne_of_lt (hfp b hb).2
    · have e : cenv.cells.lookup y = some c := e
      rcases mem e with ⟨h1, _⟩ | ⟨h1, _⟩
      · exact (hfp b hb).1.2.2.2.2.1 y c h1 z
      · have h2 : s.heap.objs.size + 1 ≤ b := by rw [← z]; exact h1
        exact absurd (Nat.lt_of_lt_of_le (hfp b hb).2 (Nat.le_of_succ_le h2)) (Nat.lt_irrefl _)
    · rcases (hfp b hb).1.2.2.2.1 with z | z
      · exact I.ok.noex b o e z
      · exact absurd (Nat.lt_of_lt_of_le (Heap.lt_size e) (Nat.le_trans I.ok.bsz z)) (Nat.lt_irrefl _)
    · rcases List.mem_cons.mp (I.stkSub b z) with z | z
      · exact (hfp b hb).1.2.1 z
      · exact (hfp b hb).1.2.2.1 z
  refine ⟨okB, rfl, I.bare, Un.kept kp, ⟨fun _ => none, ?_, fun i y av e1 e2 e3 => ?_⟩, fun y c e => ?_, ?_, fun y c e => ?_, fun p hp => ?_, I.hok.kept kp, by rw [wipe_length]; exact I.len⟩
  · show Heap.Ns _ cenv.locals _
    rw [hL]
    exact Heap.Ns.keeps (Heap.Ns.new ..) fun b o e => pushCells_keeps _ _ _ _ e
  · obtain ⟨e2, hne⟩ := wipe_some e2
    have hfr : scope.names.lookup y = some .free ∧ (cenv.kindOf y = some .cell ∨ cenv.kindOf y = some .free) := by
      have key : ∀ k, cenv.scope.names.lookup y = some k → k = .local ∨ k = .cell ∨ k = .free → scope.names.lookup y = some .free ∧ (cenv.kindOf y = some .cell ∨ cenv.kindOf y = some .free) := fun k hk hk' => by
        have hk0 := hk
        rw [hsc] at hk
        obtain ⟨k', e, r⟩ := lookup_relS hk
        have no : ¬ (k' = .local ∨ k' = .cell) := fun hh => by
          rcases ok.own _ (PySem.mem_of_lookup e) hh with e' | e'
          · obtain ⟨p, hp, hpy⟩ := List.mem_map.mp e'
            have e3 := ok.ix p hp
            have : p.1 = y := hpy
            rw [this] at e3
            exact hne (List.mem_map.mpr ⟨p, hp, nodup_ix hN e3 e1⟩)
          · exact e' (List.mem_of_getElem? e1)
        rcases r with rfl | ⟨rfl, rfl⟩
        · rcases hk' with rfl | rfl | rfl
          · exact absurd (.inl rfl) no
          · exact absurd (.inr rfl) no
          · exact ⟨e, .inr hk0⟩
        · exact ⟨e, .inl hk0⟩
      have e3 : Vis cenv.scope y := e3
      rcases e3 with e3 | e3 | e3
      · exact key _ e3 (.inl rfl)
      · exact key _ e3 (.inr (.inl rfl))
      · exact key _ e3 (.inr (.inr rfl))
    obtain ⟨m, hn, hl⟩ := I.loc
    have hvis : Vis X.env.scope y := (ok.free _ (PySem.mem_of_lookup hfr.1) rfl).elim (fun k => .inr (.inl k)) (fun k => .inr (.inr k))
    obtain ⟨w, r, q⟩ := hl i y av e1 e2 hvis
    refine ⟨w, r, .inr ⟨hfr.2, ?_⟩⟩
    obtain ⟨c, h1, h2⟩ := look hfr.1
    rcases q with ⟨k, _⟩ | ⟨_, c', e', z⟩
    · have k : X.env.scope.names.lookup y = some .local := k
      rcases ok.free _ (PySem.mem_of_lookup hfr.1) rfl with k' | k' <;> rw [show X.env.scope.names.lookup y = _ from k'] at k <;> cases k
    · rw [h2] at e'; cases e'
      exact ⟨c, h1, z.keeps kp⟩
  · have e : cenv.cells.lookup y = some c := e
    rcases mem e with ⟨h1, _⟩ | ⟨_, z⟩
    · obtain ⟨w, z⟩ := I.cell y c h1
      exact ⟨w, z.keeps kp⟩
    · exact ⟨_, z⟩
  · show H cenv.locals = none
    rw [hL]; exact I.hok.fresh (Nat.le_refl _)
  · have e : cenv.cells.lookup y = some c := e
    rcases mem e with ⟨h1, _⟩ | ⟨h1, _⟩
    · exact I.freeC y c h1
    · exact I.hok.fresh (Nat.le_of_succ_le h1)
  · exact absurd (show p ∈ ([] : List (Addr × Obj)) ++ [] from hp) (by simp)
theorem app_ok {E : Value → Shared → Prop} {D : Addr} {xs : List V} {y : V} {v : Value} {Q : Value → Shared → Prop} (I : Inv X pins σ H s) (hD : H D = some (.lst xs)) (hz : xs.length < sizeLine) (r : RelV y v)
    (h : ∀ s', Inv X pins σ (upd H D (.lst (xs ++ [y]))) s' → Q .none s') : wpAny (model X.prog X.w) X.A (call (.builtin "list.append") [.ref D, v]) Q E s := by
  obtain ⟨hz', its, n, ri, e⟩ := I.hok D _ hD
  have hl := ri.length
  refine append_at (hsz := by rw [List.size_toArray]; omega) e fun h' sb ho' => ?_
  refine h { s with heap := h' } (I.write (t' := s.toks) (by rw [hD]; trivial) (.inl rfl) (fun b u hb q => (sb.2 b hb).trans q) ⟨_, ho'⟩ ⟨by rw [List.length_append]; exact hz, its ++ [v], n + 1, ri.append (.cons r .nil), ?_⟩)
  rw [ho']
  simp
def PTs (X : Cx) (ifs : List Expr) (t : TT) : Prop :=
  ∀ (pins : List (Addr × Obj)) (s : Shared) (σ : St) (H : Hp) (Q : Bool → Hp → Prop), Inv X pins σ H s → t σ H Q →
    wpAny (model X.prog X.w) X.A (forIn ifs true fun c r => if r = true then do let ok ← isTrue c X.env (eval c X.env); pure (ForInStep.yield ok) else pure (ForInStep.yield r)) (TP X pins σ Q) X.xe s
def tYes : TT := fun _ H Q => Q true H
theorem pts_nil : PTs X [] tYes := fun _ _ _ H _ I h => wpAny_tests_nil ⟨H, I, h⟩
theorem pts_one {c : Expr} {t : TT} (h : PT X c t) : PTs X [c] t := fun pins s σ H Q I hw => wpAny_tests_one (h pins s σ H Q I hw)
end
theorem thnF {α : Type} {t : Sem α} {Q Q' : α → Shared → Prop} {M : Model} {A : Around} {E : Value → Shared → Prop} {s : Shared} (h : wpAny M A t Q (fun _ _ => False) s) (hQ : ∀ a s, Q a s → Q' a s) : wpAny M A t Q' E s := wpAny_mono h hQ fun _ _ z => False.elim z
theorem compLoop_any {prog : Program} {w : World} {A : Around} {R : Result → Shared → Prop} {s : Shared} {elt target iter : Expr} {ifs : List Expr} {scope : Scope} {pos : Pos} {it acc : Value} {env : Env} (I : Nat → Shared → Prop)
    (turn : ∀ n s, I n s → wpAny (model prog w) A (pyNext it) (fun r s₁ => match r with
      | none => R (.ok .next) s₁
      | some v => wpAny (model prog w) A (letOwnedTupleGo target it v) (fun _ s₁' => wpAny (model prog w) A (assign target env v) (fun _ s₂ =>
          wpAny (model prog w) A (forIn ifs true fun c r => if r = true then do let ok ← isTrue c env (eval c env); pure (ForInStep.yield ok) else pure (ForInStep.yield r)) (fun ok s₃ =>
            if ok = true then wpAny (model prog w) A (eval elt env) (fun x s₄ =>
              wpAny (model prog w) A (call (.builtin "list.append") [acc, x]) (fun _ s₅ => ∃ m, m < n ∧ I m s₅) (notedBy (model prog w) A env fun e s' => R (.error e) s') s₄) (notedBy (model prog w) A env fun e s' => R (.error e) s') s₃
            else ∃ m, m < n ∧ I m s₃) (notedBy (model prog w) A env fun e s' => R (.error e) s') s₂) (notedBy (model prog w) A env fun e s' => R (.error e) s') s₁') (notedBy (model prog w) A env fun e s' => R (.error e) s') s₁) (notedBy (model prog w) A env fun e s' => R (.error e) s') s)
    (n : Nat) (h : I n s) :
    codeAny (model prog w) A (.compLoop (.ListComp elt [⟨target, iter, ifs, 0⟩] scope pos) 0 it acc env) R s := by
  refine codeAny_loop rfl I (fun n s hI => ?_) n h
  show wpAny _ A ((compTurn (.ListComp elt [⟨target, iter, ifs, 0⟩] scope pos) 0 it acc env).onRaise (fun x => do noteFrame x env; theTreesLotGoes x)) _ _ s
  refine wpAny_noted ?_
  rw [compTurn_list]
  refine wpAny_bind (wpAny_standAt (wpAny_bind (wpAny_mono (turn n s hI) (fun r s₁ h₁ => ?_) fun _ _ h' => h')))
  cases r with
  | none => exact wpAny_pure h₁
  | some v =>
    refine wpAny_bind (wpAny_mono h₁ (fun _ s₁' h₁' => ?_) fun _ _ h' => h')
    refine wpAny_bind (wpAny_mono h₁' (fun _ s₂ h₂ => wpAny_bind (wpAny_mono h₂ (fun ok s₃ h₃ => ?_) fun _ _ h' => h')) fun _ _ h' => h')
    cases ok with
    | false => exact wpAny_pure ⟨rfl, h₃⟩
    | true =>
      exact wpAny_bind (wpAny_bind (wpAny_mono h₃ (fun x s₄ h₄ => wpAny_bind (wpAny_mono h₄ (fun _ s₅ h₅ => wpAny_pure (wpAny_pure ⟨rfl, h₅⟩)) fun _ _ h' => h')) fun _ _ h' => h'))
section
variable {X : Cx}
def tLc (wi : TI) (g : TG) (tt : TT) (te : TE) (vs : List Nat) : TE := fun σ H Q => wi σ H fun J H1 => ∀ D, H1 D = none → ∃ W : Nat → Nat → Hp → Prop, (∃ m, W 0 m (upd H1 D (.lst []))) ∧ ∀ i m H, W i m H →
  (J.stop i H ∧ Q (.ref D) H) ∨ (J.go i H ∧ ∃ Nx : Hp → Prop, (∀ H', Nx H' → ∃ m', m' < m ∧ W (i + 1) m' H') ∧ ∀ x H', J.yld i H x H' → g x (wipe σ vs) H' fun σ2 H2 => wipe σ2 vs = wipe σ vs ∧ tt σ2 H2 fun b H3 =>
    if b = true then te σ2 H3 fun y H4 => ∃ acc, H4 D = some (.lst acc) ∧ acc.length < sizeLine ∧ Nx (upd H4 D (.lst (acc ++ [y]))) else Nx H3)
theorem lc_core {pins : List (Addr × Obj)} {s : Shared} {σ : St} {H : Hp} {Q : VK} {elt tg iter : Expr} {ifs : List Expr} {scope : Scope} {own : List (Str × Nat)} {pos pos' : Pos} {wi : TI} {g : TG} {tt : TT} {te : TE} {use : Option (Value → Sem Unit)} {Qf : Value → Shared → Prop}
    (hc : X.calm = true) (hN : X.N.Nodup) (I : Inv X pins σ H s) (hi : PI X tg iter wi) (ok : BlkOk X.N X.env.scope scope own)
    (hg : ∀ (s : Shared) (H : Hp) (C : Addr) (cl : List (Str × Addr)) (fp : List Addr), PG (X.blk s H scope (compEnvC scope cl C X.env) fp) tg g) (ht : ∀ (s : Shared) (H : Hp) (C : Addr) (cl : List (Str × Addr)) (fp : List Addr), PTs (X.blk s H scope (compEnvC scope cl C X.env) fp) ifs tt)
    (he : ∀ (s : Shared) (H : Hp) (C : Addr) (cl : List (Str × Addr)) (fp : List Addr), PE (X.blk s H scope (compEnvC scope cl C X.env) fp) elt te) (hs : ∀ x, foldedSetIterable iter X.env x = pure x)
    (h : tLc wi g tt te (own.map (·.2)) σ H Q)
    (hRR : ∀ D C s' m H', Inv X pins σ H' s' → Q (.ref D) H' → s'.heap.Ns C m → FpOk X pins H' C → compPost (model X.prog X.w) X.A X.xe use Qf (.ref D) C (.ok .next) s') :
    wpAny (model X.prog X.w) X.A (comprehension (.ListComp elt [⟨tg, iter, ifs, 0⟩] scope pos) scope X.env pos' (newList []) false (eval iter X.env) use) Qf X.xe s := by
  have hfree : ∀ y ∈ scope.names, y.2 = .free → ∃ c, X.env.cells.lookup y.1 = some c := fun y hy e => by
    rcases ok.free y hy e with k | k
    · exact I.ok.has _ (.inl k)
    · exact I.ok.has _ (.inr k)
  refine wpAny_comprehension_free (use := use) rfl hs (closure_ok hfree) ok.kind (fun y hy e => by rw [ok.uniq y hy, e])
    (thn (hi pins s σ H _ I h) fun xv s1 hx => thn hx fun itv s2 h2 => ?_)
  obtain ⟨it, fp, tn, J, H2, e, I2, T, st2, f2, q⟩ := h2
  subst e
  refine wpAny_newObj_type (newEnv_comp ?_) (by show 0 ≤ sizeLine; decide)
  generalize hD : s2.heap.objs.size = D
  have hDn : H2 D = none := I2.hok.fresh (Nat.le_of_eq hD)
  obtain ⟨W, ⟨m0, w0⟩, turn⟩ := q D hDn
  generalize hs3 : ({ s2 with heap := s2.heap.push { cls := .type "list", data := .seq ([] : List Value).toArray } } : Shared) = s3
  have I3 : Inv X pins σ (upd H2 D (.lst [])) s3 := by
    rw [← hs3]
    refine I2.laid (t' := s2.toks) (fun b o e => Heap.get?_push_of_some _ e) (Nat.le_of_eq hD) ⟨Nat.zero_le _, [], 0, .nil, ?_⟩
    rw [← hD]
    exact Heap.get?_push_size _ rfl
  have h3 : s3.heap = s2.heap.push { cls := .type "list", data := .seq ([] : List Value).toArray } := by rw [← hs3]
  have sz : ∀ b ∈ fp, b < s2.heap.objs.size := fun b hb => by
    obtain ⟨o, e, _⟩ := T.obj _ _ st2 b hb
    exact Heap.lt_size e
  have f3 : ∀ b ∈ fp, FpOk X pins (upd H2 D (.lst [])) b ∧ b < s3.heap.objs.size := fun b hb => by
    have hlt := sz b hb
    refine ⟨⟨?_, (f2 b hb).2⟩, by rw [h3, Heap.size_push]; exact Nat.lt_succ_of_lt hlt⟩
    rw [upd_ne (by rw [← hD]; exact Nat.ne_of_lt hlt)]
    exact (f2 b hb).1
  have st3 : tn 0 s3.heap := T.keep _ _ _ st2 fun b _ o e => by rw [h3]; exact Heap.get?_push_of_some _ e
  have I4 := block_start I3 ok hN f3
  have pg := hg s3 (upd H2 D (.lst [])) s3.heap.objs.size (cellsFrom (s3.heap.objs.size + 1) scope.names (cloFrom X.env.cells scope.names [])) fp
  have pt := ht s3 (upd H2 D (.lst [])) s3.heap.objs.size (cellsFrom (s3.heap.objs.size + 1) scope.names (cloFrom X.env.cells scope.names [])) fp
  have pe := he s3 (upd H2 D (.lst [])) s3.heap.objs.size (cellsFrom (s3.heap.objs.size + 1) scope.names (cloFrom X.env.cells scope.names [])) fp
  show codeAny _ _ (.compStart (.ListComp elt [⟨tg, iter, ifs, 0⟩] scope pos) 0 (.ref it) (.ref D) (compEnvC scope (cellsFrom (s3.heap.objs.size + 1) scope.names (cloFrom X.env.cells scope.names [])) s3.heap.objs.size X.env)) (compPost (model X.prog X.w) X.A X.xe use Qf (.ref D) s3.heap.objs.size) { s3 with heap := pushCells (s3.heap.push { cls := .type "dict", data := .dict #[] }) scope.names }
  have nfp : ∀ b ∈ fp, (upd H2 D (.lst [])) b = none := fun b hb => (f3 b hb).1.1
  generalize hce : compEnvC scope (cellsFrom (s3.heap.objs.size + 1) scope.names (cloFrom X.env.cells scope.names [])) s3.heap.objs.size X.env = ce at I4 pg pt pe ⊢
  have cL : ce.locals = s3.heap.objs.size := by subst hce; rfl
  generalize hH3 : upd H2 D (.lst []) = H3 at I3 I4 pg pt pe w0 nfp f3
  generalize hs4 : ({ s3 with heap := pushCells (s3.heap.push { cls := .type "dict", data := .dict #[] }) scope.names } : Shared) = s4 at I4 ⊢
  have st4 : tn 0 s4.heap := T.keep _ _ _ st3 fun b _ o e => by rw [← hs4]; exact pushCells_keeps _ _ _ _ (Heap.get?_push_of_some _ e)
  have stat : ∀ {σ' : St} {H' : Hp} {s' : Shared}, Inv (X.blk s3 H3 scope ce fp) [] σ' H' s' → (∀ b ∈ fp, H' b = none) → ∀ b ∈ fp, FpOk (X.blk s3 H3 scope ce fp) [] H' b := fun {σ' H' s'} I' hn b hb =>
    ⟨hn b hb, (I'.ok.exf b hb).1, I'.ok.exfs b hb, .inl hb, fun x c e => (I'.ok.exf b hb).2 x c e, fun p hp => absurd (show p ∈ ([] : List (Addr × Obj)) ++ [] from hp) (by simp)⟩
  have loop : codeAny (model X.prog X.w) X.A (.compLoop (.ListComp elt [⟨tg, iter, ifs, 0⟩] scope pos) 0 (.ref it) (.ref D) ce) (compPost (model X.prog X.w) X.A X.xe use Qf (.ref D) s3.heap.objs.size) s4 := by
    refine compLoop_any (fun n s' => ∃ i H', Inv (X.blk s3 H3 scope ce fp) [] (wipe σ (own.map (·.2))) H' s' ∧ tn i s'.heap ∧ (∀ b ∈ fp, H' b = none) ∧ W i n H') ?_ m0 ⟨0, H3, I4, st4, nfp, w0⟩
    rintro n s5 ⟨i, H5, I5, st5, n5, w5⟩
    rcases turn i n H5 w5 with ⟨stop, qq⟩ | ⟨go, Nx, hNx, step⟩
    · have td := T.done (X.blk s3 H3 scope ce fp) rfl rfl rfl hc i [] s5 _ H5 (fun _ _ => False) I5 (stat I5 n5) st5 stop
      refine thnF td fun r s6 ⟨hr, I6⟩ => ?_
      subst hr
      have I7 : Inv X pins σ H5 s6 := I3.call' (ch := fp) I6.os I6.base I6.hok I6.bare fun b hb => ⟨(f3 b hb).1.2.2.2.1, (f3 b hb).1.2.1, (f3 b hb).1.2.2.2.2.1, (f3 b hb).1.2.2.2.2.2⟩
      have nC : H5 s3.heap.objs.size = none := by
        have z : H5 ce.locals = none := I6.free
        rw [cL] at z
        exact z
      obtain ⟨m, hn, _⟩ := I6.loc
      have hn : s6.heap.Ns ce.locals m := hn
      rw [cL] at hn
      exact hRR D s3.heap.objs.size s6 m H5 I7 qq hn (I3.fpOk (Nat.le_refl _) nC)
    · have ti := T.item (X.blk s3 H3 scope ce fp) rfl rfl rfl hc i [] s5 _ H5 (fun _ _ => False) I5 (stat I5 n5) st5 go
      refine thnF ti fun r s6 ⟨u, hr, h6⟩ => ?_
      subst hr
      refine thnF h6 fun _ s7 ⟨x, H7, I7, r7, y7, st7, n7⟩ => ?_
      have I7' := I7.pinned (stat I7 n7) (T.obj _ _ st7)
      refine thnF (pg _ s7 _ H7 x u _ I7' r7 (step x H7 y7)) fun _ s8 ⟨σ8, H8, I8, hw8, q8⟩ => ?_
      refine thnF (pt _ s8 σ8 H8 _ I8 q8) fun b s9 ⟨H9, I9, q9⟩ => ?_
      have fin : ∀ {s' : Shared} {H' : Hp}, Inv (X.blk s3 H3 scope ce fp) ([] ++ pinsAt fp s7.heap) σ8 H' s' → Nx H' → ∃ m, m < n ∧ ∃ i H', Inv (X.blk s3 H3 scope ce fp) [] (wipe σ (own.map (·.2))) H' s' ∧ tn i s'.heap ∧ (∀ b ∈ fp, H' b = none) ∧ W i m H' := fun {s' H'} I' nx => by
        obtain ⟨m', hm, w'⟩ := hNx H' nx
        have pin' : ∀ b ∈ fp, ∀ o, s7.heap.get? b = some o → s'.heap.get? b = some o ∧ H' b = none := fun b hb o e =>
          let z := I'.pin (b, o) (List.mem_append_right _ (List.mem_append_right _ (mem_pinsAt hb e)))
          ⟨z.1, z.2.1⟩
        have hl : (wipe σ (own.map (·.2))).length = σ8.length := by rw [← hw8, wipe_length]
        refine ⟨m', hm, i + 1, H', (I'.unpinned (pins := [])).weak hl (fun j v e => ?_), T.keep _ _ _ st7 fun b hb o e => (pin' b hb o e).1, fun b hb => ?_, w'⟩
        · rw [← hw8] at e
          exact (wipe_some e).1
        · obtain ⟨o, e, _⟩ := T.obj _ _ st7 b hb
          exact (pin' b hb o e).2
      cases b with
      | false =>
        simp only [Bool.false_eq_true, if_false] at q9 ⊢
        exact fin I9 q9
      | true =>
        simp only [if_true] at q9 ⊢
        refine thnF (pe _ s9 σ8 H9 _ I9 q9) fun z s10 ⟨yv, H10, I10, r10, acc, hD10, hz10, nx⟩ => ?_
        exact app_ok (X := X.blk s3 H3 scope ce fp) I10 hD10 hz10 r10 fun s11 I11 => fin I11 nx
  exact codeAny_compStart_list loop (T.self X.A 0 _ _ _ st4 loop)
theorem pe_lc {elt tg iter : Expr} {ifs : List Expr} {scope : Scope} {own : List (Str × Nat)} {pos : Pos} {wi : TI} {g : TG} {tt : TT} {te : TE} (hc : X.calm = true) (hN : X.N.Nodup) (hi : PI X tg iter wi) (ok : BlkOk X.N X.env.scope scope own)
    (hg : ∀ (s : Shared) (H : Hp) (C : Addr) (cl : List (Str × Addr)) (fp : List Addr), PG (X.blk s H scope (compEnvC scope cl C X.env) fp) tg g) (ht : ∀ (s : Shared) (H : Hp) (C : Addr) (cl : List (Str × Addr)) (fp : List Addr), PTs (X.blk s H scope (compEnvC scope cl C X.env) fp) ifs tt)
    (he : ∀ (s : Shared) (H : Hp) (C : Addr) (cl : List (Str × Addr)) (fp : List Addr), PE (X.blk s H scope (compEnvC scope cl C X.env) fp) elt te) (hs : ∀ x, foldedSetIterable iter X.env x = pure x := by intro _; rfl) :
    PE X (.ListComp elt [⟨tg, iter, ifs, 0⟩] scope pos) (tLc wi g tt te (own.map (·.2))) := by
  intro pins s σ H Q I h
  rw [eval_ListComp]
  refine lc_core hc hN I hi ok hg ht he hs h fun D C s' m H' I' q hn f => ⟨m, hn, fun h'' sb => ?_⟩
  obtain ⟨f0, f1, f2, f3, f4, f5⟩ := f
  exact ⟨.ref D, H', I'.turned (t' := s'.toks) (fun b o hb e => (sb.2 b hb).trans e) f0 f1 f3 f4 f5, rfl, q⟩
theorem ps_setLc {i : Nat} {y : Str} {py : Pos} {elt tg iter : Expr} {ifs : List Expr} {scope : Scope} {own : List (Str × Nat)} {pos spos : Pos} {wi : TI} {g : TG} {tt : TT} {te : TE} (hc : X.calm = true) (hN : X.N.Nodup) (hy : X.N[i]? = some y) (hyl : X.env.scope.names.lookup y = some .local)
    (hsw : swapsWith (.ListComp elt [⟨tg, iter, ifs, 0⟩] scope pos) (some (.Name y py)) spos.line X.env = pure true) (hi : PI X tg iter wi) (ok : BlkOk X.N X.env.scope scope own)
    (hg : ∀ (s : Shared) (H : Hp) (C : Addr) (cl : List (Str × Addr)) (fp : List Addr), PG (X.blk s H scope (compEnvC scope cl C X.env) fp) tg g) (ht : ∀ (s : Shared) (H : Hp) (C : Addr) (cl : List (Str × Addr)) (fp : List Addr), PTs (X.blk s H scope (compEnvC scope cl C X.env) fp) ifs tt)
    (he : ∀ (s : Shared) (H : Hp) (C : Addr) (cl : List (Str × Addr)) (fp : List Addr), PE (X.blk s H scope (compEnvC scope cl C X.env) fp) elt te) (hs : ∀ x, foldedSetIterable iter X.env x = pure x := by intro _; rfl) :
    PS X (.Assign [.Name y py] (.ListComp elt [⟨tg, iter, ifs, 0⟩] scope pos) spos) (tAsg (tLc wi g tt te (own.map (·.2))) (gName i)) := by
  intro pins s σ H D I h
  rw [exec_Assign_Name_used _ _ _ _ hsw]
  refine wpAny_bind (wpAny_standAt (wpAny_bind ?_))
  show wpAny _ X.A (do let _ ← comprehension (.ListComp elt [⟨tg, iter, ifs, 0⟩] scope pos) scope X.env (firstIterPos [⟨tg, iter, ifs, 0⟩] pos) (newList []) false (eval iter X.env) (some (assign (.Name y py) X.env))) _ _ s
  have h : tLc wi g tt te (own.map (·.2)) σ H (fun x H1 => gName i x σ H1 D.nx) := h
  refine wpAny_bind (thn (lc_core (Qf := fun _ s' => SP X pins D .next s') hc hN I hi ok hg ht he hs h fun L C s' m H' I' q hn f => ?_) fun _ s' hq => wpAny_pure (wpAny_pure hq))
  show wpAny _ _ (assign (.Name y py) X.env (.ref L)) _ _ _
  refine wpAny_assign_Name (store_ok2 (v := V.ref L) I' hN hy (.inl hyl) rfl (fun s2 I2 ⟨a, sb, ha⟩ => ?_) (.inr hyl))
  obtain ⟨f0, f1, f2, f3, f4, f5⟩ := f
  have haC : C ≠ a := by
    rcases ha with z | z
    · rw [z]; exact f1
    · exact fun e => f4 y a z e.symm
  refine ⟨m, hn.sameBut sb haC, fun h3 sb3 => ?_⟩
  exact ⟨_, H', I2.turned (t' := s2.toks) (fun b o hb e => (sb3.2 b hb).trans e) f0 f1 f3 f4 f5, q⟩
theorem sw_true {elt : Expr} {gs : List Comprehension} {scope : Scope} {pos py : Pos} {y : Str} {l : Nat} {env : Env} (hk : env.scope.kind = .function) (hy : env.scope.names.lookup y = some .local) (hl : (py.line == pos.line) = true)
    (ha : (scope.names.any fun (n, k) => n == y && (k == .local || k == .cell)) = false) : swapsWith (.ListComp elt gs scope pos) (some (.Name y py)) l env = pure true := by
  have ky : env.kindOf y = some .local := hy
  have hb : env.blockKind = .function := by unfold Env.blockKind; rw [hk]; rfl
  unfold swapsWith
  simp only [hb, ky, ha, Expr.pos, hl]
  rfl
end
def blkC (N : List Str) (sc scope : Scope) (own : List (Str × Nat)) : Bool :=
  (match scope.kind with | .function => true | _ => false) && (scope.names.all fun y => decide (scope.names.lookup y.1 = some y.2)) && (own.all fun p => decide (N[p.2]? = some p.1)) &&
    (scope.names.all fun y => match y.2 with
      | .free => (match sc.names.lookup y.1 with | some .cell => true | some .free => true | _ => false)
      | .local => decide (y.1 ∈ own.map (·.1)) || decide (y.1 ∉ N)
      | .cell => decide (y.1 ∈ own.map (·.1)) || decide (y.1 ∉ N)
      | _ => true)
theorem blkOk_by {N : List Str} {sc scope : Scope} {own : List (Str × Nat)} (h : blkC N sc scope own = true) : BlkOk N sc scope own := by
  unfold blkC at h
  simp only [Bool.and_eq_true, List.all_eq_true, decide_eq_true_eq] at h
  obtain ⟨⟨⟨h1, h2⟩, h3⟩, h4⟩ := h
  refine ⟨?_, h2, h3, fun y hy e => ?_, fun y hy e => ?_⟩
  · split at h1
    · assumption
    · cases h1
  · have q := h4 y hy
    simp only [e] at q
    split at q <;> first | exact .inl (by assumption) | exact .inr (by assumption) | cases q
  · have q := h4 y hy
    rcases e with e | e <;> (simp only [e, Bool.or_eq_true, decide_eq_true_eq] at q; exact q)
end L2
namespace L2
open PySem PySem.Spec PyProof.Rows
section
variable {prog : Program} {w : World} {A : Around} {R : Result → Shared → Prop} {s : Shared} {elt t0 i0 t1 i1 : Expr} {ifs0 ifs1 : List Expr} {scope : Scope} {pos : Pos} {it acc : Value} {env : Env}
end
section
variable {X : Cx}
end
end L2
namespace L2
open PySem PySem.Spec PyProof.Rows
section
variable {κ : Type} [DecidableEq κ]
def valV (kvs : List (κ × V)) (k : κ) : Option V := (kvs.find? fun kv => decide (kv.1 = k)).map (·.2)
def putK (kvs : List (κ × V)) (k : κ) (v : V) : List (κ × V) :=
  if (kvs.any fun kv => decide (kv.1 = k)) = true then kvs.map (fun kv => if kv.1 = k then (kv.1, v) else kv) else kvs ++ [(k, v)]
def dropK (kvs : List (κ × V)) (k : κ) : List (κ × V) := kvs.filter fun kv => decide (kv.1 ≠ k)
theorem valV_pos {p : κ × V} {r : List (κ × V)} {k : κ} (e : p.1 = k) : valV (p :: r) k = some p.2 := by simp [valV, List.find?_cons, e]
theorem valV_neg {p : κ × V} {r : List (κ × V)} {k : κ} (e : ¬ p.1 = k) : valV (p :: r) k = valV r k := by simp [valV, List.find?_cons, e]
theorem valV_any (k : κ) : ∀ kvs : List (κ × V), (kvs.any fun kv => decide (kv.1 = k)) = (valV kvs k).isSome
  | [] => rfl
  | p :: r => by
    rw [List.any_cons]
    by_cases e : p.1 = k
    · simp only [valV_pos e, decide_eq_true e, Bool.true_or, Option.isSome_some]
    · rw [valV_neg e, decide_eq_false e, Bool.false_or]; exact valV_any k r
theorem RelO.isSome_eq {o : Option V} {u : Option Value} (r : RelO o u) : o.isSome = u.isSome := by
  cases o with
  | none => cases u with
    | none => rfl
    | some _ => exact (show False from r).elim
  | some _ => cases u with
    | none => exact (show False from r).elim
    | some _ => rfl
theorem RelO.getD {o : Option V} {u : Option Value} {d : V} {d' : Value} (r : RelO o u) (rd : RelV d d') : RelV (o.getD d) (u.getD d') := by
  cases o with
  | none => cases u with
    | none => exact rd
    | some _ => exact (show False from r).elim
  | some _ => cases u with
    | none => exact (show False from r).elim
    | some _ => exact r
theorem KV.val {kvs : List (κ × V)} {vs : List (κ × Value)} (r : KV kvs vs) (k : κ) : RelO (valV kvs k) (valueAt vs k) := by
  unfold KV at r
  induction r with
  | nil => exact True.intro
  | @cons p q ps qs h t ih =>
    obtain ⟨h1, h2⟩ := h
    by_cases e : p.1 = k
    · have e' : q.1 = k := h1.symm.trans e
      have b : valueAt (q :: qs) k = some q.2 := by simp [valueAt, List.find?_cons, e']
      rw [valV_pos e, b]; exact h2
    · have e' : ¬ q.1 = k := fun z => e (h1.trans z)
      have b : valueAt (q :: qs) k = valueAt qs k := by simp [valueAt, List.find?_cons, e']
      rw [valV_neg e, b]; exact ih
theorem KV.any {kvs : List (κ × V)} {vs : List (κ × Value)} (r : KV kvs vs) (k : κ) : (kvs.any fun kv => decide (kv.1 = k)) = vs.any fun kv => decide (kv.1 = k) := by
  unfold KV at r
  induction r with
  | nil => rfl
  | cons h t ih => rw [List.any_cons, List.any_cons, ih, h.1]
theorem KV.repl {kvs : List (κ × V)} {vs : List (κ × Value)} (r : KV kvs vs) (k : κ) {y : V} {u : Value} (ry : RelV y u) :
    KV (kvs.map fun kv => if kv.1 = k then (kv.1, y) else kv) (vs.map fun kv => if kv.1 = k then (kv.1, u) else kv) := by
  unfold KV at r ⊢
  induction r with
  | nil => exact .nil
  | @cons p q ps qs h t ih =>
    rw [List.map_cons, List.map_cons]
    refine .cons ?_ ih
    obtain ⟨h1, h2⟩ := h
    by_cases e : p.1 = k
    · rw [if_pos e, if_pos (h1.symm.trans e)]; exact ⟨h1, ry⟩
    · rw [if_neg e, if_neg (fun z => e (h1.trans z))]; exact ⟨h1, h2⟩
theorem KV.put {kvs : List (κ × V)} {vs : List (κ × Value)} (r : KV kvs vs) (k : κ) {y : V} {u : Value} (ry : RelV y u) : KV (putK kvs k y) (stored vs k u) := by
  unfold putK stored
  rw [r.any k]
  by_cases e : (vs.any fun kv => decide (kv.1 = k)) = true
  · rw [if_pos e, if_pos e]; exact r.repl k ry
  · rw [if_neg e, if_neg e]; exact Paired.snoc r ⟨rfl, ry⟩
theorem KV.drop {kvs : List (κ × V)} {vs : List (κ × Value)} (r : KV kvs vs) (k : κ) : KV (dropK kvs k) (without vs k) := by
  unfold KV at r ⊢
  unfold dropK without
  induction r with
  | nil => exact .nil
  | @cons p q ps qs h t ih =>
    obtain ⟨h1, h2⟩ := h
    rw [List.filter_cons, List.filter_cons]
    by_cases e : p.1 = k
    · have a : ¬ decide (p.1 ≠ k) = true := by simp [e]
      have b : ¬ decide (q.1 ≠ k) = true := by simp [h1.symm.trans e]
      rw [if_neg a, if_neg b]; exact ih
    · have e' : ¬ q.1 = k := fun z => e (h1.trans z)
      have a : decide (p.1 ≠ k) = true := by simp [e]
      have b : decide (q.1 ≠ k) = true := by simp [e']
      rw [if_pos a, if_pos b]; exact .cons ⟨h1, h2⟩ ih
theorem KV.keys {kvs : List (κ × V)} {vs : List (κ × Value)} (r : KV kvs vs) : kvs.map (·.1) = vs.map (·.1) := by
  unfold KV at r
  induction r with
  | nil => rfl
  | cons h t ih => rw [List.map_cons, List.map_cons, ih, h.1]
theorem KV.length {kvs : List (κ × V)} {vs : List (κ × Value)} (r : KV kvs vs) : kvs.length = vs.length := Paired.length r
end
abbrev KT (H : Hp) : List (List Key × V) → List (List Key × Addr × Value) → Prop := Paired fun p q => p.1 = q.1 ∧ H q.2.1 = some (.tup (p.1.map kV)) ∧ RelV p.2 q.2.2
theorem KT.val {H : Hp} {kvs : List (List Key × V)} {xs : List (List Key × Addr × Value)} (r : KT H kvs xs) (k : List Key) : RelO (valV kvs k) ((atKey xs k).map (·.2)) := by
  induction r with
  | nil => exact True.intro
  | @cons p q ps qs h t ih =>
    obtain ⟨h1, _, h2⟩ := h
    by_cases e : p.1 = k
    · have e' : q.1 = k := h1.symm.trans e
      have b : atKey (q :: qs) k = some q.2 := by simp [atKey, List.find?_cons, e']
      rw [valV_pos e, b]; exact h2
    · have e' : ¬ q.1 = k := fun z => e (h1.trans z)
      have b : atKey (q :: qs) k = atKey qs k := by simp [atKey, List.find?_cons, e']
      rw [valV_neg e, b]; exact ih
theorem KT.repl {H : Hp} {kvs : List (List Key × V)} {xs : List (List Key × Addr × Value)} (r : KT H kvs xs) (k : List Key) {y : V} {u : Value} (ry : RelV y u) :
    KT H (kvs.map fun kv => if kv.1 = k then (kv.1, y) else kv) (xs.map (putAt k u)) := by
  induction r with
  | nil => exact .nil
  | @cons p q ps qs h t ih =>
    rw [List.map_cons, List.map_cons]
    refine .cons ?_ ih
    obtain ⟨h1, h2, h3⟩ := h
    unfold putAt
    by_cases e : p.1 = k
    · rw [if_pos e, if_pos (h1.symm.trans e)]; exact ⟨h1, h2, ry⟩
    · rw [if_neg e, if_neg (fun z => e (h1.trans z))]; exact ⟨h1, h2, h3⟩
theorem KT.put {H : Hp} {kvs : List (List Key × V)} {xs : List (List Key × Addr × Value)} (r : KT H kvs xs) (k : List Key) {b : Addr} {y : V} {u : Value} (hb : H b = some (.tup (k.map kV))) (ry : RelV y u) :
    KT H (putK kvs k y) (storedH xs k b u) := by
  have e : (kvs.any fun kv => decide (kv.1 = k)) = (atKey xs k).isSome := by
    rw [valV_any, (r.val k).isSome_eq, Option.isSome_map]
  unfold putK storedH
  rw [e]
  by_cases q : (atKey xs k).isSome = true
  · rw [if_pos q, if_pos q]; exact r.repl k ry
  · rw [if_neg q, if_neg q]; exact Paired.snoc r ⟨rfl, hb, ry⟩
theorem KT.keeps {H H' : Hp} {kvs : List (List Key × V)} {xs : List (List Key × Addr × Value)} (r : KT H kvs xs) (ht : ∀ b ys, H b = some (.tup ys) → H' b = some (.tup ys)) : KT H' kvs xs :=
  Paired.mapP r fun _ _ z => ⟨z.1, ht _ _ z.2.1, z.2.2⟩
section
variable {P : Program} {w : World} {H : Hp} {h : Heap} {a : Addr}
end
def DGet (H : Hp) (a : Addr) (y : V) (r : Option V) : Prop :=
  (∃ kvs k, Rd H a (.dK kvs) ∧ y = kV k ∧ r = valV kvs k) ∨ ∃ kvs k b, Rd H a (.dT kvs) ∧ y = .ref b ∧ H b = some (.tup (k.map kV)) ∧ r = valV kvs k
def DPut (H : Hp) (a : Addr) (y v : V) (H' : Hp) : Prop :=
  (∃ kvs k, H a = some (.dK kvs) ∧ y = kV k ∧ kvs.length < sizeLine ∧ H' = upd H a (.dK (putK kvs k v))) ∨
  ∃ kvs k b, H a = some (.dT kvs) ∧ y = .ref b ∧ H b = some (.tup (k.map kV)) ∧ kvs.length < sizeLine ∧ H' = upd H a (.dT (putK kvs k v))
theorem DGet.k {H : Hp} {a : Addr} {kvs : List (Key × V)} {k : Key} (e : H a = some (.dK kvs)) : DGet H a (kV k) (valV kvs k) := .inl ⟨kvs, k, .inl e, rfl, rfl⟩
theorem DGet.t {H : Hp} {a b : Addr} {kvs : List (List Key × V)} {k : List Key} (e : H a = some (.dT kvs)) (eb : H b = some (.tup (k.map kV))) : DGet H a (.ref b) (valV kvs k) := .inr ⟨kvs, k, b, .inl e, rfl, eb, rfl⟩
theorem DPut.k {H : Hp} {a : Addr} {kvs : List (Key × V)} {k : Key} {v : V} (e : H a = some (.dK kvs)) (hl : kvs.length < sizeLine) : DPut H a (kV k) v (upd H a (.dK (putK kvs k v))) := .inl ⟨kvs, k, e, rfl, hl, rfl⟩
theorem DPut.t {H : Hp} {a b : Addr} {kvs : List (List Key × V)} {k : List Key} {v : V} (e : H a = some (.dT kvs)) (eb : H b = some (.tup (k.map kV))) (hl : kvs.length < sizeLine) :
    DPut H a (.ref b) v (upd H a (.dT (putK kvs k v))) := .inr ⟨kvs, k, b, e, rfl, eb, hl, rfl⟩
section
variable {X : Cx} {pins : List (Addr × Obj)} {σ : St} {H : Hp} {s : Shared} {a : Addr} {y v : V} {u r : Value} {o : Option V} {A : Around} {E : Value → Shared → Prop}
end
section
variable {X : Cx} {pins : List (Addr × Obj)} {σ : St} {H : Hp} {s : Shared} {a : Addr} {kvs : List (Key × V)} {k : Key} {u : Value} {A : Around} {E : Value → Shared → Prop}
end
section
variable {X : Cx} {o i e value : Expr} {pos pos' tpos : Pos} {td ty tv : TE}
end
section
variable {X : Cx} {pos : Pos}
end
def tPairs : List (TE × TE) → St → Hp → (List (V × V) → Hp → Prop) → Prop
  | [], _, H, Q => Q [] H
  | (tk, tv) :: r, σ, H, Q => tk σ H fun x H1 => tv σ H1 fun y H2 => tPairs r σ H2 fun ps H3 => Q ((x, y) :: ps) H3
abbrev VV : List (V × V) → List (Value × Value) → Prop := Paired fun p q => RelV p.1 q.1 ∧ RelV p.2 q.2
def PPs (X : Cx) (pos : Pos) (keys : List (Option Expr)) (values : List Expr) (trs : List (TE × TE)) : Prop :=
  ∀ (pins : List (Addr × Obj)) (s : Shared) (σ : St) (H : Hp) (Q : List (V × V) → Hp → Prop), Inv X pins σ H s → tPairs trs σ H Q →
    wpAny (model X.prog X.w) X.A (evalPairs (pairTrees keys values X.env pos)) (fun vs s' => ∃ ps H', Inv X pins σ H' s' ∧ VV ps vs ∧ Q ps H') X.xe s
structure M1 (X : Cx) (o : Expr) (m : Str) (apos : Pos) (e : Expr) (cpos : Pos) : Prop where
  base : attributeBase o m X.env (eval o X.env) = eval o X.env
  few : ((backTo cpos (starEach [e] X.env)).all (fun x => !x.1) && (backToKw cpos (keywordEach [] X.env)).all (fun x => x.1.isSome)
    && decide (([e] : List Expr).length + ([] : List Keyword).length + (if ([] : List Keyword).isEmpty then 0 else 1) < 30)) = true
  line : (apos.endLine == cpos.line) = true
  trees : backTo cpos (starEach [e] X.env) = [(false, eval e X.env)]
structure M2 (X : Cx) (o : Expr) (m : Str) (apos : Pos) (e f : Expr) (cpos : Pos) : Prop where
  base : attributeBase o m X.env (eval o X.env) = eval o X.env
  few : ((backTo cpos (starEach [e, f] X.env)).all (fun x => !x.1) && (backToKw cpos (keywordEach [] X.env)).all (fun x => x.1.isSome)
    && decide (([e, f] : List Expr).length + ([] : List Keyword).length + (if ([] : List Keyword).isEmpty then 0 else 1) < 30)) = true
  line : (apos.endLine == cpos.line) = true
  trees : backTo cpos (starEach [e, f] X.env) = [(false, eval e X.env), (false, eval f X.env)]
section
variable {X : Cx} {pins : List (Addr × Obj)} {σ : St} {H : Hp} {s : Shared} {a : Addr} {y d : V} {u r : Value} {o : Option V} {A : Around} {E : Value → Shared → Prop}
end
section
variable {X : Cx} {o e f : Expr} {apos cpos : Pos} {td ty tx : TE}
end
section
variable {X : Cx} {pins : List (Addr × Obj)} {σ : St} {H : Hp} {s : Shared} {a : Addr} {kvs : List (Key × V)} {A : Around} {E : Value → Shared → Prop}
end
section
variable {X : Cx} {pins : List (Addr × Obj)} {σ : St} {H : Hp} {s : Shared} {a : Addr} {y : V} {u : Value} {A : Around} {E : Value → Shared → Prop}
end
end L2
namespace L2
open PySem PySem.Spec PyProof.Rows
section
variable {prog : Program} {w : World} {A : Around} {E : Value → Shared → Prop}
end
section
variable {X : Cx}
end
end L2
namespace L2
open PySem PySem.Spec PyProof.Rows
section
variable {X : Cx} {pins : List (Addr × Obj)} {σ : St} {H : Hp} {s : Shared} {h' : Heap}
theorem Inv.turnedNew {t' : Nat} {ch : List Addr} {T : Addr} {ob : HO} (I : Inv X pins σ H s) (k : ∀ b o, b ∉ ch → s.heap.get? b = some o → h'.get? b = some o) (hf : ∀ b ∈ ch, FpOk X pins H b) (hT : s.heap.objs.size ≤ T)
    (new : ObjOk X.prog X.w (upd H T ob) h' T ob) : Inv X pins σ (upd H T ob) { s with heap := h', toks := t' } := by
  have hn : H T = none := I.hok.fresh hT
  have nit : ∀ b u, H b = some u → b ∉ ch := fun b u e z => by
    have q := (hf b z).1
    rw [q] at e; cases e
  refine I.step (g' := s.gens) (d' := s.drawn) (ch := ch) (fun b hb => ⟨(hf b hb).2.2.2.1, (hf b hb).2.1, (hf b hb).2.2.2.2.1, (hf b hb).2.2.2.2.2⟩) (fun b o _ _ hc e _ => k b o hc e) (fun b o _ _ hc e _ => ⟨o.slots, k b o hc e⟩)
    (fun b o _ e n => ?_) (fun b o hc e => ⟨o, k b o hc e⟩) (fun b xs e => ?_) (fun b o u e => ?_) (fun b ps e => ⟨#[], ?_⟩) (fun m hm => ?_) (fun b u e => ?_) I.bare
  · rw [upd_ne (Nat.ne_of_lt (Nat.lt_of_lt_of_le (Heap.lt_size e) hT))]; exact n
  · rw [upd_ne (ne_of_none e hn)]; exact e
  · rw [upd_ne (ne_of_none e hn)]; exact e
  · rw [upd_ne (ne_of_none e hn), e]; simp
  · obtain ⟨o, es, ep, ho, r⟩ := hm
    exact ⟨o, es, ep, k _ o (fun z => (hf _ z).2.1 rfl) ho, r⟩
  · by_cases hb : b = T
    · subst hb
      rw [upd_same] at e
      cases e
      exact new
    · rw [upd_ne hb] at e
      refine (I.hok b u e).stay (fun c v hc q => k c v ?_ q) (fun c q => by rw [upd_ne (ne_of_none q hn)]; exact q) fun c xs q => by rw [upd_ne (ne_of_none q hn)]; exact q
      rcases hc with z | z
      · rw [z]; exact nit b u e
      · exact nit c _ z
end
section
variable {X : Cx}
end
def RgC (i j c : Int) (n : Nat) : Prop := c ≠ 0 ∧ c.natAbs < 1073741824 ∧ Builtin.Range.small i j c = true ∧ Builtin.Range.rangeSize i j c = n
theorem RgC.neg {i j : Int} (ha : -(2 ^ 62) ≤ i) (ha' : i < 2 ^ 62) (hb : -(2 ^ 62) ≤ j) (hb' : j < 2 ^ 62) : RgC i j (-1) (i - j).toNat :=
  ⟨by decide, by decide, PySem.W.small_down ha ha' hb hb', PySem.W.rangeSize_downNat i j⟩
section
variable {X : Cx} {tg : Expr}
end
section
variable {X : Cx} {tg : Expr}
end
section
variable {prog : Program} {w : World} {A : Around} {E : Value → Shared → Prop} {s : Shared}
end
section
variable {X : Cx} {pins : List (Addr × Obj)} {σ : St} {H : Hp} {s : Shared} {d : Addr} {o : Obj}
end
section
variable {P : Program} {w : World} {K : PySem.W.Frag} {tg : Expr} {d : Addr} {o : Obj} {es : Array DictEntry} {ep : Nat}
end
section
variable {X : Cx} {tg e : Expr} {td : TE} {apos cpos : Pos}
end
def Ite (K : PySem.W.Frag) (a : Addr) : It :=
  ⟨fun i H => ∃ (xs : List V) (x : V), SqL K H a xs ∧ xs[i]? = some x, fun i H v H' => ∃ T x, v = .ref T ∧ H T = none ∧ H' = upd H T (.tup [.int (i : Nat), x]) ∧ ∀ xs, SqL K H a xs → xs[i]? = some x, fun i H => ∃ xs : List V, SqL K H a xs ∧ xs.length ≤ i⟩
theorem turn_enum {P : Program} {w : World} {K : PySem.W.Frag} {elts : List Expr} {kk : Nat} {tpos : Pos} (a e it : Addr) :
    Turn P w K (.Tuple elts kk tpos) (Ite K a) [e, it] e (fun i h => (∃ old, IsEnum h e it ((i : Nat) : Int) old) ∧ h.IsListIter it a i ∧ e ≠ it) where
  mem := by simp
  obj := fun i h st b hb => by
    obtain ⟨⟨old, he⟩, ⟨o, ho, hc, hd⟩, _⟩ := st
    have e' : b = e ∨ b = it := by simpa using hb
    rcases e' with z | z
    · rw [z]; exact ⟨_, he, fun v q => nomatch q⟩
    · rw [z]; exact ⟨o, ho, fun v q => by rw [hd] at q; cases q⟩
  keep := fun i h h' st k => let ⟨⟨old, he⟩, hi, hne⟩ := st; ⟨⟨old, k e (by simp) _ he⟩, hi.at fun o q => k it (by simp) o q, hne⟩
  item := by
    intro X hP hw hK hc i pins s σ H E I hf st hg
    subst hP hw hK
    obtain ⟨⟨old, he⟩, hit, hne⟩ := st
    obtain ⟨xs, x, hq, hx⟩ := hg
    obtain ⟨its, rv, p, hz⟩ := I.list hq
    obtain ⟨u, hu, ru⟩ := rv.get hx
    have hel : e < s.heap.objs.size := Heap.lt_size he
    have hil : it < s.heap.objs.size := by obtain ⟨_, q, _⟩ := hit; exact Heap.lt_size q
    refine wpAny_pyNext_enum_item he hit p.isList (x := u) (by simpa using hu) hne fun h' ho hit' hT hsz hk => ?_
    refine ⟨_, rfl, wpAny_letOwnedTupleGo_enum (s := { s with heap := h', toks := s.toks + 1 }) ho fun h'' he' sb => ?_⟩
    have hT2 : h''.get? s.heap.objs.size = some { cls := .type "tuple", data := .seq #[.int i s.toks, u] } := (sb.2 _ (Nat.ne_of_gt hel)).trans hT
    have new : ObjOk X.prog X.w (upd H s.heap.objs.size (.tup [.int (i : Nat), x])) h'' s.heap.objs.size (.tup [.int (i : Nat), x]) :=
      ⟨by show 2 ≤ sizeLine; decide, [.int i s.toks, u], .cons ⟨_, rfl⟩ (.cons ru .nil), ⟨_, hT2, rfl, _, rfl⟩⟩
    have I1 : Inv X pins σ (upd H s.heap.objs.size (.tup [.int (i : Nat), x])) { s with heap := h'', toks := s.toks + 1 } :=
      I.turnedNew (ch := [e, it]) (fun b ob hb q => (sb.2 b (fun z => hb (by simp [z]))).trans (hk b ob (fun z => hb (by simp [z])) (fun z => hb (by simp [z])) q)) hf (Nat.le_refl _) new
    refine ⟨.ref s.heap.objs.size, _, I1, rfl, ⟨_, x, rfl, I.hok.fresh (Nat.le_refl _), rfl, fun ys hy => by rw [I.list_inj hy hq]; exact hx⟩, ⟨⟨u, ?_⟩, hit'.at fun o q => (sb.2 it (Ne.symm hne)).trans q, hne⟩, fun b hb => ?_⟩
    · have e1 : ((i + 1 : Nat) : Int) = (i : Int) + 1 := by omega
      rw [e1]; exact he'
    · have hb' : b < s.heap.objs.size := by
        have e' : b = e ∨ b = it := by simpa using hb
        rcases e' with z | z
        · rw [z]; exact hel
        · rw [z]; exact hil
      rw [upd_ne (Nat.ne_of_lt hb')]
      exact (hf b hb).1
  done := by
    intro X hP hw hK hc i pins s σ H E I hf st hg
    subst hP hw hK
    obtain ⟨⟨old, he⟩, hit, hne⟩ := st
    obtain ⟨xs, hq, hx⟩ := hg
    obtain ⟨its, rv, p, hz⟩ := I.list hq
    obtain ⟨f0, f1, f2, f3, f4, f5⟩ := hf it (by simp)
    have hl := rv.length
    exact wpAny_pyNext_enum_end (I.ok.hd hc) he hit p.isList (by simp; omega) fun h' eb => ⟨rfl, I.turned (t' := s.toks) (fun b o hb q => eb b o hb q) f0 f1 f3 f4 f5⟩
  self := fun A i s Q E st h => let ⟨⟨_, he⟩, _⟩ := st; wpAny_pyIter_enum he h
def iEnum (K : PySem.W.Frag) (ta : TA) : TI := fun σ H R => ta σ H fun vs H1 => ∃ a xs, vs = [.ref a] ∧ SqL K H1 a xs ∧ R (Ite K a) H1
theorem pi_enum {X : Cx} {e : Expr} {ta : TA} {p pos tpos : Pos} {elts : List Expr} {kk : Nat} (hg : Gl X "enumerate") (hm : X.mg "enumerate" = none) (ha : PA X [e] ta) (hs : starEach [e] X.env = [(false, eval e X.env)] := by rfl) :
    PI X (.Tuple elts kk tpos) (.Call (.Name "enumerate" p) [e] [] pos) (iEnum X.K ta) := by
  intro pins s σ H R I h
  refine Call_ (ld_blt I hg hm boot_enumerate (PyProof.Rows.callWith_type1 (thn (ha pos pins s σ H _ I h) fun us s1 ⟨vs, H1, I1, r1, q1⟩ => ?_) hs rfl))
  obtain ⟨a, xs, ex, hq, q⟩ := q1
  subst ex
  cases r1 with
  | cons r rr =>
    cases rr
    cases r
    obtain ⟨its, rv, p', hz⟩ := I1.list hq
    refine call_enumerate_list p'.isList fun h' he hit hsz hk => wpAny_pyIter_enum he ?_
    have I2 : Inv X pins σ H1 { s1 with heap := h' } := I1.kept (t' := s1.toks) hk
    refine ⟨s1.heap.objs.size + 1, [s1.heap.objs.size + 1, s1.heap.objs.size], _, _, H1, rfl, I2, turn_enum a (s1.heap.objs.size + 1) s1.heap.objs.size, ⟨⟨.none, he⟩, hit, Nat.succ_ne_self _⟩, fun b hb => ?_, q⟩
    have e' : b = s1.heap.objs.size + 1 ∨ b = s1.heap.objs.size := by simpa using hb
    have hle : s1.heap.objs.size ≤ b := by
      rcases e' with z | z
      · rw [z]; exact Nat.le_add_right _ _
      · rw [z]; exact Nat.le_refl _
    exact I1.fpOk hle (I1.hok.fresh hle)
end L2
section
namespace Bits
open PySem PyProof.Rows
end Bits
end
section
namespace TL
open PySem PySem.Builtin PySem.Builtin.Str PySem.StrLaws
abbrev tl (x : Str) : List Nat := x.cps.toList
def pre (S l : List Nat) : Bool := l.take S.length == S
def spl (S : List Nat) : Nat → List Nat → List Nat → List (List Nat)
  | _, acc, [] => [acc]
  | 0, acc, c :: r => if pre S (c :: r) = true then acc :: spl S (S.length - 1) [] r else spl S 0 (acc ++ [c]) r
  | k + 1, acc, _ :: r => spl S k acc r
def par (S : List Nat) : List Nat → List Nat → Option (List Nat × List Nat)
  | _, [] => none
  | acc, c :: r => if pre S (c :: r) = true then some (acc, (c :: r).drop S.length) else par S (acc ++ [c]) r
end TL
end
namespace L2
open PySem PySem.Spec PyProof.Rows
section
variable {X : Cx} {pins : List (Addr × Obj)} {σ : St} {H : Hp} {s : Shared} {Q : VK}
end
section
variable {X : Cx}
end
section
variable {X : Cx} {o e : Expr} {to te : TE}
end
end L2
namespace L2
open PySem PySem.Spec PyProof.Rows
section
variable {X : Cx}
end
def cutS (z : Str) (lo hi : Option Int) : Str :=
  ⟨((z.cps.toList.drop (HT.sIx z.length 0 lo)).take (HT.sIx z.length z.length hi - HT.sIx z.length 0 lo)).toArray⟩
end L2
namespace Att
open PySem PySem.W PySem.Calls PyProof.Rows
theorem ints_of_wellAll {P : Params} {h : Heap} : ∀ (ns : List Int) (vs : List Value), WellAll P h vs (ns.map WData.int) → IntsAre vs ns := by
  intro ns
  induction ns with
  | nil =>
    intro vs w
    rw [List.map_nil] at w
    cases w
    exact .nil
  | cons n ns ih =>
    intro vs w
    rw [List.map_cons] at w
    cases w with
    | cons a b =>
      cases a
      exact .cons _ _ (ih _ b)
theorem script_of {l : OpenLaw} {n : Nat} (hn : l.most = some n) {P : Params} {h : Heap} {args : List WData} {vals : List Value}
    (hpre : l.row.toRowW.claim.pre args = true) (hwl : WellAll P h vals args) :
    ∃ a vs ns, vals = [Value.ref a] ∧ args = [WData.list (ns.map WData.int)] ∧ h.get? a = some { cls := .type "list", data := .seq vs.toArray } ∧ IntsAre vs ns ∧ ns.length ≤ n := by
  have hsh : WShape.hasAll [] args [.list .int] = true := (pre_splitW hpre).1
  have hc : l.pre.holds [] { args := args } = true := (pre_splitW hpre).2
  obtain ⟨d, r, rfl, h1, h2⟩ := hasAllW_cons hsh
  obtain rfl := hasAllW_nil h2
  obtain ⟨xs, rfl, h3⟩ := hasW_list h1
  obtain ⟨ns, rfl⟩ := items_int h3
  have hlen : ns.length ≤ n := by
    unfold OpenLaw.pre at hc
    have h4 : (WTm.not (.lt (.lit (.int (n : Int))) (.len (.arg 0)))).holds [] { args := [.list (ns.map .int)] } = true := by
      have h4 := (holds_andW hc).1
      rw [hn] at h4
      exact h4
    have h5 := condW_of h4 (w_not (w_lt w_lit (w_len_list (w_arg rfl))))
    rw [List.length_map] at h5
    refine Nat.le_of_not_lt fun q => ?_
    have q' : (n : Int) < ((ns.length : Nat) : Int) := by omega
    first
      | (rw [decide_eq_true q'] at h5; exact absurd h5 (by decide))
      | (simp at h5; omega)
  cases hwl with
  | cons w1 w2 =>
    cases w2
    cases w1 with
    | list ho hall => exact ⟨_, _, ns, rfl, rfl, ho, ints_of_wellAll ns _ hall, hlen⟩
theorem post_true (l : OpenLaw) (args : List WData) : l.row.toRowW.claim.post args (.bool true) args = true :=
  postW_of (r := l.row.toRowW) (X := (true == true))
    (show WShape.has [] (.bool true) .bool = true by first | rfl | decide | simp [WShape.has, WShape.arms, WShape.armsAll])
    (show (WTm.eq .res (.lit (.bool true))).value [] { args := args, res := some (.bool true), after := args } = some (.bool (true == true)) from w_eq_bool (w_res rfl) w_lit) rfl
section
variable {prog : Program} {w : World} {A : Around} {E : Value → Shared → Prop} {s : Shared} {K : Frag}
end
end Att
namespace L2
open PySem PySem.Spec PyProof.Rows
theorem vals_ints : ∀ {vs : List Value} {ns : List Int}, IntsAre vs ns → Vals (ns.map V.int) vs
  | _, _, .nil => .nil
  | _, _, .cons n t h => .cons ⟨t, rfl⟩ (vals_ints h)
def Only (H : Hp) : Prop := ∀ b, H b = none ∨ ∃ o xs, H b = some (.frz o (.lst xs))
theorem law_call {P : Program} {w : World} {K : PySem.W.Frag} {mg mb : Str → Option Value} {CX : CXT} {k : Nat} {fa a : Addr} {fd : FuncData} {x : Str} {sp : Sp} {s₁ : Shared} {vs : List Value} {ns : List Int}
    (KX : K.In s₁.heap) (hns : s₁.heap.Ns mainGlobals mg) (hb : s₁.heap.Ns builtinsNs mb) (hbb : ∀ x : Str, x ≠ "__name__" → mb x = bootBuiltins x) (hlim : s₁.heap.NoLimit) (hg : s₁.gens = #[])
    (ha : s₁.heap.get? a = some { cls := .type "list", data := .seq vs.toArray }) (hi : IntsAre vs ns) (hl : ns.length ≤ sizeLine) (hr : Room k callerA)
    (F : ∀ base : Heap, K.In base → base.Ns mainGlobals mg → FnOk P w K mg base CX k fa fd [x] sp) (hbind : ∀ (s : Shared) (u : Value), BindsTo s fd ⟨[u], []⟩ [(x, u)])
    (hsp : ∀ H : Hp, Only H → SqL K H a (ns.map V.int) → sp [.ref a] H (fun v _ => v = .bl true) fun _ _ _ => False)
    (hCX : ∀ H e s', CX [] H s₁ (fun _ _ _ => False) e s' → False) :
    codeAny (model P w) callerA (.call (.ref fa) ⟨[.ref a], []⟩) (fun r s' => r = .ok (.ret (.bool true)) ∧ OldK s₁.heap s'.heap ∧ s'.os = s₁.os ∧ AllBare s'.gens) s₁ := by
  have rv := vals_ints hi
  have lenV := hi.length
  have core : ∀ H : Hp, Only H → SqL K H a (ns.map V.int) → HOk P w H s₁.heap → (∀ b, H b ≠ none → b = a) → (H a ≠ none → K.lookup a = none) →
      codeAny (model P w) callerA (.call (.ref fa) ⟨[.ref a], []⟩) (fun r s' => r = .ok (.ret (.bool true)) ∧ OldK s₁.heap s'.heap ∧ s'.os = s₁.os ∧ AllBare s'.gens) s₁ := by
    intro H hO hS hok hA hK
    have base_of : ∀ {b : Addr} {o : Obj}, s₁.heap.get? b = some o → H b = none → (hidT s₁.heap H).get? b = some o := fun e n => hidT_get e n
    have noA : ∀ {b : Addr} {o : Obj} {es : Array DictEntry} {ep : Nat}, s₁.heap.get? b = some o → o.data = .dict es ep → H b = none := fun {b o es ep} e d => by
      cases q : H b with
      | none => rfl
      | some u =>
        have e' : b = a := hA b (by rw [q]; simp)
        subst e'
        rw [ha] at e; cases e
        have d' : Data.seq vs.toArray _ = Data.dict es ep := d
        cases d'
    have nsK : ∀ {b : Addr} {m : Str → Option Value}, s₁.heap.Ns b m → (hidT s₁.heap H).Ns b m := fun {b m} ⟨o, es, ep, e, d, r⟩ => ⟨o, es, ep, base_of e (noA e d), d, r⟩
    have hKb : K.In (hidT s₁.heap H) := fun b o e => base_of (KX b o e) (by
      cases q : H b with
      | none => rfl
      | some u =>
        have e' : b = a := hA b (by rw [q]; simp)
        subst e'
        rw [hK (by rw [q]; simp)] at e; cases e)
    have hM : Mod K mg (hidT s₁.heap H) := ⟨hKb, nsK hns, ⟨mb, nsK hb, hbb⟩, let ⟨mc, h1, h2⟩ := hlim; ⟨mc, nsK h1, h2⟩⟩
    have e0 : Env0 P w K mg (hidT s₁.heap H) callerA [] s₁ H := ⟨rfl, hM, fun b o e => of_hidT e, Nat.le_of_eq (hidT_size _ _), trivial, fun b hb => absurd (show b ∈ ([] : List Addr) from hb) (by simp), hok, .of_eq hg⟩
    refine codeAny_mono ((F _ hKb (nsK hns)).run callerA [] s₁ H ⟨[.ref a], []⟩ [.ref a] [.ref a] _ _ hr e0 (hbind s₁ (.ref a)) (.cons rfl .nil) (hsp H hO hS)) fun r s' h => ?_
    cases r with
    | error e => exact (hCX H e s' h).elim
    | ok fl =>
      cases fl with
      | next => exact False.elim h
      | brk => exact False.elim h
      | cont => exact False.elim h
      | ret u =>
        obtain ⟨v, H', os, bare, un, hok', r', q⟩ := h
        have q' : v = .bl true := q
        subst q'
        obtain rfl : u = Value.bool true := r'
        refine ⟨rfl, OldK.of_keep fun b o e => ?_, os, bare⟩
        cases q : H b with
        | none => exact un.keep b o e q (by intro z; exact absurd (show b ∈ ([] : List Addr) from z) (by simp)) (by simp)
        | some u =>
          rcases hO b with z | ⟨ob, xs, z⟩
          · rw [q] at z; cases z
          · have z2 := un.frzs b ob _ z
            obtain ⟨e1, _⟩ := hok b _ z
            obtain ⟨e2, _⟩ := hok' b _ z2
            rw [e] at e1; cases e1
            exact e2
  cases hk : K.lookup a with
  | some o =>
    have e := KX a o hk
    rw [ha] at e
    cases e
    refine core (fun _ => none) (fun _ => .inl rfl) (.inr ⟨_, vs.toArray, _, hk, rfl, rfl, rfl, by rw [List.size_toArray, lenV]; exact hl, by simpa using rv⟩) (fun b u z => by have z' : (none : Option HO) = some u := z; cases z') (fun b z => absurd rfl z) fun z => absurd rfl z
  | none =>
    refine core (fun b => if b = a then some (.frz { cls := .type "list", data := .seq vs.toArray } (.lst (ns.map V.int))) else none) (fun b => ?_) (.inl (.inr ⟨{ cls := .type "list", data := .seq vs.toArray }, if_pos rfl⟩)) (fun b u z => ?_) (fun b z => ?_) fun _ => hk
    · by_cases hb : b = a
      · exact .inr ⟨_, _, if_pos hb⟩
      · exact .inl (if_neg hb)
    · by_cases hb : b = a
      · have z' := (if_pos hb).symm.trans z
        cases z'
        subst hb
        exact ⟨ha, by rw [List.length_map]; exact hl, vs, _, rv, ha⟩
      · have z' := (if_neg hb).symm.trans z
        cases z'
    · by_cases hb : b = a
      · exact hb
      · exact absurd (if_neg hb) z
end L2
namespace L2
open PySem PySem.Spec PyProof.Rows
end L2
namespace L2
open PySem PySem.Spec PyProof.Rows
def defArgs (s : Stmt) : Arguments := match s with
  | .FunctionDef _ a _ _ _ _ _ _ _ _ => a
  | _ => { posonlyargs := [], args := [], vararg := none, kwonlyargs := [], kw_defaults := [], kwarg := none, defaults := [] }
def defBody (s : Stmt) : List Stmt := match s with
  | .FunctionDef _ _ b _ _ _ _ _ _ _ => b
  | _ => []
def defScope (s : Stmt) : Scope := match s with
  | .FunctionDef _ _ _ _ _ _ sc _ _ _ => sc
  | _ => { kind := .function, names := [], isGenerator := false, isCoroutine := false }
abbrev CX0 : CXT := fun _ _ _ _ _ _ => False
abbrev E0 : XK := fun _ _ _ => False
structure Fun (K : PySem.W.Frag) (x qual : Str) (st : Stmt) (f : Addr) (fd : FuncData) : Prop where
  ex : ∃ (oc : Value) (od : Option Addr) (kV doc pm : Value) (an : Option Addr) (cdv ct : Value) (osl : Array (Option Value)),
    fd = PySem.W.fnOf x qual (defArgs st) (defBody st) (defScope st) .none kV doc pm an cdv ct ∧ K.lookup f = some ⟨oc, od, .func fd, osl⟩ ∧ PySem.W.codeIn K cdv qual = true
  kp : PySem.W.keepIn K (.ref f) = true
section
variable {P : Program} {w : World} {K : PySem.W.Frag} {mg : Str → Option Value} {base : Heap}
theorem Fun.ok {x qual : Str} {st : Stmt} {f : Addr} {fd : FuncData} {N ps : List Str} {k : Nat} {sp : Sp} (F : Fun K x qual st f fd) (S : FnScope N ps (defScope st)) (len : ∀ vs H Q E, sp vs H Q E → vs.length = ps.length)
    (hbody : ∀ (cdv : Value) (A : Around) (outer : List Env) (s : Shared) (H : Hp) (vs : List V) (Q : VK) (E : XK), Room k (A.deeper (envOfC qual (defScope st) s.heap.objs.size f cdv)) → sp vs H Q E →
      ∃ t, PSs (cxOf CX0 P w K mg base N qual (defScope st) f cdv A outer s H E).nox (defBody st) t ∧ t { nx := fun _ H' => Q .non H', rt := Q } (start N vs) H) : FnOk P w K mg base CX0 (k + 1) f fd ps sp := by
  obtain ⟨oc, od, kV, doc, pm, an, cdv, ct, osl, rfl, lk, hcd⟩ := F.ex
  refine fn_of lk hcd S len fun A outer s H vs Q E hr hsp => ?_
  obtain ⟨t, h, q⟩ := hbody cdv A outer s H vs Q E hr hsp
  exact ⟨t, h.nox, q⟩
theorem Fun.binds {x qual : Str} {st : Stmt} {f : Addr} {fd : FuncData} {ps : List Str} (F : Fun K x qual st f fd)
    (h : ∀ (kV doc pm : Value) (an : Option Addr) (cdv ct : Value) (us : List Value), us.length = ps.length → bindArgs (PySem.W.fnOf x qual (defArgs st) (defBody st) (defScope st) .none kV doc pm an cdv ct) ⟨us, []⟩ = pure (ps.zip us)) : Binds K fd ps [] := by
  obtain ⟨oc, od, kV, doc, pm, an, cdv, ct, osl, rfl, lk, hcd⟩ := F.ex
  exact .all (h kV doc pm an cdv ct)
theorem fun_mk {x qual : Str} {st : Stmt} {f : Addr} {oc : Value} {od an : Option Addr} {osl : Array (Option Value)} {kV doc pm cdv ct : Value} (l : K.lookup f = some ⟨oc, od, .func (PySem.W.fnOf x qual (defArgs st) (defBody st) (defScope st) .none kV doc pm an cdv ct), osl⟩)
    (c : PySem.W.codeIn K cdv qual = true) (k : PySem.W.keepIn K (.ref f) = true) : Fun K x qual st f (PySem.W.fnOf x qual (defArgs st) (defBody st) (defScope st) .none kV doc pm an cdv ct) := ⟨⟨oc, od, kV, doc, pm, an, cdv, ct, osl, rfl, l, c⟩, k⟩
end
section
variable {X : Cx}
end
def Same (H H' : Hp) : Prop := ∀ b o, H b = some o → H' b = some o
theorem Same.refl (H : Hp) : Same H H := fun _ _ h => h
theorem Same.trans {H H1 H2 : Hp} (a : Same H H1) (b : Same H1 H2) : Same H H2 := fun c o h => b c o (a c o h)
theorem Same.free {H H' : Hp} (e : Same H H') {l : Addr} (h : H' l = Option.none) : H l = Option.none := by
  cases q : H l with
  | none => rfl
  | some o =>
    rw [e l o q] at h
    cases h
theorem Same.seq {K : PySem.W.Frag} {H H' : Hp} {a : Addr} {xs : List V} (e : Same H H') (h : SqL K H a xs) : SqL K H' a xs := by
  rcases h with (h | ⟨o, h⟩) | h
  · exact .inl (.inl (e _ _ h))
  · exact .inl (.inr ⟨o, e _ _ h⟩)
  · exact .inr h
section
variable {κ : Type} [DecidableEq κ]
end
theorem Same.made {H H1 : Hp} {x dx C : Addr} (nx : H x = Option.none) (nd : H dx = Option.none) (k : ∀ b o, (upd (upd H dx (.own x)) x (.ins C dx [])) b = some o → b ≠ x → H1 b = some o) : Same H H1 := fun b o e =>
  k b o (by rw [upd_ne (ne_of_none e nx), upd_ne (ne_of_none e nd)]; exact e) (ne_of_none e nx)
end L2
set_option maxHeartbeats 4000000
namespace BD
open PySem L2
inductive D where
  | non | bl (b : Bool) | int (i : Int) | str (x : Str) | tup (ds : List D) | lst (ds : List D) | dct | fn (n : Nat) | exn (n : Nat) | obj (n : Nat) (ds : List D) | cell (n : Nat) | dic (ks : List (List Key)) (ds : List D)
inductive Out where
  | val (d : D) | exc (n : Nat)
inductive OutL where
  | vals (ds : List D) | exc (n : Nat)
inductive Sl where
  | sh (d : D) | own (ds : List D) | mp (ks : List (List Key)) (ds : List D)
abbrev Rho := List (Option Sl)
abbrev Ev := Rho → Option Out
abbrev EvL := Rho → Option OutL
inductive Fl where
  | nx (ρ : Rho) | rt (d : D) | bk (ρ : Rho) | ct (ρ : Rho) | exc (n : Nat)
abbrev Sv := Rho → Option Fl
def mutN (n : Nat) : Bool := decide (100 ≤ n)
structure Tab where
  fnA : Nat → Option Addr
  ex : Addr → Nat → HO → Prop
  clsV : Nat → Value
  oc : Nat → Option (Addr × List Str)
  cl : List Addr
  mt : Bool
  hd : Option Addr
variable {T : Tab} {K : PySem.W.Frag}
def SqF (K : PySem.W.Frag) (F : Addr → Prop) (H : Hp) (a : Addr) (xs : List V) : Prop :=
  (F a ∧ Rd H a (.lst xs)) ∨
    ∃ (o : Obj) (its : Array Value) (n : Nat), K.lookup a = some o ∧ o.cls = .type "list" ∧ o.dict = none ∧ o.data = .seq its n ∧ its.size ≤ sizeLine ∧ Vals xs its.toList
abbrev Still (o : HO) : Prop := (∀ xs, o ≠ .lst xs) ∧ ∀ kvs, o ≠ .dT kvs
theorem SqF.sq {F : Addr → Prop} {H : Hp} {a : Addr} {xs : List V} (h : SqF K F H a xs) : SqL K H a xs := by
  rcases h with ⟨_, h⟩ | h
  · exact .inl h
  · exact .inr h
mutual
inductive Rep (T : Tab) (K : PySem.W.Frag) (F : Addr → Prop) (H : Hp) : V → D → Prop
  | non : Rep T K F H .non .non
  | bl (b : Bool) : Rep T K F H (.bl b) (.bl b)
  | int (i : Int) : Rep T K F H (.int i) (.int i)
  | str (x : Str) : Rep T K F H (.str x) (.str x)
  | tup {a : Addr} {vs : List V} {ds : List D} (h : SqT K H a vs) (r : Reps T K F H vs ds) : Rep T K F H (.ref a) (.tup ds)
  | lst {a : Addr} {vs : List V} {ds : List D} (h : SqF K F H a vs) (r : Reps T K F H vs ds) : Rep T K F H (.ref a) (.lst ds)
  | dct {a : Addr} (h : H a = some (.dK [])) : Rep T K F H (.ref a) .dct
  | fn {a : Addr} {n : Nat} (h : T.fnA n = some a) : Rep T K F H (.ref a) (.fn n)
  | exn {a : Addr} {n : Nat} {o : HO} (h : H a = some o) (nl : Still o) (e : T.ex a n o) : Rep T K F H (.ref a) (.exn n)
  | obj {a C dx : Addr} {n : Nat} {fs : List (Str × V)} {ds : List D} (g : mutN n = false ∨ T.mt = true) (h : H a = some (.ins C dx fs)) (t : T.oc n = some (C, fs.map (·.1))) (r : Reps T K F H (fs.map (·.2)) ds) : Rep T K F H (.ref a) (.obj n ds)
  | cell {a : Addr} {n : Nat} (h : T.cl[n]? = some a) : Rep T K F H (.ref a) (.cell n)
  | dic {a : Addr} {kvs : List (List Key × V)} {ds : List D} (f : F a) (h : H a = some (.dT kvs)) (r : Reps T K F H (kvs.map (·.2)) ds) : Rep T K F H (.ref a) (.dic (kvs.map (·.1)) ds)
inductive Reps (T : Tab) (K : PySem.W.Frag) (F : Addr → Prop) (H : Hp) : List V → List D → Prop
  | nil : Reps T K F H [] []
  | cons {v : V} {vs : List V} {d : D} {ds : List D} (r : Rep T K F H v d) (t : Reps T K F H vs ds) : Reps T K F H (v :: vs) (d :: ds)
end
def Keep (F : Addr → Prop) (H H' : Hp) : Prop := ∀ a o, H a = some o → (F a ∨ Still o) → H' a = some o
def Ext (H H' : Hp) : Prop := ∀ a o, H a = some o → H' a = some o
theorem Ext.keep {F : Addr → Prop} {H H' : Hp} (h : Ext H H') : Keep F H H' := fun a o e _ => h a o e
theorem Ext.refl (H : Hp) : Ext H H := fun _ _ e => e
theorem Ext.trans {H H1 H2 : Hp} (a : Ext H H1) (b : Ext H1 H2) : Ext H H2 := fun x o e => b x o (a x o e)
theorem Ext.upd {H : Hp} {p : Addr} {o : HO} (h : H p = none) : Ext H (upd H p o) := fun a u e => by
  rw [upd_ne (ne_of_none e h)]; exact e
theorem Ext.none {H H' : Hp} (h : Ext H H') {a : Addr} (e : H' a = none) : H a = none := by
  cases q : H a with
  | none => rfl
  | some o => rw [h a o q] at e; cases e
theorem SqT.keep {F : Addr → Prop} {H H' : Hp} {a : Addr} {xs : List V} (k : Keep F H H') (h : SqT K H a xs) : SqT K H' a xs := by
  rcases h with (h | ⟨o, h⟩) | h
  · exact .inl (.inl (k a _ h (.inr ⟨(fun _ z => nomatch z), fun _ z => nomatch z⟩)))
  · exact .inl (.inr ⟨o, k a _ h (.inr ⟨(fun _ z => nomatch z), fun _ z => nomatch z⟩)⟩)
  · exact .inr h
theorem SqF.keep {F F' : Addr → Prop} {H H' : Hp} {a : Addr} {xs : List V} (k : Keep F H H') (f : ∀ a, F a → F' a) (h : SqF K F H a xs) : SqF K F' H' a xs := by
  rcases h with ⟨hf, h | ⟨o, h⟩⟩ | h
  · exact .inl ⟨f a hf, .inl (k a _ h (.inl hf))⟩
  · exact .inl ⟨f a hf, .inr ⟨o, k a _ h (.inl hf)⟩⟩
  · exact .inr h
mutual
theorem Rep.keep {F F' : Addr → Prop} {H H' : Hp} (k : Keep F H H') (f : ∀ a, F a → F' a) : ∀ {v : V} {d : D}, Rep T K F H v d → Rep T K F' H' v d
  | _, _, .non => .non
  | _, _, .bl b => .bl b
  | _, _, .int i => .int i
  | _, _, .str x => .str x
  | _, _, .tup h r => .tup (SqT.keep k h) (Reps.keep k f r)
  | _, _, .lst h r => .lst (h.keep k f) (Reps.keep k f r)
  | _, _, .dct h => .dct (k _ _ h (.inr ⟨(fun _ z => nomatch z), fun _ z => nomatch z⟩))
  | _, _, .fn h => .fn h
  | _, _, .exn h nl e => .exn (k _ _ h (.inr nl)) nl e
  | _, _, .obj g h t r => .obj g (k _ _ h (.inr ⟨(fun _ z => nomatch z), fun _ z => nomatch z⟩)) t (Reps.keep k f r)
  | _, _, .cell h => .cell h
  | _, _, .dic hf h r => .dic (f _ hf) (k _ _ h (.inl hf)) (Reps.keep k f r)
theorem Reps.keep {F F' : Addr → Prop} {H H' : Hp} (k : Keep F H H') (f : ∀ a, F a → F' a) : ∀ {vs : List V} {ds : List D}, Reps T K F H vs ds → Reps T K F' H' vs ds
  | _, _, .nil => .nil
  | _, _, .cons r t => .cons (Rep.keep k f r) (Reps.keep k f t)
end
theorem Reps.length {F : Addr → Prop} {H : Hp} : ∀ {vs : List V} {ds : List D}, Reps T K F H vs ds → vs.length = ds.length
  | _, _, .nil => rfl
  | _, _, .cons _ t => by simp [Reps.length t]
theorem Reps.get {F : Addr → Prop} {H : Hp} : ∀ {vs : List V} {ds : List D} {i : Nat} {d : D}, Reps T K F H vs ds → ds[i]? = some d → ∃ v, vs[i]? = some v ∧ Rep T K F H v d
  | _, _, _, _, .nil, e => by simp at e
  | _, _, 0, _, .cons r _, e => by simp at e; subst e; exact ⟨_, rfl, r⟩
  | _, _, i + 1, d, .cons _ t, e => by
    obtain ⟨v, h1, h2⟩ := Reps.get (i := i) (d := d) t (by simpa using e)
    exact ⟨v, by simpa using h1, h2⟩
theorem Reps.get' {F : Addr → Prop} {H : Hp} : ∀ {vs : List V} {ds : List D} {i : Nat} {v : V}, Reps T K F H vs ds → vs[i]? = some v → ∃ d, ds[i]? = some d ∧ Rep T K F H v d
  | _, _, _, _, .nil, e => by simp at e
  | _, _, 0, _, .cons r _, e => by simp at e; subst e; exact ⟨_, rfl, r⟩
  | _, _, i + 1, d, .cons _ t, e => by
    obtain ⟨v, h1, h2⟩ := Reps.get' (i := i) (v := d) t (by simpa using e)
    exact ⟨v, by simpa using h1, h2⟩
theorem Reps.append {F : Addr → Prop} {H : Hp} : ∀ {vs us : List V} {ds es : List D}, Reps T K F H vs ds → Reps T K F H us es → Reps T K F H (vs ++ us) (ds ++ es)
  | _, _, _, _, .nil, s => s
  | _, _, _, _, .cons r t, s => .cons r (Reps.append t s)
theorem Reps.set {F : Addr → Prop} {H : Hp} {v : V} {d : D} (r : Rep T K F H v d) : ∀ {vs : List V} {ds : List D} (i : Nat), Reps T K F H vs ds → Reps T K F H (vs.set i v) (ds.set i d)
  | _, _, _, .nil => .nil
  | _, _, 0, .cons _ t => .cons r t
  | _, _, i + 1, .cons q t => .cons q (Reps.set r i t)
theorem Reps.take {F : Addr → Prop} {H : Hp} : ∀ {vs : List V} {ds : List D} (n : Nat), Reps T K F H vs ds → Reps T K F H (vs.take n) (ds.take n)
  | _, _, 0, _ => .nil
  | _, _, _ + 1, .nil => .nil
  | _, _, n + 1, .cons r t => .cons r (Reps.take n t)
theorem Reps.drop {F : Addr → Prop} {H : Hp} : ∀ {vs : List V} {ds : List D} (n : Nat), Reps T K F H vs ds → Reps T K F H (vs.drop n) (ds.drop n)
  | _, _, 0, r => r
  | _, _, _ + 1, .nil => .nil
  | _, _, n + 1, .cons _ t => Reps.drop n t
theorem Reps.ints {F : Addr → Prop} {H : Hp} : ∀ (ns : List Int), Reps T K F H (ns.map V.int) (ns.map D.int)
  | [] => .nil
  | n :: ns => .cons (.int n) (Reps.ints ns)
structure Grow (H H' : Hp) (F F' : Addr → Prop) : Prop where
  ext : Ext H H'
  more : ∀ a, F a → F' a
  new : ∀ a, F' a → F a ∨ H a = none
  wf : ∀ a, F' a → H' a ≠ none
theorem Grow.refl {H : Hp} {F : Addr → Prop} (w : ∀ a, F a → H a ≠ none) : Grow H H F F := ⟨.refl H, fun _ h => h, fun _ h => .inl h, w⟩
theorem Grow.trans {H H1 H2 : Hp} {F F1 F2 : Addr → Prop} (a : Grow H H1 F F1) (b : Grow H1 H2 F1 F2) : Grow H H2 F F2 :=
  ⟨a.ext.trans b.ext, fun x h => b.more x (a.more x h), fun x h => by
    rcases b.new x h with h | h
    · exact a.new x h
    · exact .inr (a.ext.none h), b.wf⟩
theorem Rep.grow {H H' : Hp} {F F' : Addr → Prop} {v : V} {d : D} (g : Grow H H' F F') (r : Rep T K F H v d) : Rep T K F' H' v d := r.keep g.ext.keep g.more
theorem Reps.grow {H H' : Hp} {F F' : Addr → Prop} {v : List V} {d : List D} (g : Grow H H' F F') (r : Reps T K F H v d) : Reps T K F' H' v d := r.keep g.ext.keep g.more
theorem Grow.upd {H : Hp} {F : Addr → Prop} {p : Addr} {o : HO} (w : ∀ a, F a → H a ≠ none) (h : H p = none) : Grow H (L2.upd H p o) F F :=
  ⟨.upd h, fun _ x => x, fun _ x => .inl x, fun a x => by
    by_cases e : a = p
    · subst e; rw [upd_same]; simp
    · rw [upd_ne e]; exact w a x⟩
theorem Grow.updF {H : Hp} {F : Addr → Prop} {p : Addr} {o : HO} (w : ∀ a, F a → H a ≠ none) (h : H p = none) : Grow H (L2.upd H p o) F (fun a => F a ∨ a = p) :=
  ⟨.upd h, fun _ x => .inl x, fun a x => by
    rcases x with x | x
    · exact .inl x
    · subst x; exact .inr h, fun a x => by
    by_cases e : a = p
    · subst e; rw [upd_same]; simp
    · rw [upd_ne e]
      rcases x with x | x
      · exact w a x
      · exact absurd x e⟩
structure Later (H H' : Hp) (F F' : Addr → Prop) : Prop where
  keep : Keep F H H'
  more : ∀ a, F a → F' a
theorem Later.refl {H : Hp} {F : Addr → Prop} : Later H H F F := ⟨fun _ _ e _ => e, fun _ h => h⟩
theorem Grow.later {H H' : Hp} {F F' : Addr → Prop} (g : Grow H H' F F') : Later H H' F F' := ⟨g.ext.keep, g.more⟩
theorem Later.trans {H H1 H2 : Hp} {F F1 F2 : Addr → Prop} (a : Later H H1 F F1) (b : Later H1 H2 F1 F2) : Later H H2 F F2 :=
  ⟨fun x o e z => b.keep x o (a.keep x o e z) (z.imp (a.more x) fun z => z), fun x h => b.more x (a.more x h)⟩
structure Ent where
  H : Hp
  F : Addr → Prop
structure Rel (T : Tab) (K : PySem.W.Frag) (c : Ent) (ρ : Rho) (σ : St) (H : Hp) (F : Addr → Prop) : Prop where
  len : ρ.length = σ.length
  sh : ∀ (i : Nat) (d : D), ρ[i]? = some (some (.sh d)) → ∃ v, σ[i]? = some (some v) ∧ Rep T K F H v d
  own : ∀ (i : Nat) (ds : List D), ρ[i]? = some (some (.own ds)) → ∃ p vs, σ[i]? = some (some (.ref p)) ∧ H p = some (.lst vs) ∧ Reps T K F H vs ds ∧ ¬ F p ∧ c.H p = none ∧
    ∀ (j : Nat) (ds' : List D), ρ[j]? = some (some (.own ds')) → σ[j]? = some (some (.ref p)) → j = i
  mp : ∀ (i : Nat) (ks : List (List Key)) (ds : List D), ρ[i]? = some (some (.mp ks ds)) → ∃ p kvs, σ[i]? = some (some (.ref p)) ∧ H p = some (.dT kvs) ∧ kvs.map (·.1) = ks ∧ Reps T K F H (kvs.map (·.2)) ds ∧ ¬ F p ∧ c.H p = none ∧
    ∀ (j : Nat) (ks' : List (List Key)) (ds' : List D), ρ[j]? = some (some (.mp ks' ds')) → σ[j]? = some (some (.ref p)) → j = i
  ext : Ext c.H H
  f0 : ∀ a, c.F a → F a
  f1 : ∀ a, F a → c.F a ∨ c.H a = none
  wf : ∀ a, F a → H a ≠ none
theorem Rel.grow {c : Ent} {ρ : Rho} {σ : St} {H H' : Hp} {F F' : Addr → Prop} (r : Rel T K c ρ σ H F) (g : Grow H H' F F') : Rel T K c ρ σ H' F' where
  len := r.len
  sh := fun i d e => let ⟨v, h1, h2⟩ := r.sh i d e; ⟨v, h1, h2.grow g⟩
  own := fun i ds e => by
    obtain ⟨p, vs, h1, h2, h3, h4, h5, h6⟩ := r.own i ds e
    refine ⟨p, vs, h1, g.ext _ _ h2, h3.grow g, fun z => ?_, h5, h6⟩
    rcases g.new p z with z | z
    · exact h4 z
    · rw [h2] at z; cases z
  mp := fun i ks ds e => by
    obtain ⟨p, kvs, h1, h2, hk, h3, h4, h5, h6⟩ := r.mp i ks ds e
    refine ⟨p, kvs, h1, g.ext _ _ h2, hk, h3.grow g, fun z => ?_, h5, h6⟩
    rcases g.new p z with z | z
    · exact h4 z
    · rw [h2] at z; cases z
  ext := r.ext.trans g.ext
  f0 := fun a h => g.more a (r.f0 a h)
  f1 := fun a h => by
    rcases g.new a h with z | z
    · exact r.f1 a z
    · exact .inr (r.ext.none z)
  wf := g.wf
theorem Rel.growE {c : Ent} {ρ : Rho} {σ : St} {H : Hp} {F : Addr → Prop} (r : Rel T K c ρ σ H F) : Grow c.H H c.F F := ⟨r.ext, r.f0, r.f1, r.wf⟩
theorem get_set_ne {α : Type} {xs : List α} {i j : Nat} {x : α} (h : j ≠ i) : (xs.set i x)[j]? = xs[j]? := List.getElem?_set_ne (Ne.symm h)
theorem get_set_eq {α : Type} {xs : List α} {i : Nat} {x y : α} (h : (xs.set i x)[i]? = some y) : y = x ∧ i < xs.length := by
  rw [List.getElem?_set_self'] at h
  cases e : xs[i]? with
  | none => rw [e] at h; simp at h
  | some z =>
    rw [e] at h
    simp at h
    exact ⟨h.symm, (List.getElem?_eq_some_iff.mp e).1⟩
theorem Rel.set {c : Ent} {ρ : Rho} {σ : St} {H : Hp} {F : Addr → Prop} (r : Rel T K c ρ σ H F) {i : Nat} {v : V} {d : D} (h : Rep T K F H v d) : Rel T K c (ρ.set i (some (.sh d))) (σ.set i (some v)) H F where
  len := by rw [List.length_set, List.length_set]; exact r.len
  sh := fun j e q => by
    by_cases hj : j = i
    · subst hj
      obtain ⟨z, hl⟩ := get_set_eq q
      cases z
      refine ⟨v, ?_, h⟩
      rw [List.getElem?_set_self (by rw [← r.len]; exact hl)]
    · rw [get_set_ne hj] at q ⊢
      exact r.sh j e q
  own := fun j ds q => by
    by_cases hj : j = i
    · subst hj
      obtain ⟨z, hl⟩ := get_set_eq q
      cases z
    · rw [get_set_ne hj] at q ⊢
      obtain ⟨p, vs, h1, h2, h3, h4, h5, h6⟩ := r.own j ds q
      refine ⟨p, vs, h1, h2, h3, h4, h5, fun k ds' q1 q2 => ?_⟩
      by_cases hk : k = i
      · subst hk
        obtain ⟨z, hl⟩ := get_set_eq q1
        cases z
      · rw [get_set_ne hk] at q1 q2
        exact h6 k ds' q1 q2
  mp := fun j ks ds q => by
    by_cases hj : j = i
    · subst hj
      obtain ⟨z, hl⟩ := get_set_eq q
      cases z
    · rw [get_set_ne hj] at q ⊢
      obtain ⟨p, kvs, h1, h2, hk, h3, h4, h5, h6⟩ := r.mp j ks ds q
      refine ⟨p, kvs, h1, h2, hk, h3, h4, h5, fun k ks' ds' q1 q2 => ?_⟩
      by_cases hk : k = i
      · subst hk
        obtain ⟨z, hl⟩ := get_set_eq q1
        cases z
      · rw [get_set_ne hk] at q1 q2
        exact h6 k ks' ds' q1 q2
  ext := r.ext
  f0 := r.f0
  f1 := r.f1
  wf := r.wf
theorem Rel.setOwn {c : Ent} {ρ : Rho} {σ : St} {H : Hp} {F : Addr → Prop} (r : Rel T K c ρ σ H F) {i : Nat} {p : Addr} {vs : List V} {ds : List D} (hp : H p = some (.lst vs)) (h : Reps T K F H vs ds) (nf : ¬ F p) (n0 : c.H p = none)
    (nj : ∀ (j : Nat) (ds' : List D), ρ[j]? = some (some (.own ds')) → σ[j]? ≠ some (some (.ref p))) : Rel T K c (ρ.set i (some (.own ds))) (σ.set i (some (.ref p))) H F where
  len := by rw [List.length_set, List.length_set]; exact r.len
  sh := fun j e q => by
    by_cases hj : j = i
    · subst hj
      obtain ⟨z, hl⟩ := get_set_eq q
      cases z
    · rw [get_set_ne hj] at q ⊢
      exact r.sh j e q
  own := fun j ds' q => by
    by_cases hj : j = i
    · subst hj
      obtain ⟨z, hl⟩ := get_set_eq q
      cases z
      refine ⟨p, vs, ?_, hp, h, nf, n0, fun k ds' q1 q2 => ?_⟩
      · rw [List.getElem?_set_self (by rw [← r.len]; exact hl)]
      · by_cases hk : k = j
        · exact hk
        · rw [get_set_ne hk] at q1 q2
          exact absurd q2 (nj k ds' q1)
    · rw [get_set_ne hj] at q ⊢
      obtain ⟨p', vs', h1, h2, h3, h4, h5, h6⟩ := r.own j ds' q
      refine ⟨p', vs', h1, h2, h3, h4, h5, fun k ds' q1 q2 => ?_⟩
      by_cases hk : k = i
      · subst hk
        obtain ⟨z, hl⟩ := get_set_eq q2
        have : p' = p := by cases z; rfl
        subst this
        exact absurd h1 (nj j _ q)
      · rw [get_set_ne hk] at q1 q2
        exact h6 k ds' q1 q2
  mp := fun j ks ds q => by
    by_cases hj : j = i
    · subst hj
      obtain ⟨z, hl⟩ := get_set_eq q
      cases z
    · rw [get_set_ne hj] at q ⊢
      obtain ⟨p, kvs, h1, h2, hk, h3, h4, h5, h6⟩ := r.mp j ks ds q
      refine ⟨p, kvs, h1, h2, hk, h3, h4, h5, fun k ks' ds' q1 q2 => ?_⟩
      by_cases hk : k = i
      · subst hk
        obtain ⟨z, hl⟩ := get_set_eq q1
        cases z
      · rw [get_set_ne hk] at q1 q2
        exact h6 k ks' ds' q1 q2
  ext := r.ext
  f0 := r.f0
  f1 := r.f1
  wf := r.wf
theorem Rel.drop {c : Ent} {ρ : Rho} {σ : St} {H : Hp} {F : Addr → Prop} (r : Rel T K c ρ σ H F) {i : Nat} {o : Option V} : Rel T K c (ρ.set i none) (σ.set i o) H F where
  len := by rw [List.length_set, List.length_set]; exact r.len
  sh := fun j e q => by
    by_cases hj : j = i
    · subst hj
      obtain ⟨z, hl⟩ := get_set_eq q
      cases z
    · rw [get_set_ne hj] at q ⊢
      exact r.sh j e q
  own := fun j ds q => by
    by_cases hj : j = i
    · subst hj
      obtain ⟨z, hl⟩ := get_set_eq q
      cases z
    · rw [get_set_ne hj] at q ⊢
      obtain ⟨p, vs, h1, h2, h3, h4, h5, h6⟩ := r.own j ds q
      refine ⟨p, vs, h1, h2, h3, h4, h5, fun k ds' q1 q2 => ?_⟩
      by_cases hk : k = i
      · subst hk
        obtain ⟨z, hl⟩ := get_set_eq q1
        cases z
      · rw [get_set_ne hk] at q1 q2
        exact h6 k ds' q1 q2
  mp := fun j ks ds q => by
    by_cases hj : j = i
    · subst hj
      obtain ⟨z, hl⟩ := get_set_eq q
      cases z
    · rw [get_set_ne hj] at q ⊢
      obtain ⟨p, kvs, h1, h2, hk, h3, h4, h5, h6⟩ := r.mp j ks ds q
      refine ⟨p, kvs, h1, h2, hk, h3, h4, h5, fun k ks' ds' q1 q2 => ?_⟩
      by_cases hk : k = i
      · subst hk
        obtain ⟨z, hl⟩ := get_set_eq q1
        cases z
      · rw [get_set_ne hk] at q1 q2
        exact h6 k ks' ds' q1 q2
  ext := r.ext
  f0 := r.f0
  f1 := r.f1
  wf := r.wf
theorem Rel.freeze {c : Ent} {ρ : Rho} {σ : St} {H : Hp} {F : Addr → Prop} (r : Rel T K c ρ σ H F) {i : Nat} {ds : List D} (e : ρ[i]? = some (some (.own ds))) : ∃ F', (∀ a, F a → F' a) ∧ Rel T K c (ρ.set i (some (.sh (.lst ds)))) σ H F' := by
  obtain ⟨p, vs, h1, h2, h3, h4, h5, h6⟩ := r.own i ds e
  have k : Keep F H H := fun a o e _ => e
  have f : ∀ a, F a → (fun a => F a ∨ a = p) a := fun a h => .inl h
  refine ⟨fun a => F a ∨ a = p, f, ?_, fun j e q => ?_, fun j ds' q => ?_, fun j ks ds' q => ?_, r.ext, fun a h => .inl (r.f0 a h), fun a h => ?_, fun a h => ?_⟩
  · rw [List.length_set]; exact r.len
  · by_cases hj : j = i
    · subst hj
      obtain ⟨z, hl⟩ := get_set_eq q
      cases z
      exact ⟨_, h1, .lst (.inl ⟨.inr rfl, .inl h2⟩) (h3.keep k f)⟩
    · rw [get_set_ne hj] at q
      obtain ⟨v, q1, q2⟩ := r.sh j e q
      exact ⟨v, q1, q2.keep k f⟩
  · by_cases hj : j = i
    · subst hj
      obtain ⟨z, hl⟩ := get_set_eq q
      cases z
    · rw [get_set_ne hj] at q
      obtain ⟨p', vs', q1, q2, q3, q4, q5, q6⟩ := r.own j ds' q
      refine ⟨p', vs', q1, q2, q3.keep k f, ?_, q5, fun m ds'' w1 w2 => ?_⟩
      · rintro (z | z)
        · exact q4 z
        · subst z
          exact hj (h6 j ds' q q1)
      · by_cases hm : m = i
        · subst hm
          obtain ⟨z, hl⟩ := get_set_eq w1
          cases z
        · rw [get_set_ne hm] at w1
          exact q6 m ds'' w1 w2
  · by_cases hj : j = i
    · subst hj
      obtain ⟨z, hl⟩ := get_set_eq q
      cases z
    · rw [get_set_ne hj] at q
      obtain ⟨p', kvs, q1, q2, qk, q3, q4, q5, q6⟩ := r.mp j ks ds' q
      refine ⟨p', kvs, q1, q2, qk, q3.keep k f, ?_, q5, fun m ks'' ds'' w1 w2 => ?_⟩
      · rintro (z | z)
        · exact q4 z
        · subst z
          rw [h2] at q2
          cases q2
      · by_cases hm : m = i
        · subst hm
          obtain ⟨z, hl⟩ := get_set_eq w1
          cases z
        · rw [get_set_ne hm] at w1
          exact q6 m ks'' ds'' w1 w2
  · rcases h with h | h
    · exact r.f1 a h
    · subst h; exact .inr h5
  · rcases h with h | h
    · exact r.wf a h
    · subst h; rw [h2]; simp
theorem Rel.change {c : Ent} {ρ : Rho} {σ : St} {H : Hp} {F : Addr → Prop} (r : Rel T K c ρ σ H F) {i : Nat} {ds ds' : List D} {p : Addr} {vs' : List V} (e : ρ[i]? = some (some (.own ds))) (hp : σ[i]? = some (some (.ref p))) (h : Reps T K F H vs' ds') :
    Keep F H (upd H p (.lst vs')) ∧ Rel T K c (ρ.set i (some (.own ds'))) σ (upd H p (.lst vs')) F := by
  obtain ⟨p', vs, h1, h2, h3, h4, h5, h6⟩ := r.own i ds e
  have : p' = p := by rw [hp] at h1; cases h1; rfl
  subst this
  have k : Keep F H (upd H p' (.lst vs')) := fun a o q z => by
    by_cases ha : a = p'
    · subst ha
      rcases z with z | z
      · exact absurd z h4
      · rw [h2] at q; cases q; exact absurd rfl (z.1 vs)
    · rw [upd_ne ha]; exact q
  refine ⟨k, by rw [List.length_set]; exact r.len, fun j d q => ?_, fun j es q => ?_, fun j ks es q => ?_, fun a o q => ?_, r.f0, r.f1, fun a q => ?_⟩
  · by_cases hj : j = i
    · subst hj
      obtain ⟨z, _⟩ := get_set_eq q
      cases z
    · rw [get_set_ne hj] at q
      obtain ⟨v, q1, q2⟩ := r.sh j d q
      exact ⟨v, q1, q2.keep k fun _ z => z⟩
  · by_cases hj : j = i
    · subst hj
      obtain ⟨z, _⟩ := get_set_eq q
      cases z
      refine ⟨p', vs', h1, upd_same, h.keep k fun _ z => z, h4, h5, fun m es w1 w2 => ?_⟩
      by_cases hm : m = j
      · exact hm
      · rw [get_set_ne hm] at w1
        exact h6 m es w1 w2
    · rw [get_set_ne hj] at q
      obtain ⟨p2, vs2, q1, q2, q3, q4, q5, q6⟩ := r.own j es q
      have hne : p2 ≠ p' := fun z => by subst z; exact hj (h6 j es q q1)
      refine ⟨p2, vs2, q1, by rw [upd_ne hne]; exact q2, q3.keep k fun _ z => z, q4, q5, fun m es' w1 w2 => ?_⟩
      by_cases hm : m = i
      · subst hm
        rw [h1] at w2
        exact absurd (by cases w2; rfl) hne
      · rw [get_set_ne hm] at w1
        exact q6 m es' w1 w2
  · by_cases hj : j = i
    · subst hj
      obtain ⟨z, _⟩ := get_set_eq q
      cases z
    · rw [get_set_ne hj] at q
      obtain ⟨p2, kvs2, q1, q2, qk, q3, q4, q5, q6⟩ := r.mp j ks es q
      have hne : p2 ≠ p' := fun z => by subst z; rw [h2] at q2; cases q2
      refine ⟨p2, kvs2, q1, by rw [upd_ne hne]; exact q2, qk, q3.keep k fun _ z => z, q4, q5, fun m ks' es' w1 w2 => ?_⟩
      by_cases hm : m = i
      · subst hm
        obtain ⟨z, _⟩ := get_set_eq w1
        cases z
      · rw [get_set_ne hm] at w1
        exact q6 m ks' es' w1 w2
  · by_cases ha : a = p'
    · subst ha; rw [h5] at q; cases q
    · rw [upd_ne ha]; exact r.ext a o q
  · by_cases ha : a = p'
    · subst ha; rw [upd_same]; simp
    · rw [upd_ne ha]; exact r.wf a q
end BD
namespace BD
open PySem L2
variable {T : Tab} {K : PySem.W.Frag}
theorem PE.imp {X : Cx} {e : Expr} {t t' : TE} (h : PE X e t) (w : ∀ σ H Q, t' σ H Q → t σ H Q) : PE X e t' := fun pins s σ H Q I q => h pins s σ H Q I (w σ H Q q)
theorem PT.imp {X : Cx} {e : Expr} {t t' : TT} (h : PT X e t) (w : ∀ σ H Q, t' σ H Q → t σ H Q) : PT X e t' := fun pins s σ H Q I q => h pins s σ H Q I (w σ H Q q)
theorem PW.imp {X : Cx} {e : Expr} {t t' : TT} (h : PW X e t) (w : ∀ σ H Q, t' σ H Q → t σ H Q) : PW X e t' := fun wh pins s σ H Q I q => h wh pins s σ H Q I (w σ H Q q)
theorem PA.imp {X : Cx} {e : List Expr} {t t' : TA} (h : PA X e t) (w : ∀ σ H Q, t' σ H Q → t σ H Q) : PA X e t' := fun pos pins s σ H Q I q => h pos pins s σ H Q I (w σ H Q q)
theorem PS.imp {X : Cx} {e : Stmt} {t t' : TS} (h : PS X e t) (w : ∀ D σ H, t' D σ H → t D σ H) : PS X e t' := fun pins s σ H D I q => h pins s σ H D I (w D σ H q)
theorem PSs.imp {X : Cx} {e : List Stmt} {t t' : TS} (h : PSs X e t) (w : ∀ D σ H, t' D σ H → t D σ H) : PSs X e t' := fun pins s σ H D I q => h pins s σ H D I (w D σ H q)
theorem PG.imp {X : Cx} {e : Expr} {t t' : TG} (h : PG X e t) (w : ∀ v σ H Q, t' v σ H Q → t v σ H Q) : PG X e t' := fun pins s σ H v u Q I r q => h pins s σ H v u Q I r (w v σ H Q q)
theorem OpR.imp {X : Cx} {f : Value → Value → Sem Value} {r r' : R2} (h : OpR X f r) (w : ∀ x y H Q, r' x y H Q → r x y H Q) : OpR X f r' := fun pins s σ H x y v u Q I rx ry q => h pins s σ H x y v u Q I rx ry (w x y H Q q)
theorem UnR.imp {X : Cx} {f : Value → Sem Value} {r r' : V → Hp → VK → Prop} (h : UnR X f r) (w : ∀ x H Q, r' x H Q → r x H Q) : UnR X f r' := fun pins s σ H x v Q I rx q => h pins s σ H x v Q I rx (w x H Q q)
theorem CallR.imp {X : Cx} {f : Value} {r r' : List V → Hp → VK → Prop} (h : CallR X f r) (w : ∀ x H Q, r' x H Q → r x H Q) : CallR X f r' := fun pins s σ H x v Q I rx q => h pins s σ H x v Q I rx (w x H Q q)
def Then (T : Tab) (K : PySem.W.Frag) (E : XK) (H : Hp) (F : Addr → Prop) (Q : VK) : Out → Prop
  | .val d => ∀ v H' F', Grow H H' F F' → Rep T K F' H' v d → Q v H'
  | .exc n => ∀ H', Ext H H' → E (T.clsV n) none H'
theorem Then.grow {E : XK} {H H1 : Hp} {F F1 : Addr → Prop} {Q : VK} {o : Out} (g : Grow H H1 F F1) (h : Then T K E H F Q o) : Then T K E H1 F1 Q o := by
  cases o with
  | val d => exact fun v H' F' g' r => h v H' F' (g.trans g') r
  | exc n => exact fun H' e => h H' (g.ext.trans e)
def tD (T : Tab) (K : PySem.W.Frag) (E : XK) (f : Ev) : TE := fun σ H Q => ∃ c ρ F out, Rel T K c ρ σ H F ∧ f ρ = some out ∧ Then T K E H F Q out
def ThenB (T : Tab) (E : XK) (H : Hp) (F : Addr → Prop) (Q : Bool → Hp → Prop) : Out → Prop
  | .val (.bl b) => ∀ H' F', Grow H H' F F' → Q b H'
  | .val _ => False
  | .exc n => ∀ H', Ext H H' → E (T.clsV n) none H'
def tDT (T : Tab) (K : PySem.W.Frag) (E : XK) (f : Ev) : TT := fun σ H Q => ∃ c ρ F out, Rel T K c ρ σ H F ∧ f ρ = some out ∧ ThenB T E H F Q out
theorem ThenB.grow {E : XK} {H H1 : Hp} {F F1 : Addr → Prop} {Q : Bool → Hp → Prop} {o : Out} (g : Grow H H1 F F1) (h : ThenB T E H F Q o) : ThenB T E H1 F1 Q o := by
  cases o with
  | val d =>
    cases d with
    | bl b => exact fun H' F' g' => h H' F' (g.trans g')
    | _ => exact h
  | exc n => exact fun H' e => h H' (g.ext.trans e)
def ThenL (T : Tab) (K : PySem.W.Frag) (E : XK) (H : Hp) (F : Addr → Prop) (Q : List V → Hp → Prop) : OutL → Prop
  | .vals ds => ∀ vs H' F', Grow H H' F F' → Reps T K F' H' vs ds → Q vs H'
  | .exc n => ∀ H', Ext H H' → E (T.clsV n) none H'
theorem ThenL.grow {E : XK} {H H1 : Hp} {F F1 : Addr → Prop} {Q : List V → Hp → Prop} {o : OutL} (g : Grow H H1 F F1) (h : ThenL T K E H F Q o) : ThenL T K E H1 F1 Q o := by
  cases o with
  | vals d => exact fun v H' F' g' r => h v H' F' (g.trans g') r
  | exc n => exact fun H' e => h H' (g.ext.trans e)
def tDA (T : Tab) (K : PySem.W.Frag) (E : XK) (f : EvL) : TA := fun σ H Q => ∃ c ρ F out, Rel T K c ρ σ H F ∧ f ρ = some out ∧ ThenL T K E H F Q out
def obnd (o : Option Out) (k : D → Option Out) : Option Out := match o with
  | some (.val d) => k d
  | some (.exc n) => some (.exc n)
  | none => none
def obndL (o : Option Out) (k : D → Option OutL) : Option OutL := match o with
  | some (.val d) => k d
  | some (.exc n) => some (.exc n)
  | none => none
def lbnd (o : Option OutL) (k : List D → Option Out) : Option Out := match o with
  | some (.vals d) => k d
  | some (.exc n) => some (.exc n)
  | none => none
def lbndL (o : Option OutL) (k : List D → Option OutL) : Option OutL := match o with
  | some (.vals d) => k d
  | some (.exc n) => some (.exc n)
  | none => none
theorem obnd_some {o : Option Out} {k : D → Option Out} {out : Out} (h : obnd o k = some out) : (∃ d, o = some (.val d) ∧ k d = some out) ∨ ∃ n, o = some (.exc n) ∧ out = .exc n := by
  unfold obnd at h
  split at h
  · exact .inl ⟨_, rfl, h⟩
  · cases h; exact .inr ⟨_, rfl, rfl⟩
  · cases h
theorem lbnd_some {o : Option OutL} {k : List D → Option Out} {out : Out} (h : lbnd o k = some out) : (∃ d, o = some (.vals d) ∧ k d = some out) ∨ ∃ n, o = some (.exc n) ∧ out = .exc n := by
  unfold lbnd at h
  split at h
  · exact .inl ⟨_, rfl, h⟩
  · cases h; exact .inr ⟨_, rfl, rfl⟩
  · cases h
section
variable {E : XK} {c : Ent} {ρ : Rho} {σ : L2.St} {H : Hp} {F : Addr → Prop}
theorem tD_bind {f : Ev} {k : D → Option Out} {Q : VK} {out : Out} (r : Rel T K c ρ σ H F) (e : obnd (f ρ) k = some out) (hv : ∀ d v H' F', Grow H H' F F' → Rep T K F' H' v d → k d = some out → Q v H')
    (hx : ∀ n, out = .exc n → ∀ H', Ext H H' → E (T.clsV n) none H') : tD T K E f σ H Q := by
  rcases obnd_some e with ⟨d, e1, e2⟩ | ⟨n, e1, e2⟩
  · exact ⟨c, ρ, F, _, r, e1, fun v H' F' g rp => hv d v H' F' g rp e2⟩
  · exact ⟨c, ρ, F, _, r, e1, hx n e2⟩
theorem tDA_bind {f : EvL} {k : List D → Option Out} {Q : List V → Hp → Prop} {out : Out} (r : Rel T K c ρ σ H F) (e : lbnd (f ρ) k = some out) (hv : ∀ d v H' F', Grow H H' F F' → Reps T K F' H' v d → k d = some out → Q v H')
    (hx : ∀ n, out = .exc n → ∀ H', Ext H H' → E (T.clsV n) none H') : tDA T K E f σ H Q := by
  rcases lbnd_some e with ⟨d, e1, e2⟩ | ⟨n, e1, e2⟩
  · exact ⟨c, ρ, F, _, r, e1, fun v H' F' g rp => hv d v H' F' g rp e2⟩
  · exact ⟨c, ρ, F, _, r, e1, hx n e2⟩
theorem Then.exc {Q : VK} {out : Out} (h : Then T K E H F Q out) : ∀ n, out = .exc n → ∀ H', Ext H H' → E (T.clsV n) none H' := fun n e => by subst e; exact h
theorem ThenB.exc {Q : Bool → Hp → Prop} {out : Out} (h : ThenB T E H F Q out) : ∀ n, out = .exc n → ∀ H', Ext H H' → E (T.clsV n) none H' := fun n e => by subst e; exact h
end
section
variable {X : Cx} {E : XK} {a b e : Expr} {es : List Expr} {pos : Pos}
def eVar (i : Nat) : Ev := fun ρ => match ρ[i]? with
  | some (some (.sh d)) => some (.val d)
  | _ => none
theorem de_var {i : Nat} (h : PE X e (tVar i)) : PE X e (tD T K E (eVar i)) := PE.imp h fun σ H Q ⟨c, ρ, F, out, r, e, th⟩ => by
  unfold eVar at e
  split at e
  · rename_i d q
    cases e
    obtain ⟨v, h1, h2⟩ := r.sh i d q
    exact ⟨v, h1, th v H F (.refl r.wf) h2⟩
  · cases e
def eC (d : D) : Ev := fun _ => some (.val d)
theorem de_int {i j pos} : PE X (.Constant (.int i) j pos) (tD T K E (eC (.int i))) := PE.imp pe_int fun σ H Q ⟨c, ρ, F, out, r, e, th⟩ => by cases e; exact th _ H F (.refl r.wf) (.int i)
theorem de_bl {i j pos} : PE X (.Constant (.bool i) j pos) (tD T K E (eC (.bl i))) := PE.imp pe_bl fun σ H Q ⟨c, ρ, F, out, r, e, th⟩ => by cases e; exact th _ H F (.refl r.wf) (.bl i)
theorem de_non {j pos} : PE X (.Constant .none j pos) (tD T K E (eC .non)) := PE.imp pe_non fun σ H Q ⟨c, ρ, F, out, r, e, th⟩ => by cases e; exact th _ H F (.refl r.wf) .non
theorem de_str {i j pos} : PE X (.Constant (.str i) j pos) (tD T K E (eC (.str i))) := PE.imp pe_str fun σ H Q ⟨c, ρ, F, out, r, e, th⟩ => by cases e; exact th _ H F (.refl r.wf) (.str i)
theorem de_glob {x : Str} {v : V} {u : Value} {d : D} (hg : Gl X x) (hm : X.mg x = some u) (r : RelV v u) (hr : ∀ F H, Rep T K F H v d) (hd : (x == ("__debug__" : Str)) = false := by decide) : PE X (.Name x pos) (tD T K E (eC d)) :=
  PE.imp (pe_glob hg hm r hd) fun σ H Q ⟨c, ρ, F, out, r, e, th⟩ => by cases e; exact th _ H F (.refl r.wf) (hr F H)
def aNil : EvL := fun _ => some (.vals [])
def aCons (f : Ev) (g : EvL) : EvL := fun ρ => obndL (f ρ) fun d => lbndL (g ρ) fun ds => some (.vals (d :: ds))
theorem da_nil : PA X [] (tDA T K E aNil) := PA.imp pa_nil fun σ H Q ⟨c, ρ, F, out, r, e, th⟩ => by cases e; exact th _ H F (.refl r.wf) .nil
theorem da_cons {f : Ev} {g : EvL} (ha : PE X e (tD T K E f)) (hr : PA X es (tDA T K E g)) (hs : starEach (e :: es) X.env = (false, eval e X.env) :: starEach es X.env := by rfl) : PA X (e :: es) (tDA T K E (aCons f g)) :=
  PA.imp (pa_cons ha hr hs) fun σ H Q ⟨c, ρ, F, out, r, e, th⟩ => by
    unfold aCons obndL at e
    split at e
    · rename_i d q
      refine ⟨c, ρ, F, _, r, q, fun v H1 F1 g1 r1 => ?_⟩
      unfold lbndL at e
      split at e
      · rename_i ds q2
        cases e
        exact ⟨c, ρ, F1, _, r.grow g1, q2, fun vs H2 F2 g2 r2 => th _ H2 F2 (g1.trans g2) (.cons (r1.grow g2) r2)⟩
      · rename_i n q2
        cases e
        exact ⟨c, ρ, F1, _, r.grow g1, q2, fun H2 e2 => th H2 (g1.ext.trans e2)⟩
      · cases e
    · rename_i n q
      cases e
      exact ⟨c, ρ, F, _, r, q, fun H2 e2 => th H2 e2⟩
    · cases e
def smallL (ds : List D) : Bool := decide (ds.length ≤ 1000000)
theorem smallL_ok {F : Addr → Prop} {H : Hp} {ds : List D} {vs : List V} (r : Reps T K F H vs ds) (h : smallL ds = true) : vs.length < sizeLine := by
  have h := of_decide_eq_true h
  rw [r.length]
  exact Nat.lt_of_le_of_lt h (by decide)
def eTup (g : EvL) : Ev := fun ρ => lbnd (g ρ) fun ds => if smallL ds then some (.val (.tup ds)) else none
theorem de_tup {g : EvL} {x1} (h : PA X es (tDA T K E g)) : PE X (.Tuple es x1 pos) (tD T K E (eTup g)) := PE.imp (pe_tup h) fun σ H Q ⟨c, ρ, F, out, r, e, th⟩ => by
  refine tDA_bind r e (fun ds vs H1 F1 g1 r1 e1 => ?_) th.exc
  split at e1
  · rename_i hs
    cases e1
    refine ⟨Nat.le_of_lt (smallL_ok r1 hs), fun p hp => ?_⟩
    have g2 := Grow.upd (o := .tup vs) (r.grow g1).wf hp
    exact th _ _ _ (g1.trans g2) (.tup (SqT.of upd_same) (r1.grow g2))
  · cases e1
def tDF (T : Tab) (K : PySem.W.Frag) (E : XK) (f : EvL) : TE := fun σ H Q => ∃ c ρ F out, Rel T K c ρ σ H F ∧ f ρ = some out ∧
  match out with
  | .vals ds => ∀ p vs H1 H' F', Grow H H1 F F' → H1 p = none → H' = upd H1 p (.lst vs) → Reps T K F' H' vs ds → Q (.ref p) H'
  | .exc n => ∀ H', Ext H H' → E (T.clsV n) none H'
def eFr (f : EvL) : Ev := fun ρ => lbnd (f ρ) fun ds => some (.val (.lst ds))
theorem de_fr {f : EvL} (h : PE X e (tDF T K E f)) : PE X e (tD T K E (eFr f)) := PE.imp h fun σ H Q ⟨c, ρ, F, out, r, e, th⟩ => by
  rcases lbnd_some e with ⟨d, e1, e2⟩ | ⟨n, e1, e2⟩
  · cases e2
    refine ⟨c, ρ, F, _, r, e1, fun p vs H1 H' F' g hp eH rp => ?_⟩
    subst eH
    have g2 := Grow.updF (o := .lst vs) (r.grow g).wf hp
    exact th _ _ _ (g.trans g2) (.lst (.inl ⟨.inr rfl, .inl upd_same⟩) (rp.keep (fun _ _ z _ => z) g2.more))
  · subst e2
    exact ⟨c, ρ, F, _, r, e1, th⟩
def lLst (g : EvL) : EvL := fun ρ => lbndL (g ρ) fun ds => if smallL ds then some (.vals ds) else none
theorem df_lst {g : EvL} (h : PA X es (tDA T K E g)) : PE X (.List es pos) (tDF T K E (lLst g)) := PE.imp (pe_lst h) fun σ H Q ⟨c, ρ, F, out, r, e, th⟩ => by
  unfold lLst lbndL at e
  split at e
  · rename_i ds q
    dsimp only at e
    split at e
    · rename_i hs
      cases e
      refine ⟨c, ρ, F, _, r, q, fun vs H1 F1 g1 r1 => ⟨Nat.le_of_lt (smallL_ok r1 hs), fun p hp => ?_⟩⟩
      have g2 := Grow.upd (o := .lst vs) (r.grow g1).wf hp
      exact th p vs H1 _ F1 g1 hp rfl (r1.grow g2)
    · cases e
  · rename_i n q
    cases e
    exact ⟨c, ρ, F, _, r, q, th⟩
  · cases e
def ov (o : Option D) : Option Out := o.map .val
def rD (T : Tab) (K : PySem.W.Frag) (g : D → D → Option D) : R2 := fun x y H Q => ∃ F dx dy d, (∀ a, F a → H a ≠ none) ∧ Rep T K F H x dx ∧ Rep T K F H y dy ∧ g dx dy = some d ∧ ∀ v H' F', Grow H H' F F' → Rep T K F' H' v d → Q v H'
def eOp (g : D → D → Option D) (fa fb : Ev) : Ev := fun ρ => obnd (fa ρ) fun x => obnd (fb ρ) fun y => ov (g x y)
theorem tOp_of {g : D → D → Option D} {fa fb : Ev} {σ : L2.St} {H : Hp} {Q : VK} (h : tD T K E (eOp g fa fb) σ H Q) : tOp (rD T K g) (tD T K E fa) (tD T K E fb) σ H Q := by
  obtain ⟨c, ρ, F, out, r, e, th⟩ := h
  refine tD_bind r e (fun d v H1 F1 g1 r1 e1 => ?_) th.exc
  have th1 := th.grow g1
  refine tD_bind (r.grow g1) e1 (fun d2 v2 H2 F2 g2 r2 e2 => ?_) th1.exc
  unfold ov at e2
  cases q : g d d2 with
  | none => rw [q] at e2; cases e2
  | some z =>
    rw [q] at e2
    cases e2
    exact ⟨F2, d, d2, z, g2.wf, r1.grow g2, r2, q, th1.grow g2⟩
theorem de_op {op : Operator} {g : D → D → Option D} {fa fb : Ev} (ho : OpR X (binaryOp op) (rD T K g)) (ha : PE X a (tD T K E fa)) (hb : PE X b (tD T K E fb)) : PE X (.BinOp a op b pos) (tD T K E (eOp g fa fb)) :=
  PE.imp (pe_op ho ha hb) fun σ H Q h => tOp_of h
theorem de_cmp {op : CmpOp} {g : D → D → Option D} {fa fb : Ev} (ho : OpR X (compareOp op) (rD T K g)) (ha : PE X a (tD T K E fa)) (hb : PE X b (tD T K E fb)) (hm : behindInMarks op b = false) : PE X (.Compare a [op] [b] pos) (tD T K E (eOp g fa fb)) :=
  PE.imp (pe_cmpR ho ha hb hm) fun σ H Q h => tOp_of h
def i2 (g : Int → Int → Option D) : D → D → Option D
  | .int i, .int j => g i j
  | _, _ => none
theorem rD_i2 {g : Int → Int → Option D} {x y : V} {H : Hp} {Q : VK} (h : rD T K (i2 g) x y H Q) : ∃ i j d F, x = .int i ∧ y = .int j ∧ g i j = some d ∧ (∀ a, F a → H a ≠ none) ∧ ∀ v H' F', Grow H H' F F' → Rep T K F' H' v d → Q v H' := by
  obtain ⟨F, dx, dy, d, wf, r1, r2, e, k⟩ := h
  unfold i2 at e
  split at e
  · cases r1; cases r2
    exact ⟨_, _, d, F, rfl, rfl, e, wf, k⟩
  · cases e
def smallI (i : Int) : Bool := decide (i.natAbs.log2 < 60000000)
theorem smallI_mul {i j : Int} (h1 : smallI i = true) (h2 : smallI j = true) : IntMulOk i j := by
  have h1 := of_decide_eq_true h1
  have h2 := of_decide_eq_true h2
  refine IntMulOk.of_le (m := 60000001) (n := 60000001) ?_ ?_ (by decide)
  · unfold Builtin.Int.intBits; split <;> omega
  · unfold Builtin.Int.intBits; split <;> omega
def addI (i j : Int) : Option D := some (.int (i + j))
def subI (i j : Int) : Option D := some (.int (i - j))
def mulI (i j : Int) : Option D := if smallI i && smallI j then some (.int (i * j)) else none
def divI (i j : Int) : Option D := if decide (j ≠ 0) && decide (j.natAbs.log2 < 9000) then some (.int (i.fdiv j)) else none
def modI (i j : Int) : Option D := if decide (j ≠ 0) then some (.int (i.fmod j)) else none
def powI (i j : Int) : Option D := if decide (0 ≤ j) && decide (j ≤ 1000000) && decide (i.natAbs < 2 ^ 64) then some (.int (i ^ j.toNat)) else none
theorem od_sub : OpR X (binaryOp .Sub) (rD T K (i2 subI)) := OpR.imp op_sub fun x y H Q h => by
  obtain ⟨i, j, d, F, rfl, rfl, e, wf, k⟩ := rD_i2 h
  cases e
  exact ⟨i, j, rfl, rfl, k _ _ F (.refl wf) (.int _)⟩
theorem od_mod : OpR X (binaryOp .Mod) (rD T K (i2 modI)) := OpR.imp op_modN fun x y H Q h => by
  obtain ⟨i, j, d, F, rfl, rfl, e, wf, k⟩ := rD_i2 h
  unfold modI at e
  split at e
  · rename_i z
    cases e
    exact ⟨i, j, rfl, rfl, of_decide_eq_true z, k _ _ F (.refl wf) (.int _)⟩
  · cases e
theorem od_pow : OpR X (binaryOp .Pow) (rD T K (i2 powI)) := OpR.imp op_pow fun x y H Q h => by
  obtain ⟨i, j, d, F, rfl, rfl, e, wf, k⟩ := rD_i2 h
  unfold powI at e
  split at e
  · rename_i z
    cases e
    simp only [Bool.and_eq_true, decide_eq_true_eq] at z
    exact ⟨i, j, rfl, rfl, ⟨z.1.1, z.1.2, z.2⟩, k _ _ F (.refl wf) (.int _)⟩
  · cases e
theorem od_div : OpR X (binaryOp .FloorDiv) (rD T K (i2 divI)) := OpR.imp (opI (C := fun _ j => j ≠ 0 ∧ j.natAbs.log2 < 9000) (g := fun i j => i.fdiv j) fun i j t u s Q E hc q => PyProof.Rows.floordiv_int hc.1 q (.inl (PyProof.noPylong_of_log2 hc.2))) fun x y H Q h => by
  obtain ⟨i, j, d, F, rfl, rfl, e, wf, k⟩ := rD_i2 h
  unfold divI at e
  split at e
  · rename_i z
    cases e
    simp only [Bool.and_eq_true, decide_eq_true_eq] at z
    exact ⟨i, j, rfl, rfl, z, k _ _ F (.refl wf) (.int _)⟩
  · cases e
theorem od_mul : OpR X (binaryOp .Mult) (rD T K (i2 mulI)) := OpR.imp (opI (C := IntMulOk) (g := fun i j => i * j) fun i j t u s Q E hc q => PyProof.Rows.mul_int q hc) fun x y H Q h => by
  obtain ⟨i, j, d, F, rfl, rfl, e, wf, k⟩ := rD_i2 h
  unfold mulI at e
  split at e
  · rename_i z
    cases e
    rw [Bool.and_eq_true] at z
    exact ⟨i, j, rfl, rfl, smallI_mul z.1 z.2, k _ _ F (.refl wf) (.int _)⟩
  · cases e
def ltI (i j : Int) : Option D := some (.bl (decide (i < j)))
def leI (i j : Int) : Option D := some (.bl (decide (i ≤ j)))
def gtI (i j : Int) : Option D := some (.bl (decide (j < i)))
def geI (i j : Int) : Option D := some (.bl (decide (j ≤ i)))
theorem od_lt : OpR X (compareOp .Lt) (rD T K (i2 ltI)) := OpR.imp op_lt fun x y H Q h => by
  obtain ⟨i, j, d, F, rfl, rfl, e, wf, k⟩ := rD_i2 h
  cases e
  exact ⟨i, j, rfl, rfl, k _ _ F (.refl wf) (.bl _)⟩
theorem od_le : OpR X (compareOp .LtE) (rD T K (i2 leI)) := OpR.imp op_le fun x y H Q h => by
  obtain ⟨i, j, d, F, rfl, rfl, e, wf, k⟩ := rD_i2 h
  cases e
  exact ⟨i, j, rfl, rfl, k _ _ F (.refl wf) (.bl _)⟩
theorem od_gt : OpR X (compareOp .Gt) (rD T K (i2 gtI)) := OpR.imp op_gt fun x y H Q h => by
  obtain ⟨i, j, d, F, rfl, rfl, e, wf, k⟩ := rD_i2 h
  cases e
  exact ⟨i, j, rfl, rfl, k _ _ F (.refl wf) (.bl _)⟩
theorem od_ge : OpR X (compareOp .GtE) (rD T K (i2 geI)) := OpR.imp op_ge fun x y H Q h => by
  obtain ⟨i, j, d, F, rfl, rfl, e, wf, k⟩ := rD_i2 h
  cases e
  exact ⟨i, j, rfl, rfl, k _ _ F (.refl wf) (.bl _)⟩
mutual
def pyO : D → Option PyData
  | .non => some .none
  | .bl b => some (.bool b)
  | .int i => some (.int i)
  | .str x => some (.str x)
  | .tup ds => (pyOs ds).map .tuple
  | .lst ds => (pyOs ds).map .list
  | _ => none
def pyOs : List D → Option (List PyData)
  | [] => some []
  | d :: ds => match pyO d, pyOs ds with
    | some p, some ps => some (p :: ps)
    | _, _ => none
end
mutual
theorem Rep.dp {F : Addr → Prop} {H : Hp} : ∀ {v : V} {d : D} {p : PyData}, Rep T K F H v d → pyO d = some p → Dp K H v p
  | _, _, _, .non, e => by simp only [pyO] at e; cases e; exact .non
  | _, _, _, .bl b, e => by simp only [pyO] at e; cases e; exact .bl b
  | _, _, _, .int i, e => by simp only [pyO] at e; cases e; exact .int i
  | _, _, _, .str x, e => by simp only [pyO] at e; cases e; exact .str x
  | _, _, _, .tup (ds := ds) h r, e => by
    simp only [pyO] at e
    cases q : pyOs ds with
    | none => rw [q] at e; cases e
    | some ps => rw [q] at e; cases e; exact .tup h (Reps.dp r q)
  | _, _, _, .lst (ds := ds) h r, e => by
    simp only [pyO] at e
    cases q : pyOs ds with
    | none => rw [q] at e; cases e
    | some ps => rw [q] at e; cases e; exact .lst h.sq (Reps.dp r q)
  | _, _, _, .dct _, e => by simp only [pyO] at e; cases e
  | _, _, _, .fn _, e => by simp only [pyO] at e; cases e
  | _, _, _, .exn _ _ _, e => by simp only [pyO] at e; cases e
theorem Reps.dp {F : Addr → Prop} {H : Hp} : ∀ {v : List V} {d : List D} {p : List PyData}, Reps T K F H v d → pyOs d = some p → DpAll K H v p
  | _, _, _, .nil, e => by simp only [pyOs] at e; cases e; exact .nil
  | _, _, _, .cons (d := d) (ds := ds) r t, e => by
    simp only [pyOs] at e
    cases q : pyO d with
    | none => rw [q] at e; cases e
    | some p =>
      cases q2 : pyOs ds with
      | none => rw [q, q2] at e; cases e
      | some ps => rw [q, q2] at e; cases e; exact .cons (Rep.dp r q) (Reps.dp t q2)
end
def eqvD (x y : D) : Option Bool := match pyO x, pyO y with
  | some p, some q => if SeqAt.shaped p && SeqAt.shaped q then some (PyData.eqv p q) else none
  | _, _ => none
def eqD (x y : D) : Option D := (eqvD x y).map .bl
def neD (x y : D) : Option D := (eqvD x y).map fun b => .bl (!b)
theorem eqv_of {x y : D} {b : Bool} (h : eqvD x y = some b) : ∃ p q, pyO x = some p ∧ pyO y = some q ∧ SeqAt.shaped p = true ∧ SeqAt.shaped q = true ∧ b = PyData.eqv p q := by
  unfold eqvD at h
  split at h
  · rename_i p q e1 e2
    split at h
    · rename_i z
      rw [Bool.and_eq_true] at z
      cases h
      exact ⟨p, q, e1, e2, z.1, z.2, rfl⟩
    · cases h
  · cases h
theorem od_eq (hu : X.A.units + 64 < cLine) : OpR X (compareOp .Eq) (rD T X.K eqD) := OpR.imp (op_eqD hu) fun x y H Q ⟨F, dx, dy, d, wf, r1, r2, e, k⟩ => by
  unfold eqD at e
  cases q : eqvD dx dy with
  | none => rw [q] at e; cases e
  | some b =>
    rw [q] at e; cases e
    obtain ⟨p, q', e1, e2, s1, s2, rfl⟩ := eqv_of q
    exact ⟨p, q', r1.dp e1, r2.dp e2, s1, s2, k _ H F (.refl wf) (.bl _)⟩
theorem od_ne (hu : X.A.units + 64 < cLine) : OpR X (compareOp .NotEq) (rD T X.K neD) := OpR.imp (op_neD hu) fun x y H Q ⟨F, dx, dy, d, wf, r1, r2, e, k⟩ => by
  unfold neD at e
  cases q : eqvD dx dy with
  | none => rw [q] at e; cases e
  | some b =>
    rw [q] at e; cases e
    obtain ⟨p, q', e1, e2, s1, s2, rfl⟩ := eqv_of q
    exact ⟨p, q', r1.dp e1, r2.dp e2, s1, s2, k _ H F (.refl wf) (.bl _)⟩
end
end BD
namespace BD
open PySem L2
variable {T : Tab} {K : PySem.W.Frag}
section
variable {X : Cx} {E : XK} {a b c e : Expr} {es rest : List Expr} {pos : Pos}
def eNeg (f : Ev) : Ev := fun ρ => obnd (f ρ) fun x => match x with
  | .int i => some (.val (.int (-i)))
  | _ => none
theorem de_neg {f : Ev} (h : PE X a (tD T K E f)) : PE X (.UnaryOp .USub a pos) (tD T K E (eNeg f)) := PE.imp (pe_un un_neg h) fun σ H Q ⟨c, ρ, F, out, r, e, th⟩ => by
  refine tD_bind r e (fun d v H1 F1 g1 r1 e1 => ?_) th.exc
  split at e1
  · cases r1; cases e1
    exact ⟨_, rfl, th _ _ _ g1 (.int _)⟩
  · cases e1
def truthD : D → Option Bool
  | .non => some false
  | .bl b => some b
  | .int i => some (i != 0)
  | .tup ds => some (!ds.isEmpty)
  | .lst ds => some (!ds.isEmpty)
  | _ => none
def qV (f : Ev) : Ev := fun ρ => obnd (f ρ) fun x => ov ((truthD x).map .bl)
theorem reps_empty {F : Addr → Prop} {H : Hp} {vs : List V} {ds : List D} (r : Reps T K F H vs ds) : vs.isEmpty = ds.isEmpty := by cases r <;> rfl
theorem truth_ok {F : Addr → Prop} {H : Hp} {v : V} {d : D} {k : Bool} (r : Rep T K F H v d) (e : truthD d = some k) : TruV K v H k := by
  cases r with
  | non => simp only [truthD] at e; cases e; rfl
  | bl b => simp only [truthD] at e; cases e; rfl
  | int i => simp only [truthD] at e; cases e; rfl
  | str x => cases e
  | tup h r => simp only [truthD] at e; cases e; exact .inr (.inl ⟨_, h, by rw [reps_empty r]⟩)
  | lst h r => simp only [truthD] at e; cases e; exact .inl ⟨_, h.sq, by rw [reps_empty r]⟩
  | dct h => cases e
  | fn h => cases e
  | exn h _ _ => cases e
  | obj _ h _ _ => cases e
  | cell h => cases e
  | dic _ _ _ => cases e
theorem dt_val {f : Ev} (h : PE X a (tD T X.K E f)) (he : ∀ whole, isTrue a X.env whole = (do let v ← whole; standAt a.pos; holding [v] (truthy v)) := by intro _; rfl) : PT X a (tDT T X.K E (qV f)) :=
  PT.imp (pt_truth h he) fun σ H Q ⟨c, ρ, F, out, r, e, th⟩ => by
    refine tD_bind r e (fun d v H1 F1 g1 r1 e1 => ?_) th.exc
    cases q : truthD d with
    | none => rw [q] at e1; cases e1
    | some k =>
      rw [q] at e1; cases e1
      exact ⟨k, truth_ok r1 q, th H1 F1 g1⟩
theorem tTest_of {g : D → D → Option D} {fa fb : Ev} {σ : L2.St} {H : Hp} {Q : Bool → Hp → Prop} (h : tDT T K E (eOp g fa fb) σ H Q) : tTest (tOp (rD T K g) (tD T K E fa) (tD T K E fb)) σ H Q := by
  obtain ⟨c, ρ, F, out, r, e, th⟩ := h
  refine tOp_of ⟨c, ρ, F, out, r, e, ?_⟩
  cases out with
  | exc n => exact th
  | val d =>
    intro v H' F' g r'
    cases d with
    | bl b => cases r'; exact ⟨b, rfl, th H' F' g⟩
    | _ => exact th.elim
theorem dt_cmp {op : CmpOp} {g : D → D → Option D} {fa fb : Ev} (ho : OpR X (compareOp op) (rD T K g)) (ha : PE X a (tD T K E fa)) (hb : PE X b (tD T K E fb)) (hm : behindInMarks op b = false) : PT X (.Compare a [op] [b] pos) (tDT T K E (eOp g fa fb)) :=
  PT.imp (pt_cmpR ho ha hb hm) fun σ H Q h => tTest_of h
def eChain (g g' : D → D → Option D) (fa fb fc : Ev) : Ev := fun ρ => obnd (fa ρ) fun x => obnd (fb ρ) fun y => obnd (ov (g x y)) fun z => match z with
  | .bl true => obnd (fc ρ) fun w => ov (g' y w)
  | .bl false => some (.val (.bl false))
  | _ => none
theorem tChain_of {g g' : D → D → Option D} {fa fb fc : Ev} {σ : L2.St} {H : Hp} {Q : VK} (h : tD T K E (eChain g g' fa fb fc) σ H Q) : tChain (rD T K g) (rD T K g') (tD T K E fa) (tD T K E fb) (tD T K E fc) σ H Q := by
  obtain ⟨c, ρ, F, out, r, e, th⟩ := h
  refine tD_bind r e (fun d v H1 F1 g1 r1 e1 => ?_) th.exc
  have th1 := th.grow g1
  refine tD_bind (r.grow g1) e1 (fun d2 v2 H2 F2 g2 r2 e2 => ?_) th1.exc
  have th2 := th1.grow g2
  cases q : g d d2 with
  | none => rw [q] at e2; cases e2
  | some z =>
    rw [q] at e2
    refine ⟨F2, d, d2, z, g2.wf, r1.grow g2, r2, q, fun v3 H3 F3 g3 r3 => ?_⟩
    have th3 := th2.grow g3
    have e3 := e2
    dsimp only [ov, Option.map, obnd] at e3
    cases z with
    | bl k =>
      cases r3
      refine ⟨k, rfl, ?_⟩
      cases k with
      | true =>
        rw [if_pos rfl]
        refine tD_bind (((r.grow g1).grow g2).grow g3) e3 (fun d4 v4 H4 F4 g4 r4 e4 => ?_) th3.exc
        cases q' : g' d2 d4 with
        | none => rw [q'] at e4; cases e4
        | some z' =>
          rw [q'] at e4
          cases e4
          exact ⟨F4, d2, d4, z', g4.wf, (r2.grow g3).grow g4, r4, q', th3.grow g4⟩
      | false =>
        rw [if_neg (by decide)]
        cases e3
        exact th3 _ _ _ (.refl g3.wf) (.bl false)
    | _ => cases e3
theorem de_chain {op op' : CmpOp} {g g' : D → D → Option D} {fa fb fc : Ev} (ho : OpR X (compareOp op) (rD T K g)) (ho' : OpR X (compareOp op') (rD T K g')) (ha : PE X a (tD T K E fa)) (hb : PE X b (tD T K E fb)) (hc : PE X c (tD T K E fc))
    (hm : lastMarks [op, op'] [b, c] = false := by with_unfolding_all rfl) : PE X (.Compare a [op, op'] [b, c] pos) (tD T K E (eChain g g' fa fb fc)) := PE.imp (pe_chain ho ho' ha hb hc hm) fun σ H Q h => tChain_of h
theorem dt_chain {op op' : CmpOp} {g g' : D → D → Option D} {fa fb fc : Ev} (ho : OpR X (compareOp op) (rD T K g)) (ho' : OpR X (compareOp op') (rD T K g')) (ha : PE X a (tD T K E fa)) (hb : PE X b (tD T K E fb)) (hc : PE X c (tD T K E fc))
    (hm : lastMarks [op, op'] [b, c] = false := by with_unfolding_all rfl) : PT X (.Compare a [op, op'] [b, c] pos) (tDT T K E (eChain g g' fa fb fc)) := PT.imp (pt_chain ho ho' ha hb hc hm) fun σ H Q ⟨c, ρ, F, out, r, e, th⟩ => by
  refine tChain_of ⟨c, ρ, F, out, r, e, ?_⟩
  cases out with
  | exc n => exact th
  | val d =>
    intro v H' F' g r'
    cases d with
    | bl b => cases r'; exact ⟨b, rfl, th H' F' g⟩
    | _ => exact th.elim
def qAnd (f g : Ev) : Ev := fun ρ => obnd (f ρ) fun x => match x with
  | .bl true => g ρ
  | .bl false => some (.val (.bl false))
  | _ => none
def qOr (f g : Ev) : Ev := fun ρ => obnd (f ρ) fun x => match x with
  | .bl true => some (.val (.bl true))
  | .bl false => g ρ
  | _ => none
def qNot (f : Ev) : Ev := fun ρ => obnd (f ρ) fun x => match x with
  | .bl k => some (.val (.bl (!k)))
  | _ => none
theorem tDT_bind {f : Ev} {k : D → Option Out} {Q : Bool → Hp → Prop} {out : Out} {c : Ent} {ρ : Rho} {σ : L2.St} {H : Hp} {F : Addr → Prop} (r : Rel T K c ρ σ H F) (e : obnd (f ρ) k = some out) (hk : ∀ d, k d = some out → ∃ b, d = .bl b)
    (hv : ∀ b H' F', Grow H H' F F' → k (.bl b) = some out → Q b H') (hx : ∀ n, out = .exc n → ∀ H', Ext H H' → E (T.clsV n) none H') : tDT T K E f σ H Q := by
  rcases obnd_some e with ⟨d, e1, e2⟩ | ⟨n, e1, e2⟩
  · obtain ⟨b, rfl⟩ := hk d e2
    exact ⟨c, ρ, F, _, r, e1, fun H' F' g => hv b H' F' g e2⟩
  · exact ⟨c, ρ, F, _, r, e1, hx n e2⟩
theorem dw_and1 {f : Ev} (h : PT X a (tDT T K E f)) : PW X (.BoolOp .And [a] pos) (tDT T K E f) := pw_and1 h
theorem dw_or1 {f : Ev} (h : PT X a (tDT T K E f)) : PW X (.BoolOp .Or [a] pos) (tDT T K E f) := pw_or1 h
theorem dw_and {f g : Ev} (ha : PT X a (tDT T K E f)) (hb : PW X (.BoolOp .And (b :: rest) pos) (tDT T K E g)) : PW X (.BoolOp .And (a :: b :: rest) pos) (tDT T K E (qAnd f g)) :=
  PW.imp (pw_and ha hb) fun σ H Q ⟨c, ρ, F, out, r, e, th⟩ => by
    refine tDT_bind r e (fun d e1 => ?_) (fun k H1 F1 g1 e1 => ?_) th.exc
    · split at e1
      · exact ⟨_, rfl⟩
      · exact ⟨_, rfl⟩
      · cases e1
    · cases k with
      | true => rw [if_pos rfl]; exact ⟨c, ρ, F1, out, r.grow g1, e1, th.grow g1⟩
      | false => rw [if_neg (by decide)]; cases e1; exact th H1 F1 g1
theorem dw_or {f g : Ev} (ha : PT X a (tDT T K E f)) (hb : PW X (.BoolOp .Or (b :: rest) pos) (tDT T K E g)) : PW X (.BoolOp .Or (a :: b :: rest) pos) (tDT T K E (qOr f g)) :=
  PW.imp (pw_or ha hb) fun σ H Q ⟨c, ρ, F, out, r, e, th⟩ => by
    refine tDT_bind r e (fun d e1 => ?_) (fun k H1 F1 g1 e1 => ?_) th.exc
    · split at e1
      · exact ⟨_, rfl⟩
      · exact ⟨_, rfl⟩
      · cases e1
    · cases k with
      | true => rw [if_pos rfl]; cases e1; exact th H1 F1 g1
      | false => rw [if_neg (by decide)]; exact ⟨c, ρ, F1, out, r.grow g1, e1, th.grow g1⟩
theorem dt_not {f : Ev} (ha : PT X a (tDT T K E f)) : PT X (.UnaryOp .Not a pos) (tDT T K E (qNot f)) :=
  PT.imp (pt_not ha) fun σ H Q ⟨c, ρ, F, out, r, e, th⟩ => by
    refine tDT_bind r e (fun d e1 => ?_) (fun k H1 F1 g1 e1 => ?_) th.exc
    · split at e1
      · exact ⟨_, rfl⟩
      · cases e1
    · cases e1; exact th H1 F1 g1
theorem de_one {f : Ev} {op} (h : PE X a (tD T K E f)) : PE X (.BoolOp op [a] pos) (tD T K E f) := pe_one h
theorem de_and {f g : Ev} (ha : PE X a (tD T K E f)) (hb : PE X (.BoolOp .And (b :: rest) pos) (tD T K E g)) : PE X (.BoolOp .And (a :: b :: rest) pos) (tD T K E (qAnd f g)) :=
  PE.imp (pe_and ha hb) fun σ H Q ⟨c, ρ, F, out, r, e, th⟩ => by
    refine tD_bind r e (fun d v H1 F1 g1 r1 e1 => ?_) th.exc
    split at e1
    · cases r1; exact ⟨true, rfl, by rw [if_pos rfl]; exact ⟨c, ρ, F1, out, r.grow g1, e1, th.grow g1⟩⟩
    · cases r1; cases e1; exact ⟨false, rfl, by rw [if_neg (by decide)]; exact th _ H1 F1 g1 (.bl false)⟩
    · cases e1
theorem de_not {f : Ev} (ha : PE X a (tD T K E f)) : PE X (.UnaryOp .Not a pos) (tD T K E (qNot f)) :=
  PE.imp (pe_not ha) fun σ H Q ⟨c, ρ, F, out, r, e, th⟩ => by
    refine tD_bind r e (fun d v H1 F1 g1 r1 e1 => ?_) th.exc
    split at e1
    · cases r1; cases e1; exact ⟨_, rfl, th _ H1 F1 g1 (.bl _)⟩
    · cases e1
def eIf (q f g : Ev) : Ev := fun ρ => obnd (q ρ) fun x => match x with
  | .bl true => f ρ
  | .bl false => g ρ
  | _ => none
theorem de_if {q f g : Ev} (hc : PT X c (tDT T K E q)) (ha : PE X a (tD T K E f)) (hb : PE X b (tD T K E g)) : PE X (.IfExp c a b pos) (tD T K E (eIf q f g)) :=
  PE.imp (pe_ifExp hc ha hb) fun σ H Q ⟨c, ρ, F, out, r, e, th⟩ => by
    refine tDT_bind r e (fun d e1 => ?_) (fun k H1 F1 g1 e1 => ?_) th.exc
    · split at e1
      · exact ⟨_, rfl⟩
      · exact ⟨_, rfl⟩
      · cases e1
    · cases k with
      | true => rw [if_pos rfl]; exact ⟨c, ρ, F1, out, r.grow g1, e1, th.grow g1⟩
      | false => rw [if_neg (by decide)]; exact ⟨c, ρ, F1, out, r.grow g1, e1, th.grow g1⟩
def spD (T : Tab) (K : PySem.W.Frag) (g : List D → Option Out) : Sp := fun vs H Q E => ∃ F ds out, (∀ a, F a → H a ≠ none) ∧ Reps T K F H vs ds ∧ g ds = some out ∧ Then T K E H F Q out
def eCall (g : List D → Option Out) (fs : EvL) : Ev := fun ρ => lbnd (fs ρ) g
theorem tCall_of {g : List D → Option Out} {fs : EvL} {σ : L2.St} {H : Hp} {Q : VK} (h : tD T K E (eCall g fs) σ H Q) : tCall (spD T K g) [] E (tDA T K E fs) σ H Q := by
  obtain ⟨c, ρ, F, out, r, e, th⟩ := h
  refine tDA_bind r e (fun ds vs H1 F1 g1 r1 e1 => ?_) th.exc
  rw [List.append_nil]
  exact ⟨F1, ds, out, g1.wf, r1, e1, th.grow g1⟩
theorem de_call {CX : CXT} {k : Nat} {f : Addr} {fd : FuncData} {ps : List Str} {g : List D → Option Out} {fs : EvL} {x : Str} {p : Pos} (G : FnOk X.prog X.w X.K X.mg X.base CX k f fd ps (spD T K g)) (hr : Room k X.A) (hg : Gl X x) (hm : X.mg x = some (.ref f))
    (hk : PySem.W.keepIn X.K (.ref f) = true) (hb : Binds X.K fd ps []) (hx : Passes CX X E) (ha : PA X (e :: es) (tDA T K E fs)) (hdb : (x == ("__debug__" : Str)) = false := by decide) (he : starEach (e :: es) X.env = (false, eval e X.env) :: starEach es X.env := by rfl)
    (hpl : (backTo pos (starEach es X.env)).any (·.1) = false := by rfl) : PE X (.Call (.Name x p) (e :: es) [] pos) (tD T K E (eCall g fs)) :=
  PE.imp (pe_call G hr hg hm hk hb .nil hx ha hdb he hpl) fun σ H Q h => tCall_of h
def rB (T : Tab) (K : PySem.W.Frag) (g : List D → Option D) : List V → Hp → VK → Prop := fun vs H Q => ∃ F ds d, (∀ a, F a → H a ≠ none) ∧ Reps T K F H vs ds ∧ g ds = some d ∧ ∀ v H' F', Grow H H' F F' → Rep T K F' H' v d → Q v H'
def eB (g : List D → Option D) (fs : EvL) : Ev := fun ρ => lbnd (fs ρ) fun ds => ov (g ds)
theorem tCB_of {g : List D → Option D} {fs : EvL} {σ : L2.St} {H : Hp} {Q : VK} (h : tD T K E (eB g fs) σ H Q) : tCB (rB T K g) (tDA T K E fs) σ H Q := by
  obtain ⟨c, ρ, F, out, r, e, th⟩ := h
  refine tDA_bind r e (fun ds vs H1 F1 g1 r1 e1 => ?_) th.exc
  cases q : g ds with
  | none => rw [q] at e1; cases e1
  | some d =>
    rw [q] at e1
    cases e1
    exact ⟨F1, ds, d, g1.wf, r1, q, th.grow g1⟩
theorem de_callB {id : String} {g : List D → Option D} {fs : EvL} {x : Str} {p : Pos} (hc : CallR X (.builtin id) (rB T K g)) (hg : Gl X x) (hm : X.mg x = none) (hv : bootBuiltins x = some (.builtin id)) (ha : PA X (e :: es) (tDA T K E fs)) (hn : x ≠ "__name__" := by decide)
    (hdb : (x == ("__debug__" : Str)) = false := by decide) (he : starEach (e :: es) X.env = (false, eval e X.env) :: starEach es X.env := by rfl) (hpl : (backTo pos (starEach es X.env)).any (·.1) = false := by rfl) : PE X (.Call (.Name x p) (e :: es) [] pos) (tD T K E (eB g fs)) :=
  PE.imp (pe_callB hc hg hm hv ha hn hdb he hpl) fun σ H Q h => tCB_of h
def lenB : List D → Option D
  | [.lst ds] => some (.int ds.length)
  | [.tup ds] => some (.int ds.length)
  | _ => none
theorem cb_len : CallR X (.builtin "len") (rB T X.K lenB) := CallR.imp call_len_seq fun vs H Q ⟨F, ds, d, wf, r, e, k⟩ => by
  unfold lenB at e
  split at e
  · cases e
    cases r with
    | cons r1 t =>
      cases t
      cases r1 with
      | lst h rr => exact ⟨_, _, rfl, .inl h.sq, by rw [rr.length]; exact k _ H F (.refl wf) (.int _)⟩
  · cases e
    cases r with
    | cons r1 t =>
      cases t
      cases r1 with
      | tup h rr => exact ⟨_, _, rfl, .inr h, by rw [rr.length]; exact k _ H F (.refl wf) (.int _)⟩
  · cases e
def absB : List D → Option D
  | [.int i] => some (.int (if i < 0 then -i else i))
  | _ => none
theorem cb_abs : CallR X (.builtin "abs") (rB T K absB) := CallR.imp call_abs fun vs H Q ⟨F, ds, d, wf, r, e, k⟩ => by
  unfold absB at e
  split at e
  · cases e
    cases r with
    | cons r1 t => cases t; cases r1; exact ⟨_, rfl, k _ H F (.refl wf) (.int _)⟩
  · cases e
def intsO : List D → Option (List Int)
  | [] => some []
  | .int i :: ds => (intsO ds).map (i :: ·)
  | _ :: _ => none
theorem intsO_ok {F : Addr → Prop} {H : Hp} : ∀ {vs : List V} {ds : List D} {ns : List Int}, Reps T K F H vs ds → intsO ds = some ns → vs = ns.map V.int
  | _, _, _, .nil, e => by cases e; rfl
  | _, _, ns, .cons (d := d) (ds := ds) r t, e => by
    cases r with
    | int i =>
      simp only [intsO] at e
      cases q : intsO ds with
      | none => rw [q] at e; cases e
      | some ms => rw [q] at e; cases e; rw [intsO_ok t q]; rfl
    | _ => cases e
def blsO : List D → Option (List Bool)
  | [] => some []
  | .bl i :: ds => (blsO ds).map (i :: ·)
  | _ :: _ => none
theorem blsO_ok {F : Addr → Prop} {H : Hp} : ∀ {vs : List V} {ds : List D} {ns : List Bool}, Reps T K F H vs ds → blsO ds = some ns → vs = ns.map V.bl
  | _, _, _, .nil, e => by cases e; rfl
  | _, _, ns, .cons (d := d) (ds := ds) r t, e => by
    cases r with
    | bl i =>
      simp only [blsO] at e
      cases q : blsO ds with
      | none => rw [q] at e; cases e
      | some ms => rw [q] at e; cases e; rw [blsO_ok t q]; rfl
    | _ => cases e
def sumB : List D → Option D
  | [.lst ds] => (intsO ds).map fun ns => .int ns.sum
  | _ => none
theorem cb_sum (hc : X.calm = true) : CallR X (.builtin "sum") (rB T X.K sumB) := CallR.imp (cr_sum hc) fun vs H Q ⟨F, ds, d, wf, r, e, k⟩ => by
  unfold sumB at e
  split at e
  · rename_i ds
    cases q : intsO ds with
    | none => rw [q] at e; cases e
    | some ns =>
      rw [q] at e; cases e
      cases r with
      | cons r1 t =>
        cases t
        cases r1 with
        | lst h rr => exact ⟨_, ns, rfl, by rw [← intsO_ok rr q]; exact h.sq, k _ H F (.refl wf) (.int _)⟩
  · cases e
def allB : List D → Option D
  | [.lst ds] => (blsO ds).map fun ns => .bl (ns.all id)
  | _ => none
theorem cb_all (hc : X.calm = true) : CallR X (.builtin "all") (rB T X.K allB) := CallR.imp (cr_all hc) fun vs H Q ⟨F, ds, d, wf, r, e, k⟩ => by
  unfold allB at e
  split at e
  · rename_i ds
    cases q : blsO ds with
    | none => rw [q] at e; cases e
    | some ns =>
      rw [q] at e; cases e
      cases r with
      | cons r1 t =>
        cases t
        cases r1 with
        | lst h rr => exact ⟨_, ns, rfl, by rw [← blsO_ok rr q]; exact h.sq, k _ H F (.refl wf) (.bl _)⟩
  · cases e
def tyD : D → Option String
  | .non => some "NoneType"
  | .bl _ => some "bool"
  | .int _ => some "int"
  | .str _ => some "str"
  | .tup _ => some "tuple"
  | .lst _ => some "list"
  | .dct => some "dict"
  | _ => none
def isiN (c t : String) : Option Bool :=
  if c = "int" then some (t == "int" || t == "bool")
  else if c = "bool" then some (t == "bool")
  else if c = "tuple" then some (t == "tuple")
  else if c = "list" then some (t == "list")
  else if c = "str" then some (t == "str")
  else none
theorem kit_ty {c t : String} {b : Bool} (h : isiN c t = some b) (ht : t = "NoneType" ∨ t = "bool" ∨ t = "int" ∨ t = "str" ∨ t = "tuple" ∨ t = "list" ∨ t = "dict") : PySem.W.kitOne K (.type t) (.type c) = some b := by
  unfold isiN at h
  split at h
  · rename_i e; subst e
    rcases ht with rfl | rfl | rfl | rfl | rfl | rfl | rfl <;> cases h <;> with_unfolding_all rfl
  split at h
  · rename_i e; subst e
    rcases ht with rfl | rfl | rfl | rfl | rfl | rfl | rfl <;> cases h <;> with_unfolding_all rfl
  split at h
  · rename_i e; subst e
    rcases ht with rfl | rfl | rfl | rfl | rfl | rfl | rfl <;> cases h <;> with_unfolding_all rfl
  split at h
  · rename_i e; subst e
    rcases ht with rfl | rfl | rfl | rfl | rfl | rfl | rfl <;> cases h <;> with_unfolding_all rfl
  split at h
  · rename_i e; subst e
    rcases ht with rfl | rfl | rfl | rfl | rfl | rfl | rfl <;> cases h <;> with_unfolding_all rfl
  cases h
def isiB (c : String) (d : D) : Option D := (tyD d).bind fun t => (isiN c t).map .bl
theorem isi_ok {c : String} {pins : List (Addr × Obj)} {σ : L2.St} {H : Hp} {s : Shared} {A : Around} {E : Value → Shared → Prop} {Q : Value → Shared → Prop} {F : Addr → Prop} {x : V} {u : Value} {d : D} {b : Bool} (I : Inv X pins σ H s) (rx : RelV x u) (r : Rep T X.K F H x d) (e : isiB c d = some (.bl b)) (h : ∀ tk, Q (.bool b) { s with toks := tk }) :
    wpAny (model X.prog X.w) A (call (.builtin "isinstance") [u, .type c]) Q E s := by
  have key : ∀ t, tyD d = some t → (t = "NoneType" ∨ t = "bool" ∨ t = "int" ∨ t = "str" ∨ t = "tuple" ∨ t = "list" ∨ t = "dict") → PySem.W.kitOne X.K (.type t) (.type c) = some b := fun t q ht => by
    unfold isiB at e
    rw [q] at e
    cases z : isiN c t with
    | none => simp [z] at e
    | some b' => simp [z] at e; rw [← e]; exact kit_ty z ht
  cases r with
  | non => cases (show u = Value.none from rx); exact PySem.W.kia_one PySem.W.kitx_none I.kIn True.intro (key _ rfl (by simp)) (fun z => nomatch z) h
  | bl y => cases (show u = Value.bool y from rx); exact PySem.W.kia_one PySem.W.kitx_bool I.kIn True.intro (key _ rfl (by simp)) (fun z => nomatch z) h
  | int i => obtain ⟨t, q⟩ := (show ∃ t, u = Value.int i t from rx); cases q; exact PySem.W.kia_one PySem.W.kitx_int I.kIn True.intro (key _ rfl (by simp)) (fun z => nomatch z) h
  | str y => obtain ⟨t, q⟩ := (show ∃ t, u = Value.str y t from rx); cases q; exact PySem.W.kia_one PySem.W.kitx_str I.kIn True.intro (key _ rfl (by simp)) (fun z => nomatch z) h
  | @tup a vs ds hq rr =>
    cases (show u = Value.ref a from rx)
    obtain ⟨its, _, ⟨o, h1, h2, _⟩, _⟩ := I.tuple hq
    exact PySem.W.kia_one PySem.W.kitx_tuple I.kIn ⟨o, h1, h2⟩ (key _ rfl (by simp)) (fun z => nomatch z) h
  | @lst a vs ds hq rr =>
    cases (show u = Value.ref a from rx)
    obtain ⟨its, _, ⟨o, n, h1, h2, _⟩, _⟩ := I.list hq.sq
    exact PySem.W.kia_one PySem.W.kitx_list I.kIn ⟨o, h1, h2⟩ (key _ rfl (by simp)) (fun z => nomatch z) h
  | @dct a hq =>
    cases (show u = Value.ref a from rx)
    obtain ⟨_, _, vs, _, p⟩ := (show ObjOk X.prog X.w H s.heap a (.dK []) from I.hok a _ hq)
    obtain ⟨o, es, ep, h1, h2, _⟩ := p
    exact PySem.W.kia_one PySem.W.kitx_dict I.kIn ⟨o, h1, h2.1⟩ (key _ rfl (by simp)) (fun z => nomatch z) h
  | fn hq => simp [isiB, tyD] at e
  | exn hq _ _ => simp [isiB, tyD] at e
  | obj _ hq _ _ => simp [isiB, tyD] at e
  | cell hq => simp [isiB, tyD] at e
  | dic _ _ _ => simp [isiB, tyD] at e
def eIsi (c : String) (f : Ev) : Ev := fun ρ => obnd (f ρ) fun x => ov (isiB c x)
theorem de_isi {f : Ev} {c : String} {x : Str} {p p2 : Pos} (ha : PE X a (tD T X.K E f)) (hg : Gl X "isinstance") (hm : X.mg "isinstance" = none) (hgc : Gl X x) (hmc : X.mg x = none) (hvc : bootBuiltins x = some (.type c)) (hnc : x ≠ "__name__" := by decide)
    (hdc : (x == ("__debug__" : Str)) = false := by decide)
    (he : starEach [a, .Name x p2] X.env = (false, eval a X.env) :: starEach [.Name x p2] X.env := by rfl) (hpl : (backTo pos (starEach [.Name x p2] X.env)).any (·.1) = false := by rfl) : PE X (.Call (.Name "isinstance" p) [a, .Name x p2] [] pos) (tD T X.K E (eIsi c f)) := by
  have hc : CallR X (.builtin "isinstance") (fun vs H Q => ∃ F d b y, vs = [y, .ty c] ∧ Rep T X.K F H y d ∧ isiB c d = some (.bl b) ∧ Q (.bl b) H) := fun pins s σ H vs us Q I r ⟨F, d, b, y, ev, rp, e, q⟩ => by
    subst ev
    obtain ⟨u, w', rfl, r1, r2⟩ := vals2 r
    cases (show w' = Value.type c from r2)
    exact isi_ok I r1 rp e fun tk => ⟨.bl b, H, I.tok _, rfl, q⟩
  refine PE.imp (pe_callB hc hg hm (by decide +kernel) (pa_cons ha (pa_cons (pe_bltn (v := .ty c) hgc hmc hvc rfl hnc hdc) pa_nil) he) (by decide) (by decide) he hpl) fun σ H Q ⟨c', ρ, F, out, r, e, th⟩ => ?_
  refine tD_bind r e (fun d v H1 F1 g1 r1 e1 => ?_) th.exc
  cases q : isiB c d with
  | none => rw [q] at e1; cases e1
  | some z =>
    rw [q] at e1
    cases e1
    have : ∃ b, z = .bl b := by
      unfold isiB at q
      cases h1 : tyD d with
      | none => rw [h1] at q; cases q
      | some t =>
        rw [h1] at q
        cases h2 : isiN c t with
        | none => simp [h2] at q
        | some b => simp [h2] at q; exact ⟨b, q.symm⟩
    obtain ⟨b, rfl⟩ := this
    exact ⟨F1, d, b, v, rfl, r1, q, th _ H1 F1 g1 (.bl b)⟩
end
end BD
namespace BD
open PySem L2
variable {T : Tab} {K : PySem.W.Frag}
section
variable {X : Cx} {E : XK} {a b c e : Expr} {es rest : List Expr} {pos : Pos}
theorem atI_get {α : Type} {xs : List α} {i : Int} {x : α} (h : atI xs i = some x) : ∃ j, ixN xs.length i = some j ∧ xs[j]? = some x := by
  unfold atI at h
  cases q : ixN xs.length i with
  | none => rw [q] at h; cases h
  | some j => rw [q] at h; exact ⟨j, rfl, h⟩
theorem Reps.at {F : Addr → Prop} {H : Hp} {vs : List V} {ds : List D} {i : Int} {d : D} (r : Reps T K F H vs ds) (h : atI ds i = some d) : ∃ v, atI vs i = some v ∧ Rep T K F H v d := by
  obtain ⟨j, h1, h2⟩ := atI_get h
  obtain ⟨v, h3, h4⟩ := r.get h2
  exact ⟨v, by unfold atI; rw [r.length, h1]; exact h3, h4⟩
def ixD : D → D → Option D
  | .lst ds, .int i => atI ds i
  | .tup ds, .int i => atI ds i
  | _, _ => none
theorem ixr_d : IxR X (rD T X.K ixD) := fun value slice pins s σ H x y v u Q I rx ry ⟨F, dx, dy, d, wf, r1, r2, e, k⟩ hs => by
  unfold ixD at e
  split at e
  · cases r1 with
    | lst h rr =>
      cases r2
      obtain ⟨z, h1, h2⟩ := rr.at e
      exact ix_list value slice pins s σ H _ _ v u Q I rx ry ⟨_, _, _, z, rfl, rfl, h.sq, h1, k _ H F (.refl wf) h2⟩ hs
  · cases r1 with
    | tup h rr =>
      cases r2
      obtain ⟨z, h1, h2⟩ := rr.at e
      exact ix_tup value slice pins s σ H _ _ v u Q I rx ry ⟨_, _, _, z, rfl, rfl, h, h1, k _ H F (.refl wf) h2⟩ hs
  · cases e
theorem de_ix {fa fb : Ev} (ha : PE X a (tD T X.K E fa)) (hb : PE X b (tD T X.K E fb)) (hs : PlainIx b := by intro _ _; rfl) : PE X (.Subscript a b pos) (tD T X.K E (eOp ixD fa fb)) :=
  PE.imp (pe_ix ixr_d ha hb hs) fun σ H Q h => tOp_of h
def cutD (xs : List D) (lo hi : Option Int) : List D := (xs.drop (HT.sIx xs.length 0 lo)).take (HT.sIx xs.length xs.length hi - HT.sIx xs.length 0 lo)
theorem Reps.cut {F : Addr → Prop} {H : Hp} {vs : List V} {ds : List D} (r : Reps T K F H vs ds) (lo hi : Option Int) : Reps T K F H (cutV vs lo hi) (cutD ds lo hi) := by
  unfold cutV cutD
  rw [r.length]
  exact (r.drop _).take _
abbrev EvO := Rho → Option (Option Int)
def oNone : EvO := fun _ => some none
def oSome (f : Ev) : EvO := fun ρ => match f ρ with
  | some (.val (.int i)) => some (some i)
  | _ => none
def tDO (T : Tab) (K : PySem.W.Frag) (f : EvO) : TO := fun σ H Q => ∃ c ρ F o, Rel T K c ρ σ H F ∧ f ρ = some o ∧ ∀ H' F', Grow H H' F F' → Q o H'
theorem do_none : PO X none (tDO T K oNone) := fun pins s σ H Q I ⟨c, ρ, F, o, r, e, k⟩ => po_none pins s σ H Q I (by cases e; exact k H F (.refl r.wf))
theorem do_some {f : Ev} (h : PE X e (tD T K E f)) : PO X (some e) (tDO T K (oSome f)) := fun pins s σ H Q I ⟨c, ρ, F, o, r, e, k⟩ => po_some h pins s σ H Q I (by
  unfold oSome at e
  split at e
  · rename_i i q
    cases e
    exact ⟨c, ρ, F, _, r, q, fun v H' F' g rp => by cases rp; exact ⟨i, rfl, k H' F' g⟩⟩
  · cases e)
def lSlice (f : Ev) (lo hi : EvO) : EvL := fun ρ => obndL (f ρ) fun d => match d, lo ρ, hi ρ with
  | .lst ds, some l, some h => some (.vals (cutD ds l h))
  | _, _, _ => none
theorem df_slice {f : Ev} {l h : EvO} {lo hi : Option Expr} {p2 : Pos} (he : PE X e (tD T X.K E f)) (hl : PO X lo (tDO T X.K l)) (hh : PO X hi (tDO T X.K h)) : PE X (.Subscript e (.Slice lo hi none p2) pos) (tDF T X.K E (lSlice f l h)) :=
  PE.imp (pe_slice sl_list he hl hh) fun σ H Q ⟨c, ρ, F, out, r, e, th⟩ => by
    unfold lSlice obndL at e
    split at e
    · rename_i d q
      refine ⟨c, ρ, F, _, r, q, fun v H1 F1 g1 r1 => ?_⟩
      dsimp only at e
      split at e
      · rename_i ds lv hv el eh
        cases e
        cases r1 with
        | lst hq rr =>
          refine ⟨c, ρ, F1, lv, r.grow g1, el, fun H2 F2 g2 => ⟨c, ρ, F2, hv, (r.grow g1).grow g2, eh, fun H3 F3 g3 => ?_⟩⟩
          have rr3 := (rr.grow g2).grow g3
          refine ⟨_, _, rfl, ((hq.keep g2.ext.keep g2.more).keep g3.ext.keep g3.more).sq, fun p hp => ?_⟩
          exact th p _ H3 _ F3 ((g1.trans g2).trans g3) hp rfl ((rr3.cut lv hv).grow (Grow.upd g3.wf hp))
      · cases e
    · rename_i n q
      cases e
      exact ⟨c, ρ, F, _, r, q, th⟩
    · cases e
open PySem.Spec PyProof.Rows in
theorem add_lists0 {prog : Program} {w : World} {A : Around} {E : Value → Shared → Prop} {s : Shared} {l b : Addr} {vs ws : List Value} {Q : Value → Shared → Prop} (hl : s.heap.IsList l vs.toArray) (hb : s.heap.IsList b ws.toArray)
    (h : Q (.ref s.heap.objs.size) { s with heap := s.heap.push { cls := .type "list", data := .seq (vs ++ ws).toArray } }) (hsz : vs.length + ws.length ≤ sizeLine) :
    wpAny (model prog w) A (binaryOp .Add (.ref l) (.ref b)) Q E s := by
  obtain ⟨⟨cls, dd, data, sl⟩, ho, hc, n, hd⟩ := id hl
  obtain ⟨⟨cls2, dd2, data2, sl2⟩, ho2, hc2, n2, hd2⟩ := id hb
  simp only at hc hd hc2 hd2
  subst hc hd hc2 hd2
  have e : vs.toArray ++ ws.toArray = (vs ++ ws).toArray := by simp
  refine concat_meets ⟨_, ho, rfl⟩ ⟨_, ho2, rfl⟩ noFill_list_add seq_list_add PySem.F.slot_list_add PySem.F.entry_list_add (PySem.F.args_list_add_2 _ _) (list_addW l b vs.toArray ws.toArray n n2 dd dd2 sl sl2 (by simpa using hsz)) ⟨ho, ho2, ?_⟩
  rw [e]
  exact h
theorem op_catL : OpR X (binaryOp .Add) (fun x y H Q => ∃ l b xs zs, x = .ref l ∧ y = .ref b ∧ SqL X.K H l xs ∧ SqL X.K H b zs ∧ xs.length + zs.length ≤ sizeLine ∧ ∀ p, H p = none → Q (.ref p) (upd H p (.lst (xs ++ zs)))) := by
  intro pins s σ H x y v u Q I rx ry h
  obtain ⟨l, b, xs, zs, rfl, rfl, hH, hB, hz, q⟩ := h
  cases rx
  cases ry
  obtain ⟨its, r, e, _⟩ := I.list hH
  obtain ⟨its2, r2, e2, _⟩ := I.list hB
  refine add_lists0 e.isList e2.isList ?_ (by rw [← r.length, ← r2.length]; exact hz)
  exact ⟨.ref _, _, I.lnew (t' := s.toks) (r.append r2) (by rw [List.length_append]; omega), rfl, q _ I.fresh⟩
def lCat (fa fb : Ev) : EvL := fun ρ => obndL (fa ρ) fun x => obndL (fb ρ) fun y => match x, y with
  | .lst xs, .lst ys => if smallL xs && smallL ys then some (.vals (xs ++ ys)) else none
  | _, _ => none
theorem df_cat {fa fb : Ev} (ha : PE X a (tD T X.K E fa)) (hb : PE X b (tD T X.K E fb)) : PE X (.BinOp a .Add b pos) (tDF T X.K E (lCat fa fb)) := PE.imp (pe_op op_catL ha hb) fun σ H Q ⟨c, ρ, F, out, r, e, th⟩ => by
  unfold lCat obndL at e
  split at e
  · rename_i d q
    refine ⟨c, ρ, F, _, r, q, fun v H1 F1 g1 r1 => ?_⟩
    dsimp only at e
    split at e
    · rename_i d2 q2
      refine ⟨c, ρ, F1, _, r.grow g1, q2, fun v2 H2 F2 g2 r2 => ?_⟩
      split at e
      · rename_i xs ys
        split at e
        · rename_i hs
          cases e
          rw [Bool.and_eq_true] at hs
          cases r1 with
          | lst hx rx =>
            cases r2 with
            | lst hy ry =>
              have l1 := of_decide_eq_true hs.1
              have l2 := of_decide_eq_true hs.2
              refine ⟨_, _, _, _, rfl, rfl, (hx.keep g2.ext.keep g2.more).sq, hy.sq, ?_, fun p hp => ?_⟩
              · rw [rx.length, ry.length]
                exact Nat.le_trans (Nat.add_le_add l1 l2) (by decide)
              · exact th p _ H2 _ F2 (g1.trans g2) hp rfl (((rx.grow g2).append ry).grow (Grow.upd g2.wf hp))
        · cases e
      · cases e
    · rename_i n q2
      cases e
      exact ⟨c, ρ, F1, _, r.grow g1, q2, fun H' z => th H' (g1.ext.trans z)⟩
    · cases e
  · rename_i n q
    cases e
    exact ⟨c, ρ, F, _, r, q, th⟩
  · cases e
theorem od_add : OpR X (binaryOp .Add) (rD T K (i2 addI)) := OpR.imp op_add fun x y H Q h => by
  obtain ⟨i, j, d, F, rfl, rfl, e, wf, k⟩ := rD_i2 h
  cases e
  exact ⟨i, j, rfl, rfl, k _ _ F (.refl wf) (.int _)⟩
def lOf (f : Ev) : EvL := fun ρ => obndL (f ρ) fun d => match d with
  | .lst ds => some (.vals ds)
  | .tup ds => some (.vals ds)
  | _ => none
theorem df_listof {f : Ev} {p : Pos} (ha : PE X a (tD T X.K E f)) (hg : Gl X "list") (hm : X.mg "list" = none) (he : starEach [a] X.env = (false, eval a X.env) :: starEach [] X.env := by rfl) : PE X (.Call (.Name "list" p) [a] [] pos) (tDF T X.K E (lOf f)) :=
  PE.imp (pe_callTy call_list_of hg hm (by decide +kernel) (pa_cons ha pa_nil he) (by decide) (by decide) he) fun σ H Q ⟨c, ρ, F, out, r, e, th⟩ => by
    unfold lOf obndL at e
    split at e
    · rename_i d q
      refine ⟨c, ρ, F, _, r, q, fun v H1 F1 g1 r1 => ?_⟩
      dsimp only at e
      split at e
      · cases e
        cases r1 with
        | lst hq rr => exact ⟨_, _, rfl, .inl hq.sq, fun p hp => th p _ H1 _ F1 g1 hp rfl (rr.grow (Grow.upd g1.wf hp))⟩
      · cases e
        cases r1 with
        | tup hq rr => exact ⟨_, _, rfl, .inr hq, fun p hp => th p _ H1 _ F1 g1 hp rfl (rr.grow (Grow.upd g1.wf hp))⟩
      · cases e
    · rename_i n q
      cases e
      exact ⟨c, ρ, F, _, r, q, th⟩
    · cases e
def ThenS (T : Tab) (K : PySem.W.Frag) (E : XK) (c : Ent) (H : Hp) (F : Addr → Prop) (D : Ends) : Fl → Prop
  | .nx ρ => ∀ σ H' F', Later H H' F F' → Rel T K c ρ σ H' F' → D.nx σ H'
  | .bk ρ => ∀ σ H' F', Later H H' F F' → Rel T K c ρ σ H' F' → D.bk σ H'
  | .ct ρ => ∀ σ H' F', Later H H' F F' → Rel T K c ρ σ H' F' → D.ct σ H'
  | .rt d => ∀ v H F, Grow c.H H c.F F → Rep T K F H v d → D.rt v H
  | .exc n => ∀ H, Ext c.H H → E (T.clsV n) none H
theorem ThenS.later {E : XK} {c : Ent} {H H1 : Hp} {F F1 : Addr → Prop} {D : Ends} {fl : Fl} (l : Later H H1 F F1) (h : ThenS T K E c H F D fl) : ThenS T K E c H1 F1 D fl := by
  cases fl with
  | nx ρ => exact fun σ H' F' l' r => h σ H' F' (l.trans l') r
  | bk ρ => exact fun σ H' F' l' r => h σ H' F' (l.trans l') r
  | ct ρ => exact fun σ H' F' l' r => h σ H' F' (l.trans l') r
  | rt d => exact h
  | exc n => exact h
def tDS (T : Tab) (K : PySem.W.Frag) (E : XK) (f : Sv) : TS := fun D σ H => ∃ c ρ F fl, Rel T K c ρ σ H F ∧ f ρ = some fl ∧ ThenS T K E c H F D fl
variable {st : Stmt} {sts : List Stmt}
def sNext : Sv := fun ρ => some (.nx ρ)
def sSeq (f g : Sv) : Sv := fun ρ => match f ρ with
  | some (.nx ρ') => g ρ'
  | r => r
theorem ds_nil : PSs X [] (tDS T K E sNext) := PSs.imp pss_nil fun D σ H ⟨c, ρ, F, fl, r, e, th⟩ => by cases e; exact th σ H F .refl r
theorem ds_cons {f g : Sv} (h1 : PS X st (tDS T K E f)) (h2 : PSs X sts (tDS T K E g)) : PSs X (st :: sts) (tDS T K E (sSeq f g)) := PSs.imp (pss_cons h1 h2) fun D σ H ⟨c, ρ, F, fl, r, e, th⟩ => by
  unfold sSeq at e
  split at e
  · rename_i ρ' q
    exact ⟨c, ρ, F, _, r, q, fun σ' H' F' l r' => ⟨c, ρ', F', fl, r', e, th.later l⟩⟩
  · rename_i q
    refine ⟨c, ρ, F, fl, r, e, ?_⟩
    cases fl with
    | nx ρ' => exact absurd e (q ρ')
    | bk ρ' => exact th
    | ct ρ' => exact th
    | rt d => exact th
    | exc n => exact th
theorem ds_one {f : Sv} (h1 : PS X st (tDS T K E f)) : PSs X [st] (tDS T K E f) := PSs.imp (ds_cons h1 ds_nil) fun D σ H ⟨c, ρ, F, fl, r, e, th⟩ => ⟨c, ρ, F, fl, r, by unfold sSeq; rw [e]; cases fl <;> rfl, th⟩
def sFrz (i : Nat) (g : Sv) : Sv := fun ρ => match ρ[i]? with
  | some (some (.own ds)) => g (ρ.set i (some (.sh (.lst ds))))
  | _ => g ρ
theorem ds_frz {i : Nat} {g : Sv} (h : PSs X sts (tDS T K E g)) : PSs X sts (tDS T K E (sFrz i g)) := PSs.imp h fun D σ H ⟨c, ρ, F, fl, r, e, th⟩ => by
  unfold sFrz at e
  split at e
  · rename_i ds q
    obtain ⟨F', m, r'⟩ := r.freeze q
    exact ⟨c, _, F', fl, r', e, th.later ⟨fun _ _ e _ => e, m⟩⟩
  · exact ⟨c, ρ, F, fl, r, e, th⟩
def sbnd (o : Option Out) (k : D → Option Fl) : Option Fl := match o with
  | some (.val d) => k d
  | some (.exc n) => some (.exc n)
  | none => none
def lbndS (o : Option OutL) (k : List D → Option Fl) : Option Fl := match o with
  | some (.vals d) => k d
  | some (.exc n) => some (.exc n)
  | none => none
theorem tD_bindS {f : Ev} {k : D → Option Fl} {Q : VK} {fl : Fl} {c : Ent} {ρ : Rho} {σ : L2.St} {H : Hp} {F : Addr → Prop} {D : Ends} (r : Rel T K c ρ σ H F) (e : sbnd (f ρ) k = some fl) (th : ThenS T K E c H F D fl)
    (hv : ∀ d v H' F', Grow H H' F F' → Rep T K F' H' v d → k d = some fl → Q v H') : tD T K E f σ H Q := by
  unfold sbnd at e
  split at e
  · rename_i d q
    exact ⟨c, ρ, F, _, r, q, fun v H' F' g rp => hv d v H' F' g rp e⟩
  · rename_i n q
    cases e
    exact ⟨c, ρ, F, _, r, q, fun H' z => th H' (r.ext.trans z)⟩
  · cases e
theorem tDT_bindS {f : Ev} {k : D → Option Fl} {Q : Bool → Hp → Prop} {fl : Fl} {c : Ent} {ρ : Rho} {σ : L2.St} {H : Hp} {F : Addr → Prop} {D : Ends} (r : Rel T K c ρ σ H F) (e : sbnd (f ρ) k = some fl) (th : ThenS T K E c H F D fl)
    (hk : ∀ d, k d = some fl → ∃ b, d = .bl b) (hv : ∀ b H' F', Grow H H' F F' → k (.bl b) = some fl → Q b H') : tDT T K E f σ H Q := by
  unfold sbnd at e
  split at e
  · rename_i d q
    obtain ⟨b, rfl⟩ := hk d e
    exact ⟨c, ρ, F, _, r, q, fun H' F' g => hv b H' F' g e⟩
  · rename_i n q
    cases e
    exact ⟨c, ρ, F, _, r, q, fun H' z => th H' (r.ext.trans z)⟩
  · cases e
def sExpr (f : Ev) : Sv := fun ρ => sbnd (f ρ) fun _ => some (.nx ρ)
theorem ds_expr {f : Ev} (h : PE X e (tD T K E f)) (hs : swapsWith e none pos.line X.env = pure false := by rfl) : PS X (.Expr e pos) (tDS T K E (sExpr f)) := PS.imp (ps_expr h hs) fun D σ H ⟨c, ρ, F, fl, r, e, th⟩ =>
  tD_bindS r e th fun d v H' F' g rp e1 => by cases e1; exact th σ H' F' g.later (r.grow g)
def sRet (f : Ev) : Sv := fun ρ => sbnd (f ρ) fun d => some (.rt d)
theorem ds_ret {f : Ev} (h : PE X e (tD T K E f)) : PS X (.Return (some e) pos) (tDS T K E (sRet f)) := PS.imp (ps_ret h) fun D σ H ⟨c, ρ, F, fl, r, e, th⟩ =>
  tD_bindS r e th fun d v H' F' g rp e1 => by cases e1; exact th v H' F' (r.grow g).growE rp
def sIf (q : Ev) (f g : Sv) : Sv := fun ρ => sbnd (q ρ) fun d => match d with
  | .bl true => f ρ
  | .bl false => g ρ
  | _ => none
theorem ds_if {q : Ev} {f g : Sv} {sa sb : List Stmt} (hc : PT X c (tDT T K E q)) (ha : PSs X sa (tDS T K E f)) (hb : PSs X sb (tDS T K E g)) : PS X (.If c sa sb pos) (tDS T K E (sIf q f g)) :=
  PS.imp (ps_if hc ha hb) fun D σ H ⟨c, ρ, F, fl, r, e, th⟩ => by
    refine tDT_bindS r e th (fun d e1 => ?_) (fun k H1 F1 g1 e1 => ?_)
    · split at e1
      · exact ⟨_, rfl⟩
      · exact ⟨_, rfl⟩
      · cases e1
    · cases k with
      | true => rw [if_pos rfl]; exact ⟨c, ρ, F1, fl, r.grow g1, e1, th.later g1.later⟩
      | false => rw [if_neg (by decide)]; exact ⟨c, ρ, F1, fl, r.grow g1, e1, th.later g1.later⟩
abbrev Gv := D → Rho → Option Rho
def But (ss : List Nat) (σ σ' : L2.St) : Prop := σ'.length = σ.length ∧ ∀ j : Nat, j ∉ ss → σ'[j]? = σ[j]?
theorem But.refl {ss : List Nat} {σ : L2.St} : But ss σ σ := ⟨rfl, fun _ _ => rfl⟩
theorem But.trans {ss ts : List Nat} {σ σ1 σ2 : L2.St} (a : But ss σ σ1) (b : But ts σ1 σ2) : But (ss ++ ts) σ σ2 := ⟨b.1.trans a.1, fun j hj => by
  rw [List.mem_append] at hj
  rw [b.2 j fun z => hj (.inr z), a.2 j fun z => hj (.inl z)]⟩
def tDG (T : Tab) (K : PySem.W.Frag) (g : Gv) (ss : List Nat) : TG := fun v σ H Q => ∃ c ρ F d ρ', Rel T K c ρ σ H F ∧ Rep T K F H v d ∧ g d ρ = some ρ' ∧ ∀ σ', Rel T K c ρ' σ' H F → But ss σ σ' → Q σ' H
abbrev Gvs := List D → Rho → Option Rho
def tDGs (T : Tab) (K : PySem.W.Frag) (g : Gvs) (ss : List Nat) : TGs := fun vs σ H Q => ∃ c ρ F ds ρ', Rel T K c ρ σ H F ∧ Reps T K F H vs ds ∧ g ds ρ = some ρ' ∧ ∀ σ', Rel T K c ρ' σ' H F → But ss σ σ' → Q σ' H
def gNm (i : Nat) : Gv := fun d ρ => some (ρ.set i (some (.sh d)))
theorem dg_name {i : Nat} {x : Str} (hN : X.N.Nodup) (hi : X.N[i]? = some x) (hx : Loc X.env.scope x) (hf : X.fn x = true ∨ X.env.scope.names.lookup x = some .local := by first | exact .inl rfl | exact .inr rfl | assumption) : PG X (.Name x pos) (tDG T K (gNm i) [i]) :=
  PG.imp (pg_name hN hi hx hf) fun v σ H Q ⟨c, ρ, F, d, ρ', r, rp, e, k⟩ => by cases e; exact k _ (r.set rp) ⟨List.length_set, fun j hj => get_set_ne fun z => hj (by simp [z])⟩
def gsNil : Gvs := fun ds ρ => match ds with
  | [] => some ρ
  | _ => none
def gsCons (g : Gv) (h : Gvs) : Gvs := fun ds ρ => match ds with
  | d :: r => (g d ρ).bind fun ρ' => h r ρ'
  | _ => none
theorem dgs_nil : PGs X [] (tDGs T K gsNil []) := fun pins s σ H vs us Q I r ⟨c, ρ, F, ds, ρ', rl, rp, e, k⟩ => pgs_nil pins s σ H vs us Q I r (by
  unfold gsNil at e
  split at e
  · cases rp; cases e; exact ⟨rfl, k _ rl .refl⟩
  · cases e)
theorem dgs_cons {g : Gv} {h : Gvs} {ss ts : List Nat} (h1 : PG X e (tDG T K g ss)) (h2 : PGs X es (tDGs T K h ts)) (hs : (assignEach (e :: es) X.env).map (·.2) = assign e X.env :: (assignEach es X.env).map (·.2) := by rfl) : PGs X (e :: es) (tDGs T K (gsCons g h) (ss ++ ts)) :=
  fun pins s σ H vs us Q I r ⟨c, ρ, F, ds, ρ', rl, rp, e, k⟩ => pgs_cons h1 h2 hs pins s σ H vs us Q I r (by
    unfold gsCons at e
    split at e
    · rename_i d ds'
      cases rp with
      | cons r1 r2 =>
        cases q : g d ρ with
        | none => rw [q] at e; cases e
        | some ρ1 =>
          rw [q] at e
          exact ⟨_, _, rfl, c, ρ, F, d, ρ1, rl, r1, q, fun σ1 rl1 b1 => ⟨c, ρ1, F, _, ρ', rl1, r2, e, fun σ2 rl2 b2 => k σ2 rl2 (b1.trans b2)⟩⟩
    · cases e)
def gTp (h : Gvs) : Gv := fun d ρ => match d with
  | .tup ds => h ds ρ
  | _ => none
theorem dg_tup {kk : Nat} {h : Gvs} {n : Nat} {ss : List Nat} (hc : X.calm = true) (hh : PGs X es (tDGs T X.K h ss)) (hl : ∀ ds ρ ρ', h ds ρ = some ρ' → ds.length = n) (hn : (assignEach es X.env).length = n := by rfl) (hst : (assignEach es X.env).findIdx? (·.1) = none := by rfl) :
    PG X (.Tuple es kk pos) (tDG T X.K (gTp h) ss) := PG.imp (pg_tup hc hh hn hst) fun v σ H Q ⟨c, ρ, F, d, ρ', r, rp, e, k⟩ => by
  unfold gTp at e
  split at e
  · cases rp with
    | tup hq rr => exact ⟨_, _, rfl, hq, by rw [rr.length]; exact hl _ _ _ e, c, ρ, F, _, ρ', r, rr, e, k⟩
  · cases e
theorem gl_nil : ∀ ds ρ ρ', gsNil ds ρ = some ρ' → ds.length = 0 := fun ds ρ ρ' e => by
  unfold gsNil at e
  split at e
  · rfl
  · cases e
theorem gl_cons {g : Gv} {h : Gvs} {n : Nat} (hl : ∀ ds ρ ρ', h ds ρ = some ρ' → ds.length = n) : ∀ ds ρ ρ', gsCons g h ds ρ = some ρ' → ds.length = n + 1 := fun ds ρ ρ' e => by
  unfold gsCons at e
  split at e
  · rename_i d r
    cases q : g d ρ with
    | none => rw [q] at e; cases e
    | some ρ1 => rw [q] at e; simp [hl _ _ _ e]
  · cases e
def sAsg (f : Ev) (g : Gv) : Sv := fun ρ => sbnd (f ρ) fun d => (g d ρ).map .nx
theorem ds_asg {tg : Expr} {f : Ev} {g : Gv} {ss : List Nat} (he : PE X e (tD T K E f)) (hg : PG X tg (tDG T K g ss)) (hs : swapsWithSole [tg] e pos.line X.env = pure false := by rfl) (hw : swappedStores [tg] e X.env = pure none := by rfl) (h1 : (assignEach [tg] X.env).map (·.2) = [assign tg X.env] := by rfl)
    : PS X (.Assign [tg] e pos) (tDS T K E (sAsg f g)) := PS.imp (ps_asg he hg hs hw h1) fun D σ H ⟨c, ρ, F, fl, r, e, th⟩ =>
  tD_bindS r e th fun d v H' F' g' rp e1 => by
    cases q : g d ρ with
    | none => rw [q] at e1; cases e1
    | some ρ1 =>
      rw [q] at e1
      cases e1
      exact ⟨c, ρ, F', d, ρ1, r.grow g', rp, q, fun σ' r' _ => th σ' H' F' g'.later r'⟩
theorem ds_set {i : Nat} {x : Str} {f : Ev} {pos' : Pos} (hN : X.N.Nodup) (hi : X.N[i]? = some x) (hx : Loc X.env.scope x) (he : PE X e (tD T K E f)) (hs : swapsWith e (some (.Name x pos')) pos.line X.env = pure false := by rfl)
    (hf : X.fn x = true ∨ X.env.scope.names.lookup x = some .local := by first | exact .inl rfl | exact .inr rfl | assumption) : PS X (.Assign [.Name x pos'] e pos) (tDS T K E (sAsg f (gNm i))) := PS.imp (ps_set hN hi hx he hs hf) fun D σ H ⟨c, ρ, F, fl, r, e, th⟩ =>
  tD_bindS r e th fun d v H' F' g' rp e1 => by
    cases e1
    exact th _ H' F' g'.later ((r.grow g').set rp)
theorem rel_own {c : Ent} {ρ : Rho} {σ : L2.St} {H H1 H' : Hp} {F F' : Addr → Prop} {p : Addr} {vs : List V} {ds : List D} (r : Rel T K c ρ σ H F) (g : Grow H H1 F F') (hp : H1 p = none) (eH : H' = upd H1 p (.lst vs)) (rp : Reps T K F' H' vs ds) (i : Nat) :
    Rel T K c (ρ.set i (some (.own ds))) (σ.set i (some (.ref p))) H' F' := by
  subst eH
  have g2 : Grow H1 (upd H1 p (.lst vs)) F' F' := Grow.upd g.wf hp
  have r2 := (r.grow g).grow g2
  refine r2.setOwn upd_same rp (fun z => g.wf p z hp) ((r.grow g).ext.none hp) fun j ds' q1 q2 => ?_
  obtain ⟨p', vs', h1, h2, _⟩ := (r.grow g).own j ds' q1
  rw [q2] at h1
  cases h1
  rw [hp] at h2
  cases h2
def sPar (i j : Nat) (fa fb : Ev) : Sv := fun ρ => sbnd (fa ρ) fun x => sbnd (fb ρ) fun y => some (.nx ((ρ.set i (some (.sh x))).set j (some (.sh y))))
theorem ds_par {i j : Nat} {x y : Str} {fa fb : Ev} {px py pt : Pos} {kt k2 pt2} (hc : X.calm = true) (hN : X.N.Nodup) (hi : X.N[i]? = some x) (hj : X.N[j]? = some y) (hij : i ≠ j) (hx : X.env.scope.names.lookup x = some .local) (hy : X.env.scope.names.lookup y = some .local)
    (ha : PE X a (tD T K E fa)) (hb : PE X b (tD T K E fb)) (hw : swappedStores [.Tuple [.Name x px, .Name y py] kt pt] (.Tuple [a, b] k2 pt2) X.env = pure (some [x, y]) := by rfl)
    (hs1 : starEach [a, b] X.env = (false, eval a X.env) :: starEach [b] X.env := by rfl) (hs2 : starEach [b] X.env = (false, eval b X.env) :: starEach [] X.env := by rfl)
    (hs : swapsWithSole [.Tuple [.Name x px, .Name y py] kt pt] (.Tuple [a, b] k2 pt2) pos.line X.env = pure false := by rfl) :
    PS X (.Assign [.Tuple [.Name x px, .Name y py] kt pt] (.Tuple [a, b] k2 pt2) pos) (tDS T K E (sPar i j fa fb)) := PS.imp (ps_par hc hN hi hj hij hx hy (pa_cons ha (pa_cons hb pa_nil hs2) hs1) hw hs) fun D σ H ⟨c, ρ, F, fl, r, e, th⟩ =>
  tD_bindS r e th fun d v H1 F1 g1 r1 e1 => tD_bindS (r.grow g1) e1 (th.later g1.later) fun d2 v2 H2 F2 g2 r2 e2 => by
    cases e2
    exact ⟨v, v2, rfl, th _ H2 F2 (g1.trans g2).later ((((r.grow g1).grow g2).set (r1.grow g2)).set r2)⟩
end
end BD
namespace BD
open PySem L2
variable {T : Tab} {K : PySem.W.Frag}
theorem SqF.later {H H' : Hp} {F F' : Addr → Prop} {a : Addr} {xs : List V} (l : Later H H' F F') (h : SqF K F H a xs) : SqF K F' H' a xs := h.keep l.keep l.more
theorem Rep.later {H H' : Hp} {F F' : Addr → Prop} {v : V} {d : D} (l : Later H H' F F') (h : Rep T K F H v d) : Rep T K F' H' v d := h.keep l.keep l.more
theorem Reps.later {H H' : Hp} {F F' : Addr → Prop} {v : List V} {d : List D} (l : Later H H' F F') (h : Reps T K F H v d) : Reps T K F' H' v d := h.keep l.keep l.more
def Yields (T : Tab) (K : PySem.W.Frag) (J : It) (ds : List D) (H : Hp) (F : Addr → Prop) : Prop :=
  ∃ P : Hp → (Addr → Prop) → Prop, P H F ∧ (∀ H F H' F', P H F → Later H H' F F' → P H' F') ∧
    ∀ H F i, P H F → (∀ a, F a → H a ≠ none) → (i < ds.length → J.go i H ∧ ∀ x H', J.yld i H x H' → ∃ d, ds[i]? = some d ∧ ∃ F', Grow H H' F F' ∧ Rep T K F' H' x d) ∧ (ds.length ≤ i → J.stop i H)
def ThenI (T : Tab) (K : PySem.W.Frag) (E : XK) (H : Hp) (F : Addr → Prop) (R : It → Hp → Prop) : OutL → Prop
  | .vals ds => ∀ J H' F', Grow H H' F F' → Yields T K J ds H' F' → R J H'
  | .exc n => ∀ H', Ext H H' → E (T.clsV n) none H'
def tDI (T : Tab) (K : PySem.W.Frag) (E : XK) (f : EvL) : TI := fun σ H R => ∃ c ρ F out, Rel T K c ρ σ H F ∧ f ρ = some out ∧ ThenI T K E H F R out
section
variable {X : Cx} {E : XK} {a b c e l tg : Expr} {es rest : List Expr} {pos : Pos}
theorem PI.imp {wi wi' : TI} (h : PI X tg l wi) (w : ∀ σ H R, wi' σ H R → wi σ H R) : PI X tg l wi' := fun pins s σ H R I q => h pins s σ H R I (w σ H R q)
theorem get_of_lt {α : Type} {xs : List α} {i : Nat} (h : i < xs.length) : ∃ x, xs[i]? = some x := ⟨xs[i], by simp [h]⟩
theorem yields_list {H : Hp} {F : Addr → Prop} {p : Addr} {vs : List V} {ds : List D} (h : SqF K F H p vs) (r : Reps T K F H vs ds) : Yields T K (Itl K p) ds H F := by
  refine ⟨fun H F => SqF K F H p vs ∧ Reps T K F H vs ds, ⟨h, r⟩, fun H F H' F' q l => ⟨q.1.later l, q.2.later l⟩, fun H F i q wf => ⟨fun hi => ⟨?_, fun x H' y => ?_⟩, fun hi => ?_⟩⟩
  · obtain ⟨x, hx⟩ := get_of_lt (show i < vs.length by rw [q.2.length]; exact hi)
    exact ⟨vs, x, q.1.sq, hx⟩
  · obtain ⟨e, y⟩ := y
    subst e
    have hx := y vs q.1.sq
    obtain ⟨d, h1, h2⟩ := q.2.get' hx
    exact ⟨d, h1, F, .refl wf, h2⟩
  · exact ⟨vs, q.1.sq, by rw [q.2.length]; exact hi⟩
def rngD (lo st : Int) (n : Nat) : List D := (List.range n).map fun k : Nat => D.int (lo + ((k : Nat) : Int) * st)
theorem yields_range {lo : Int} {n : Nat} {H : Hp} {F : Addr → Prop} : Yields T K (Itr lo n) (rngD lo 1 n) H F := by
  have hl : (rngD lo 1 n).length = n := by simp [rngD]
  refine ⟨fun _ _ => True, trivial, fun _ _ _ _ _ _ => trivial, fun H F i _ wf => ⟨fun hi => ⟨?_, fun x H' y => ?_⟩, fun hi => ?_⟩⟩
  · rw [hl] at hi; exact hi
  · obtain ⟨e, y⟩ := y
    subst e y
    rw [hl] at hi
    refine ⟨.int (lo + ((i : Nat) : Int) * 1), by simp [rngD, hi], F, .refl wf, ?_⟩
    rw [Int.mul_one]; exact .int _
  · rw [hl] at hi; exact hi
def enumD (xs : List D) : List D := (List.range xs.length).map fun k : Nat => D.tup [.int ((k : Nat) : Int), (xs[k]?).getD .non]
theorem yields_enum {H : Hp} {F : Addr → Prop} {p : Addr} {vs : List V} {ds : List D} (h : SqF K F H p vs) (r : Reps T K F H vs ds) : Yields T K (Ite K p) (enumD ds) H F := by
  have hl : (enumD ds).length = ds.length := by simp [enumD]
  refine ⟨fun H F => SqF K F H p vs ∧ Reps T K F H vs ds, ⟨h, r⟩, fun H F H' F' q l => ⟨q.1.later l, q.2.later l⟩, fun H F i q wf => ⟨fun hi => ⟨?_, fun x H' y => ?_⟩, fun hi => ?_⟩⟩
  · rw [hl] at hi
    obtain ⟨x, hx⟩ := get_of_lt (show i < vs.length by rw [q.2.length]; exact hi)
    exact ⟨vs, x, q.1.sq, hx⟩
  · rw [hl] at hi
    obtain ⟨t, x1, rfl, ht, rfl, hx⟩ := y
    obtain ⟨d1, a1, b1⟩ := q.2.get' (hx vs q.1.sq)
    have g := Grow.upd (o := .tup [V.int (i : Nat), x1]) wf ht
    refine ⟨.tup [.int (i : Int), d1], ?_, F, g, .tup (SqT.of upd_same) ((Reps.cons (.int _) (.cons b1 .nil)).grow g)⟩
    have hd : ds[i] = d1 := by obtain ⟨_, z⟩ := List.getElem?_eq_some_iff.mp a1; exact z
    simp [enumD, hi, hd]
  · rw [hl] at hi
    exact ⟨vs, q.1.sq, by rw [q.2.length]; exact hi⟩
def wSeq (f : Ev) : EvL := fun ρ => obndL (f ρ) fun d => match d with
  | .lst ds => some (.vals ds)
  | _ => none
theorem di_list {f : Ev} (h : PE X l (tD T X.K E f)) : PI X tg l (tDI T X.K E (wSeq f)) := PI.imp (pi_list h) fun σ H R ⟨c, ρ, F, out, r, e, th⟩ => by
  unfold wSeq obndL at e
  split at e
  · rename_i d q
    refine ⟨c, ρ, F, _, r, q, fun v H1 F1 g1 r1 => ?_⟩
    dsimp only at e
    split at e
    · cases e
      cases r1 with
      | lst hq rr => exact ⟨_, rfl, ⟨_, hq.sq⟩, th _ H1 F1 g1 (yields_list hq rr)⟩
    · cases e
  · rename_i n q
    cases e
    exact ⟨c, ρ, F, _, r, q, th⟩
  · cases e
def big62 (i : Int) : Bool := decide (-(2 ^ 62) ≤ i) && decide (i < 2 ^ 62)
theorem tDA_bindI {f : EvL} {k : List D → Option OutL} {Q : List V → Hp → Prop} {out : OutL} {c : Ent} {ρ : Rho} {σ : L2.St} {H : Hp} {F : Addr → Prop} {R : It → Hp → Prop} (r : Rel T K c ρ σ H F) (e : lbndL (f ρ) k = some out)
    (th : ThenI T K E H F R out) (nx : ∀ ds n, k ds ≠ some (.exc n))
    (hv : ∀ d v H' F' ds, Grow H H' F F' → Reps T K F' H' v d → k d = some (.vals ds) → (∀ J, Yields T K J ds H' F' → R J H') → Q v H') : tDA T K E f σ H Q := by
  unfold lbndL at e
  split at e
  · rename_i d q
    refine ⟨c, ρ, F, _, r, q, fun v H' F' g rp => ?_⟩
    cases out with
    | vals ds => exact hv d v H' F' ds g rp e fun J y => th J H' F' g y
    | exc n => exact absurd e (nx d n)
  · rename_i n q
    cases e
    exact ⟨c, ρ, F, _, r, q, th⟩
  · cases e
def wRng1 (f : EvL) : EvL := fun ρ => lbndL (f ρ) fun ds => match ds with
  | [.int j] => if big62 j then some (.vals (rngD 0 1 j.toNat)) else none
  | _ => none
def wRng2 (f : EvL) : EvL := fun ρ => lbndL (f ρ) fun ds => match ds with
  | [.int i, .int j] => if big62 i && big62 j then some (.vals (rngD i 1 (j - i).toNat)) else none
  | _ => none
theorem big_ok {i : Int} (h : big62 i = true) : -(2 ^ 62) ≤ i ∧ i < 2 ^ 62 := by
  unfold big62 at h
  rw [Bool.and_eq_true] at h
  exact ⟨of_decide_eq_true h.1, of_decide_eq_true h.2⟩
theorem di_range1 {f : EvL} {p : Pos} (hg : Gl X "range") (hm : X.mg "range" = none) (ha : PA X [a] (tDA T K E f)) (hs : starEach [a] X.env = [(false, eval a X.env)] := by rfl) : PI X tg (.Call (.Name "range" p) [a] [] pos) (tDI T K E (wRng1 f)) :=
  PI.imp (pi_range1 hg hm ha hs) fun σ H R ⟨c, ρ, F, out, r, e, th⟩ => by
    refine tDA_bindI r e th (fun ds n z => ?_) (fun d v H' F' ds g rp e1 k => ?_)
    · split at z
      · split at z <;> cases z
      · cases z
    · split at e1
      · split at e1
        · rename_i hb
          cases e1
          cases rp with
          | cons r1 t => cases t; cases r1; exact ⟨_, rfl, (big_ok hb).1, (big_ok hb).2, k _ yields_range⟩
        · cases e1
      · cases e1
theorem di_range2 {f : EvL} {p : Pos} (hg : Gl X "range") (hm : X.mg "range" = none) (ha : PA X [a, b] (tDA T K E f)) (hs : starEach [a, b] X.env = [(false, eval a X.env), (false, eval b X.env)] := by rfl) (hs2 : starEach [b] X.env = [(false, eval b X.env)] := by rfl) :
    PI X tg (.Call (.Name "range" p) [a, b] [] pos) (tDI T K E (wRng2 f)) :=
  PI.imp (pi_range2 hg hm ha hs hs2) fun σ H R ⟨c, ρ, F, out, r, e, th⟩ => by
    refine tDA_bindI r e th (fun ds n z => ?_) (fun d v H' F' ds g rp e1 k => ?_)
    · split at z
      · split at z <;> cases z
      · cases z
    · split at e1
      · split at e1
        · rename_i hb
          rw [Bool.and_eq_true] at hb
          cases e1
          cases rp with
          | cons r1 t => cases t with | cons r2 t2 => cases t2; cases r1; cases r2; exact ⟨_, _, rfl, ⟨(big_ok hb.1).1, (big_ok hb.1).2, (big_ok hb.2).1, (big_ok hb.2).2⟩, k _ yields_range⟩
        · cases e1
      · cases e1
def wEnum (f : EvL) : EvL := fun ρ => lbndL (f ρ) fun ds => match ds with
  | [.lst xs] => some (.vals (enumD xs))
  | _ => none
theorem di_enum {f : EvL} {p tpos : Pos} {elts : List Expr} {kk : Nat} (hg : Gl X "enumerate") (hm : X.mg "enumerate" = none) (ha : PA X [a] (tDA T X.K E f)) (hs : starEach [a] X.env = [(false, eval a X.env)] := by rfl) :
    PI X (.Tuple elts kk tpos) (.Call (.Name "enumerate" p) [a] [] pos) (tDI T X.K E (wEnum f)) :=
  PI.imp (pi_enum hg hm ha hs) fun σ H R ⟨c, ρ, F, out, r, e, th⟩ => by
    refine tDA_bindI r e th (fun ds n z => ?_) (fun d v H' F' ds g rp e1 k => ?_)
    · split at z
      · cases z
      · cases z
    · split at e1
      · cases e1
        cases rp with
        | cons r1 t => cases t; cases r1 with | lst h1 q1 => exact ⟨_, _, rfl, h1.sq, k _ (yields_enum h1 q1)⟩
      · cases e1
def forS (g : Gv) (body : Sv) : List D → Sv
  | [], ρ => some (.nx ρ)
  | d :: ds, ρ => (g d ρ).bind fun ρ1 => match body ρ1 with
    | some (.nx ρ2) => forS g body ds ρ2
    | some (.ct ρ2) => forS g body ds ρ2
    | some (.bk ρ2) => some (.nx ρ2)
    | r => r
def sFor (f : EvL) (g : Gv) (body : Sv) : Sv := fun ρ => lbndS (f ρ) fun ds => forS g body ds ρ
theorem drop_cons {α : Type} {xs : List α} {i : Nat} {x : α} (h : xs[i]? = some x) : xs.drop i = x :: xs.drop (i + 1) := by
  obtain ⟨hl, e⟩ := List.getElem?_eq_some_iff.mp h
  rw [← e]
  exact List.drop_eq_getElem_cons hl
theorem ds_for {f : EvL} {g : Gv} {fb : Sv} {body : List Stmt} {ss : List Nat} (hp : PassesOwn (model X.prog X.w) X.A X.env X.xe) (hc : X.calm = true) (hi : PI X tg l (tDI T K E f)) (hg : PG X tg (tDG T K g ss)) (hb : PSs X body (tDS T K E fb))
    (hs : ∀ x, foldedSetIterable l X.env x = pure x := by intro _; rfl) : PS X (.For tg l body [] pos) (tDS T K E (sFor f g fb)) := PS.imp (ps_for hp hc hi hg hb hs) fun D σ H ⟨c, ρ, F, fl, r, e, th⟩ => by
  unfold sFor lbndS at e
  split at e
  · rename_i ds q
    refine ⟨c, ρ, F, _, r, q, fun J H1 F1 g1 ⟨P, p1, pl, py⟩ => ?_⟩
    refine ⟨fun i m σ' H' => m = ds.length - i ∧ i ≤ ds.length ∧ ∃ ρ' F', Rel T K c ρ' σ' H' F' ∧ P H' F' ∧ forS g fb (ds.drop i) ρ' = some fl ∧ Later H H' F F', ⟨ds.length, by simp, Nat.zero_le _, ρ, F1, r.grow g1, p1, e, g1.later⟩, ?_⟩
    rintro i m σ' H' ⟨rfl, hi, ρ', F', r', p', e', l'⟩
    obtain ⟨y1, y2⟩ := py H' F' i p' r'.wf
    by_cases hlt : i < ds.length
    · obtain ⟨go, yl⟩ := y1 hlt
      refine .inr ⟨go, fun σ2 H2 => ∃ ρ2 F2, Rel T K c ρ2 σ2 H2 F2 ∧ P H2 F2 ∧ forS g fb (ds.drop (i + 1)) ρ2 = some fl ∧ Later H H2 F F2, fun σ2 H2 ⟨ρ2, F2, r2, p2, e2, l2⟩ => ⟨ds.length - (i + 1), by omega, rfl, hlt, ρ2, F2, r2, p2, e2, l2⟩, fun x H2 y => ?_⟩
      obtain ⟨d, hd, F2, g2, rp⟩ := yl x H2 y
      rw [drop_cons hd] at e'
      unfold forS at e'
      cases qg : g d ρ' with
      | none => rw [qg] at e'; cases e'
      | some ρ1 =>
        rw [qg] at e'
        refine ⟨c, ρ', F2, d, ρ1, r'.grow g2, rp, qg, fun σ3 r3 _ => ?_⟩
        have e' : (match fb ρ1 with
          | some (.nx ρ2) => forS g fb (ds.drop (i + 1)) ρ2
          | some (.ct ρ2) => forS g fb (ds.drop (i + 1)) ρ2
          | some (.bk ρ2) => some (.nx ρ2)
          | r => r) = some fl := e'
        have p2 := pl _ _ _ _ p' g2.later
        cases qb : fb ρ1 with
        | none => rw [qb] at e'; cases e'
        | some fl1 =>
          rw [qb] at e'
          refine ⟨c, ρ1, F2, fl1, r3, qb, ?_⟩
          cases fl1 with
          | nx ρ2 => exact fun σ4 H4 F4 l4 r4 => ⟨ρ2, F4, r4, pl _ _ _ _ p2 l4, e', (l'.trans g2.later).trans l4⟩
          | ct ρ2 => exact fun σ4 H4 F4 l4 r4 => ⟨ρ2, F4, r4, pl _ _ _ _ p2 l4, e', (l'.trans g2.later).trans l4⟩
          | bk ρ2 => cases e'; exact fun σ4 H4 F4 l4 r4 => th σ4 H4 F4 ((l'.trans g2.later).trans l4) r4
          | rt d => cases e'; exact th
          | exc n => cases e'; exact th
    · have hi' : i = ds.length := by omega
      subst hi'
      rw [List.drop_length] at e'
      cases e'
      exact .inl ⟨y2 (Nat.le_refl _), th σ' H' F' l' r'⟩
  · rename_i n q
    cases e
    exact ⟨c, ρ, F, _, r, q, fun H' z => th H' (r.ext.trans z)⟩
  · cases e
def whileS (q : Ev) (body : Sv) : Nat → Sv
  | 0, _ => none
  | n + 1, ρ => sbnd (q ρ) fun d => match d with
    | .bl true => (match body ρ with
      | some (.nx ρ2) => whileS q body n ρ2
      | some (.ct ρ2) => whileS q body n ρ2
      | some (.bk ρ2) => some (.nx ρ2)
      | r => r)
    | .bl false => some (.nx ρ)
    | _ => none
def sWhile (m : Rho → Nat) (q : Ev) (body : Sv) : Sv := fun ρ => whileS q body (m ρ) ρ
theorem ds_while {m : Rho → Nat} {q : Ev} {fb : Sv} {body : List Stmt} (hp : PassesOwn (model X.prog X.w) X.A X.env X.xe) (hc : PT X c (tDT T K E q)) (hb : PSs X body (tDS T K E fb)) : PS X (.While c body [] pos) (tDS T K E (sWhile m q fb)) :=
  PS.imp (ps_while hp hc hb) fun D σ H ⟨c, ρ, F, fl, r, e, th⟩ => by
    refine ⟨fun n σ' H' => ∃ ρ' F', Rel T K c ρ' σ' H' F' ∧ whileS q fb n ρ' = some fl ∧ Later H H' F F', ⟨m ρ, ρ, F, r, e, .refl⟩, ?_⟩
    rintro n σ' H' ⟨ρ', F', r', e', l'⟩
    cases n with
    | zero => cases e'
    | succ n =>
      unfold whileS at e'
      refine tDT_bindS r' e' (th.later l') (fun d e1 => ?_) (fun k H1 F1 g1 e1 => ?_)
      · split at e1
        · exact ⟨_, rfl⟩
        · exact ⟨_, rfl⟩
        · cases e1
      · cases k with
        | false => rw [if_neg (by decide)]; cases e1; exact th σ' H1 F1 (l'.trans g1.later) (r'.grow g1)
        | true =>
          rw [if_pos rfl]
          refine ⟨fun σ2 H2 => ∃ ρ2 F2, Rel T K c ρ2 σ2 H2 F2 ∧ whileS q fb n ρ2 = some fl ∧ Later H H2 F F2, fun σ2 H2 h2 => ⟨n, Nat.lt_succ_self _, h2⟩, ?_⟩
          dsimp only at e1
          cases qb : fb ρ' with
          | none => rw [qb] at e1; cases e1
          | some fl1 =>
            rw [qb] at e1
            refine ⟨c, ρ', F1, fl1, r'.grow g1, qb, ?_⟩
            cases fl1 with
            | nx ρ2 => exact fun σ4 H4 F4 l4 r4 => ⟨ρ2, F4, r4, e1, (l'.trans g1.later).trans l4⟩
            | ct ρ2 => exact fun σ4 H4 F4 l4 r4 => ⟨ρ2, F4, r4, e1, (l'.trans g1.later).trans l4⟩
            | bk ρ2 => cases e1; exact fun σ4 H4 F4 l4 r4 => th σ4 H4 F4 ((l'.trans g1.later).trans l4) r4
            | rt d => cases e1; exact th
            | exc n => cases e1; exact th
end
end BD
namespace BD
open PySem L2
variable {T : Tab} {K : PySem.W.Frag}
section
variable {X : Cx} {E : XK} {a b c e l tg : Expr} {es rest : List Expr} {pos : Pos}
def sApp (i : Nat) (f : Ev) : Sv := fun ρ => match ρ[i]? with
  | some (some (.own ds)) => sbnd (f ρ) fun d => if smallL ds then some (.nx (ρ.set i (some (.own (ds ++ [d]))))) else none
  | _ => none
theorem ds_append {i : Nat} {f : Ev} {o : Expr} {apos cpos : Pos} (ho : PE X o (tVar i)) (ha : PE X e (tD T X.K E f)) (hbase : attributeBase o "append" X.env (eval o X.env) = eval o X.env := by rfl)
    (hfew : ((backTo cpos (starEach [e] X.env)).all (fun x => !x.1) && (backToKw cpos (keywordEach [] X.env)).all (fun x => x.1.isSome) && decide ([e].length + ([] : List Keyword).length + (if ([] : List Keyword).isEmpty then 0 else 1) < 30)) = true := by rfl)
    (hline : (apos.endLine == cpos.line) = true := by rfl) (hs : starEach [e] X.env = (false, eval e X.env) :: starEach [] X.env := by rfl)
    (hsw : swapsWith (.Call (.Attribute o "append" apos) [e] [] cpos) none pos.line X.env = pure false := by rfl) : PS X (.Expr (.Call (.Attribute o "append" apos) [e] [] cpos) pos) (tDS T X.K E (sApp i f)) :=
  PS.imp (ps_expr (pe_bm PySem.F.plainAttrs_list PySem.F.slot_list_append PySem.F.type_list_append mt_append ho (pa_cons ha pa_nil hs) hbase hfew hline hs) hsw) fun D σ H ⟨c, ρ, F, fl, r, e, th⟩ => by
    unfold sApp at e
    split at e
    · rename_i ds q
      obtain ⟨p, vs, h1, h2, h3, h4, h5, h6⟩ := r.own i ds q
      refine ⟨_, h1, .inl ⟨rfl, vs, SqL.of h2⟩, ?_⟩
      refine tD_bindS r e th fun d v H1 F1 g1 r1 e1 => ?_
      split at e1
      · rename_i hsm
        cases e1
        refine ⟨p, vs, v, rfl, rfl, g1.ext _ _ h2, smallL_ok h3 hsm, ?_⟩
        obtain ⟨kp, r'⟩ := (r.grow g1).change q h1 ((h3.grow g1).append (.cons r1 .nil))
        exact th σ _ F1 (g1.later.trans ⟨kp, fun _ z => z⟩) r'
      · cases e1
    · cases e
def wipeR (ρ : Rho) : List Nat → Rho
  | [] => ρ
  | v :: vs => (wipeR ρ vs).set v none
theorem Rel.wipe {c : Ent} {ρ : Rho} {σ : L2.St} {H : Hp} {F : Addr → Prop} (r : Rel T K c ρ σ H F) : ∀ vs : List Nat, Rel T K c (wipeR ρ vs) (wipe σ vs) H F
  | [] => r
  | v :: vs => (r.wipe vs).drop
theorem wipe_get (σ : L2.St) : ∀ (vs : List Nat) (j : Nat), (wipe σ vs)[j]? = if j ∈ vs then (σ[j]?).map (fun _ => none) else σ[j]?
  | [], j => by simp [L2.wipe]
  | v :: vs, j => by
    unfold L2.wipe
    by_cases hj : j = v
    · subst hj
      rw [List.getElem?_set_self']
      rw [wipe_get σ vs j]
      simp
      split
      · cases σ[j]? <;> rfl
      · cases σ[j]? <;> rfl
    · rw [get_set_ne hj, wipe_get σ vs j]
      simp [hj]
theorem wipe_but {ss vs : List Nat} {σ σ' : L2.St} (b : But ss (wipe σ vs) σ') (h : ∀ j ∈ ss, j ∈ vs) : wipe σ' vs = wipe σ vs := by
  apply List.ext_getElem?
  intro j
  rw [wipe_get, wipe_get]
  by_cases hj : j ∈ vs
  · rw [if_pos hj, if_pos hj]
    have hl : σ'.length = σ.length := by rw [b.1, wipe_length]
    by_cases hlt : j < σ.length
    · rw [List.getElem?_eq_getElem hlt, List.getElem?_eq_getElem (by omega)]; rfl
    · rw [List.getElem?_eq_none (by omega), List.getElem?_eq_none (by omega)]
  · rw [if_neg hj, if_neg hj, b.2 j fun z => hj (h j z), wipe_get, if_neg hj]
def qYes : Ev := fun _ => some (.val (.bl true))
theorem dts_nil : PTs X [] (tDT T K E qYes) := fun pins s σ H Q I ⟨c, ρ, F, out, r, e, th⟩ => pts_nil pins s σ H Q I (by cases e; exact th H F (.refl r.wf))
theorem dts_one {q : Ev} (h : PT X c (tDT T K E q)) : PTs X [c] (tDT T K E q) := pts_one h
def compS (g : Gv) (q elt : Ev) (ρ : Rho) : List D → Option (List D)
  | [] => some []
  | d :: ds => (g d ρ).bind fun ρ1 => match q ρ1 with
    | some (.val (.bl true)) => (match elt ρ1 with
      | some (.val y) => (compS g q elt ρ ds).map (y :: ·)
      | _ => none)
    | some (.val (.bl false)) => compS g q elt ρ ds
    | _ => none
def lComp (f : EvL) (g : Gv) (q elt : Ev) (vs : List Nat) : EvL := fun ρ => lbndL (f ρ) fun ds => if smallL ds then (compS g q elt (wipeR ρ vs) ds).map .vals else none
def rm (H : Hp) (p : Addr) : Hp := fun a => if a = p then none else H a
theorem rm_self {H : Hp} {p : Addr} : rm H p p = none := if_pos rfl
theorem rm_ne {H : Hp} {p a : Addr} (h : a ≠ p) : rm H p a = H a := if_neg h
theorem rm_upd {H : Hp} {p : Addr} {o : HO} (h : H p = some o) : upd (rm H p) p o = H := by
  funext a
  by_cases ha : a = p
  · subst ha; rw [upd_same, h]
  · rw [upd_ne ha, rm_ne ha]
theorem rm_of_none {H : Hp} {p : Addr} (h : H p = none) : rm H p = H := by
  funext a
  by_cases ha : a = p
  · subst ha; rw [rm_self, h]
  · exact rm_ne ha
theorem rm_upd2 {H : Hp} {p : Addr} {o : HO} : rm (upd H p o) p = rm H p := by
  funext a
  by_cases ha : a = p
  · subst ha; rw [rm_self, rm_self]
  · rw [rm_ne ha, rm_ne ha, upd_ne ha]
theorem Grow.rm {H H' : Hp} {F F' : Addr → Prop} {p : Addr} {o : HO} (g : Grow H H' F F') (hp : H p = some o) (nf : ¬ F p) : Grow (BD.rm H p) (BD.rm H' p) F F' := by
  have nf' : ¬ F' p := fun z => by
    rcases g.new p z with z | z
    · exact nf z
    · rw [hp] at z; cases z
  refine ⟨fun a u e => ?_, g.more, fun a z => ?_, fun a z => ?_⟩
  · by_cases ha : a = p
    · subst ha; rw [rm_self] at e; cases e
    · rw [rm_ne ha] at e ⊢; exact g.ext a u e
  · rcases g.new a z with z | z
    · exact .inl z
    · by_cases ha : a = p
      · subst ha; rw [hp] at z; cases z
      · exact .inr (by rw [rm_ne ha]; exact z)
  · by_cases ha : a = p
    · subst ha; exact absurd z nf'
    · rw [rm_ne ha]; exact g.wf a z
theorem tLc_of {E2 : XK} {f : EvL} {g : Gv} {q elt : Ev} {vs ss : List Nat} {σ : L2.St} {H : Hp} {Q : VK} (hss : ∀ j ∈ ss, j ∈ vs) (h : tDF T K E (lComp f g q elt vs) σ H Q) :
    tLc (tDI T K E f) (tDG T K g ss) (tDT T K E2 q) (tD T K E2 elt) vs σ H Q := by
  obtain ⟨c, ρ, F, out, r, e, th⟩ := h
  unfold lComp lbndL at e
  split at e
  · rename_i ds qf
    dsimp only at e
    split at e
    · rename_i hsm
      cases qc : compS g q elt (wipeR ρ vs) ds with
      | none => rw [qc] at e; cases e
      | some res =>
        rw [qc] at e
        cases e
        refine ⟨c, ρ, F, _, r, qf, fun J H1 F1 g1 ⟨P, p1, pl, py⟩ p hp => ?_⟩
        have hsm := of_decide_eq_true hsm
        have rw1 := (r.grow g1).wipe vs
        have nf1 : ¬ F1 p := fun z => g1.wf p z hp
        have g0 : Grow H1 (upd H1 p (.lst [])) F1 F1 := Grow.upd g1.wf hp
        refine ⟨fun i m H' => m = ds.length - i ∧ i ≤ ds.length ∧ ∃ F' av ad rest, P H' F' ∧ Grow H1 (rm H' p) F1 F' ∧ H' p = some (.lst av) ∧ Reps T K F' H' av ad ∧ ad.length ≤ i ∧ compS g q elt (wipeR ρ vs) (ds.drop i) = some rest ∧ ad ++ rest = res,
          ⟨ds.length, by simp, Nat.zero_le _, F1, [], [], res, pl _ _ _ _ p1 g0.later, by rw [rm_upd2, rm_of_none hp]; exact .refl g1.wf, upd_same, .nil, by simp, by simpa using qc, by simp⟩, ?_⟩
        rintro i m H' ⟨rfl, hi, F', av, ad, rest, p', gw, hpp, ra, la, ec, er⟩
        have nf' : ¬ F' p := fun z => gw.wf p z rm_self
        have eH := rm_upd hpp
        have gq : Grow (rm H' p) H' F' F' := by
          have := Grow.upd (o := .lst av) gw.wf (rm_self (H := H') (p := p))
          rw [eH] at this
          exact this
        have rr := (rw1.grow gw).grow gq
        obtain ⟨y1, y2⟩ := py H' F' i p' rr.wf
        by_cases hlt : i < ds.length
        · obtain ⟨go, yl⟩ := y1 hlt
          refine .inr ⟨go, fun H2 => ∃ F' av ad rest, P H2 F' ∧ Grow H1 (rm H2 p) F1 F' ∧ H2 p = some (.lst av) ∧ Reps T K F' H2 av ad ∧ ad.length ≤ i + 1 ∧ compS g q elt (wipeR ρ vs) (ds.drop (i + 1)) = some rest ∧ ad ++ rest = res,
            fun H2 h2 => ⟨ds.length - (i + 1), by omega, rfl, hlt, h2⟩, fun x H2 y => ?_⟩
          obtain ⟨d, hd, F2, g2, rp⟩ := yl x H2 y
          rw [drop_cons hd] at ec
          unfold compS at ec
          cases qg : g d (wipeR ρ vs) with
          | none => rw [qg] at ec; cases ec
          | some ρ1 =>
            rw [qg] at ec
            dsimp only [Option.bind] at ec
            refine ⟨c, wipeR ρ vs, F2, d, ρ1, rr.grow g2, rp, qg, fun σ3 r3 b3 => ⟨wipe_but b3 hss, ?_⟩⟩
            cases qq : q ρ1 with
            | none => rw [qq] at ec; cases ec
            | some o1 =>
              rw [qq] at ec
              refine ⟨c, ρ1, F2, o1, r3, qq, ?_⟩
              cases o1 with
              | exc n => cases ec
              | val d1 =>
                cases d1 with
                | bl k =>
                  intro H3 F3 g3
                  have g23 := g2.trans g3
                  have gw3 := gw.trans (g23.rm hpp nf')
                  have h3p := g23.ext _ _ hpp
                  have ra3 := ra.grow g23
                  have p3 := pl _ _ _ _ p' g23.later
                  cases k with
                  | false =>
                    rw [if_neg (by decide)]
                    exact ⟨F3, av, ad, rest, p3, gw3, h3p, ra3, by omega, ec, er⟩
                  | true =>
                    rw [if_pos rfl]
                    dsimp only at ec
                    cases qe : elt ρ1 with
                    | none => rw [qe] at ec; cases ec
                    | some o2 =>
                      rw [qe] at ec
                      refine ⟨c, ρ1, F3, o2, r3.grow g3, qe, ?_⟩
                      cases o2 with
                      | exc n => cases ec
                      | val d2 =>
                        intro y2 H4 F4 g4 r4
                        dsimp only at ec
                        cases qr : compS g q elt (wipeR ρ vs) (ds.drop (i + 1)) with
                        | none => rw [qr] at ec; cases ec
                        | some rest' =>
                          rw [qr] at ec
                          cases ec
                          have nf3 : ¬ F3 p := fun z => gw3.wf p z rm_self
                          have gw4 := gw3.trans (g4.rm h3p nf3)
                          have h4p := g4.ext _ _ h3p
                          have ra4 := (ra3.grow g4).append (.cons r4 .nil)
                          have nf4 : ¬ F4 p := fun z => gw4.wf p z rm_self
                          have kp : Later H4 (upd H4 p (.lst (av ++ [y2]))) F4 F4 := ⟨fun a o e z => by
                            by_cases ha : a = p
                            · subst ha
                              rcases z with z | z
                              · exact absurd z nf4
                              · rw [h4p] at e; cases e; exact absurd rfl (z.1 av)
                            · rw [upd_ne ha]; exact e, fun _ z => z⟩
                          refine ⟨av, h4p, ?_, F4, av ++ [y2], ad ++ [d2], rest', pl _ _ _ _ p3 (g4.later.trans kp), by rw [rm_upd2]; exact gw4, upd_same, ra4.later kp, by simp; omega, rfl, by rw [← er]; simp⟩
                          rw [ra.length]
                          have : ad.length ≤ 1000000 := by omega
                          exact Nat.lt_of_le_of_lt this (by decide)
                | _ => cases ec
        · have hi' : i = ds.length := by omega
          subst hi'
          rw [List.drop_length] at ec
          cases ec
          rw [List.append_nil] at er
          subst er
          refine .inl ⟨y2 (Nat.le_refl _), ?_⟩
          exact th p av (rm H' p) H' F' (g1.trans gw) rm_self eH.symm ra
    · cases e
  · rename_i n qf
    cases e
    exact ⟨c, ρ, F, _, r, qf, th⟩
  · cases e
theorem df_lc {E2 : XK} {elt iter : Expr} {ifs : List Expr} {scope : Scope} {own : List (Str × Nat)} {f : EvL} {g : Gv} {q fe : Ev} {ss : List Nat} (hc : X.calm = true) (hN : X.N.Nodup) (hi : PI X tg iter (tDI T K E f)) (ok : BlkOk X.N X.env.scope scope own)
    (hg : ∀ (s : Shared) (H : Hp) (C : Addr) (cl : List (Str × Addr)) (fp : List Addr), PG (X.blk s H scope (compEnvC scope cl C X.env) fp) tg (tDG T K g ss)) (ht : ∀ (s : Shared) (H : Hp) (C : Addr) (cl : List (Str × Addr)) (fp : List Addr), PTs (X.blk s H scope (compEnvC scope cl C X.env) fp) ifs (tDT T K E2 q))
    (he : ∀ (s : Shared) (H : Hp) (C : Addr) (cl : List (Str × Addr)) (fp : List Addr), PE (X.blk s H scope (compEnvC scope cl C X.env) fp) elt (tD T K E2 fe)) (hss : ∀ j ∈ ss, j ∈ own.map (·.2)) (hs : ∀ x, foldedSetIterable iter X.env x = pure x := by intro _; rfl) :
    PE X (.ListComp elt [⟨tg, iter, ifs, 0⟩] scope pos) (tDF T K E (lComp f g q fe (own.map (·.2)))) := PE.imp (pe_lc hc hN hi ok hg ht he hs) fun σ H Q h => tLc_of hss h
end
def fnSem (n m : Nat) (body : Sv) : List D → Option Out := fun ds => if ds.length = n then (match body (ds.map (fun d => some (.sh d)) ++ List.replicate m none) with
  | some (.rt d) => some (.val d)
  | some (.nx _) => some (.val .non)
  | some (.exc k) => some (.exc k)
  | _ => none) else none
theorem fnSem_len {n m : Nat} {body : Sv} {ds : List D} {o : Out} (h : fnSem n m body ds = some o) : ds.length = n := by
  unfold fnSem at h
  split at h
  · assumption
  · cases h
theorem rel_start {N : List Str} {H : Hp} {F : Addr → Prop} {vs : List V} {ds : List D} {n : Nat} (wf : ∀ a, F a → H a ≠ none) (r : Reps T K F H vs ds) (hl : ds.length = n) (hN : n ≤ N.length) :
    Rel T K ⟨H, F⟩ (ds.map (fun d => some (.sh d)) ++ List.replicate (N.length - n) none) (L2.start N vs) H F where
  len := by unfold L2.start; simp [r.length, hl]
  sh := fun i d e => by
    have hi : i < ds.length := by
      by_cases hi : i < ds.length
      · exact hi
      · rw [List.getElem?_append_right (by simpa using hi), List.getElem?_replicate] at e
        split at e <;> cases e
    rw [List.getElem?_append_left (by simpa using hi), List.getElem?_map] at e
    cases q : ds[i]? with
    | none => rw [q] at e; cases e
    | some d' =>
      rw [q] at e
      cases e
      obtain ⟨v, h1, h2⟩ := r.get q
      refine ⟨v, ?_, h2⟩
      unfold L2.start
      rw [List.getElem?_append_left (by simp [r.length]; exact hi), List.getElem?_map, h1]
      rfl
  own := fun i d e => by
    by_cases hi : i < ds.length
    · rw [List.getElem?_append_left (by simpa using hi), List.getElem?_map] at e
      cases q : ds[i]? with
      | none => rw [q] at e; cases e
      | some d' => rw [q] at e; cases e
    · rw [List.getElem?_append_right (by simpa using hi), List.getElem?_replicate] at e
      split at e <;> cases e
  mp := fun i _ d e => by
    by_cases hi : i < ds.length
    · rw [List.getElem?_append_left (by simpa using hi), List.getElem?_map] at e
      cases q : ds[i]? with
      | none => rw [q] at e; cases e
      | some d' => rw [q] at e; cases e
    · rw [List.getElem?_append_right (by simpa using hi), List.getElem?_replicate] at e
      split at e <;> cases e
  ext := .refl H
  f0 := fun _ h => h
  f1 := fun _ h => .inl h
  wf := wf
theorem sp_body {N : List Str} {n : Nat} {fb : Sv} {vs : List V} {H : Hp} {Q : VK} {E : XK} (hN : n ≤ N.length) (h : spD T K (fnSem n (N.length - n) fb) vs H Q E) : tDS T K E fb { nx := fun _ H' => Q .non H', rt := Q } (L2.start N vs) H := by
  obtain ⟨F, ds, out, wf, r, e, th⟩ := h
  have hl := fnSem_len e
  have rl := rel_start (N := N) wf r hl hN
  unfold fnSem at e
  rw [if_pos hl] at e
  split at e
  · rename_i d q
    cases e
    exact ⟨_, _, F, _, rl, q, fun v H' F' g rp => th v H' F' g rp⟩
  · rename_i ρ q
    cases e
    exact ⟨_, _, F, _, rl, q, fun σ' H' F' l r' => th _ H' F' r'.growE .non⟩
  · rename_i k q
    cases e
    exact ⟨_, _, F, _, rl, q, fun H' x => th H' x⟩
  · cases e
end BD
namespace BD
open PySem L2
variable {T : Tab} {K : PySem.W.Frag}
theorem sp_script {g : List D → Option Out} {H : Hp} {a : Addr} {ns : List Int} (hS : SqL K H a (ns.map V.int)) (hg : g [.lst (ns.map D.int)] = some (.val (.bl true))) : spD T K g [.ref a] H (fun v _ => v = .bl true) fun _ _ _ => False := by
  rcases hS with h | h
  · refine ⟨fun b => b = a, [.lst (ns.map D.int)], _, fun b e => ?_, .cons (.lst (.inl ⟨rfl, h⟩) (Reps.ints ns)) .nil, hg, fun v H' F' _ r => by cases r; rfl⟩
    subst e
    rcases h with h | ⟨o, h⟩ <;> rw [h] <;> simp
  · exact ⟨fun _ => False, [.lst (ns.map D.int)], _, fun b e => e.elim, .cons (.lst (.inr h) (Reps.ints ns)) .nil, hg, fun v H' F' _ r => by cases r; rfl⟩
theorem wt_mem {ns : List Int} : ∀ {i : Int}, i ∈ ns → PySem.W.WData.weight (.int i) ≤ PySem.W.WData.weightAll (ns.map .int) := by
  induction ns with
  | nil => intro i h; cases h
  | cons n ns ih =>
    intro i h
    simp only [List.map_cons, PySem.W.WData.weightAll]
    rcases List.mem_cons.mp h with rfl | h
    · omega
    · have := ih h; omega
theorem bits_of {ns : List Int} (h : PySem.W.WData.layableAll [.list (ns.map .int)] = true) : ∀ i ∈ ns, i.natAbs.log2 < 1048576 := fun i hi => by
  simp only [PySem.W.WData.layableAll, List.all_cons, List.all_nil, Bool.and_true, PySem.W.WData.layable, Bool.and_eq_true, decide_eq_true_eq] at h
  have hw : PySem.W.WData.weightAll (ns.map .int) ≤ 2 ^ 20 := by simpa only [PySem.W.WData.weight] using h.2
  have := wt_mem hi
  have e : PySem.W.WData.weight (.int i) = if i == 0 then 0 else i.natAbs.log2 + 1 := by simp only [PySem.W.WData.weight]
  rw [e] at this
  by_cases z : i = 0
  · subst z; decide
  · rw [if_neg (by simpa using z)] at this
    have : (2 : Nat) ^ 20 = 1048576 := by decide
    omega
def LawT (n : Nat) (g : List D → Option Out) : Prop := ∀ ns : List Int, ns.length ≤ n → (∀ i ∈ ns, i.natAbs.log2 < 1048576) → g [.lst (ns.map D.int)] = some (.val (.bl true))
open PySem.W PyProof.Rows Att in
theorem walk_D {l : PySem.W.OpenLaw} {n k : Nat} {q : Program} {loose : List Str} {XP : (Str → Option Value) → Heap → Prop} {YP : World → Heap → Prop} {d : DefRec} {K : Params → PySem.W.Frag} {CX : CXT} {x : Str} {g : List D → Option Out}
    (hn : l.most = some n) (hn2 : n ≤ sizeLine) (hdf : d.params.defaults = []) (hr : Room k callerA) (hY : ∀ (w : World) (h : Heap), YP w h → (K w.params).In h) (hL : LawT n g)
    (hCX : ∀ (H : Hp) (s : Shared) (e : Value) (s' : Shared), CX [] H s (fun _ _ _ => False) e s' → False)
    (F : ∀ (w : World) (mg : Str → Option Value) (fa : Addr) (h : Heap), (K w.params).In h → h.Ns mainGlobals mg → mg d.name = some (.ref fa) →
      ∃ (fd : FuncData) (T : Tab), (∀ (s : Shared) (u : Value), BindsTo s fd ⟨[u], []⟩ [(x, u)]) ∧ ∀ base : Heap, (K w.params).In base → base.Ns mainGlobals mg → FnOk l.prog w (K w.params) mg base CX k fa fd [x] (spD T (K w.params) g)) :
    PySem.W.WalkO q loose XP YP l.row.toRowW d [] (fun f vs => PySem.call f vs) := by
  intro w s₀ s₁ mg mb G Y fa o pm cd doc dV kV ho hd hcd hD hmg hg args vals as hpre hlay hrd hwl hlo
  obtain rfl : dV = .none := Dflts.none hD hdf
  obtain rfl : kV = .none := Dflts.noKw hD
  obtain ⟨a, vs, ns, rfl, rfl, hobj, hints, hlen⟩ := script_of hn hpre hwl
  have KX := hY w _ Y
  obtain ⟨fd, T, hb, hF⟩ := F w mg fa _ KX G.T.g hmg
  have hc := law_call KX G.T.g G.T.b G.T.builtins G.T.nolimit hg hobj hints (Nat.le_trans hlen hn2) hr hF hb (fun H hO hS => sp_script hS (hL ns hlen (bits_of hlay))) fun H e s' => hCX H s₁ e s'
  refine enter_call (codeAny_mono hc fun r s' hq => ?_)
  obtain ⟨rfl, h2, h3, h4⟩ := hq
  exact ⟨.inl ⟨.bool true, .bool true, [], rfl, fun _ => rfl, .bool true, post_true l _, fun _ => ⟨List.Pairwise.nil, fun _ hm => (nomatch hm)⟩⟩, h2, h3, h4⟩
end BD
namespace BD
open PySem L2
variable {T : Tab} {K : PySem.W.Frag}
def Cl (P : Program) (w : World) (K : PySem.W.Frag) (mg : Str → Option Value) (base : Heap) (CX : CXT) (T : Tab) (x : Str) (ps : List Str) (k : Nat) (g : List D → Option Out) : Prop :=
  ∃ f fd, FnOk P w K mg base CX k f fd ps (spD T K g) ∧ mg x = some (.ref f) ∧ PySem.W.keepIn K (.ref f) = true ∧ Binds K fd ps []
def fuelR : Rho → Nat
  | [] => 2
  | some (.sh (.int i)) :: r => i.natAbs + fuelR r
  | _ :: r => fuelR r
section
variable {X : Cx} {E : XK} {a b c e l tg : Expr} {es rest : List Expr} {pos : Pos}
theorem de_c {CX : CXT} {k : Nat} {ps : List Str} {g : List D → Option Out} {fs : EvL} {x : Str} {p : Pos} (C : Cl X.prog X.w X.K X.mg X.base CX T x ps k g) (hr : Room k X.A) (hx : Passes CX X E) (hg : Gl X x) (ha : PA X (e :: es) (tDA T X.K E fs)) (hdb : (x == ("__debug__" : Str)) = false := by decide)
    (he : starEach (e :: es) X.env = (false, eval e X.env) :: starEach es X.env := by rfl) (hpl : (backTo pos (starEach es X.env)).any (·.1) = false := by rfl) : PE X (.Call (.Name x p) (e :: es) [] pos) (tD T X.K E (eCall g fs)) := by
  obtain ⟨f, fd, G, hm, hk, hb⟩ := C
  exact de_call G hr hg hm hk hb hx ha hdb he hpl
theorem de_gi {x : Str} {i : Int} (hg : Gl X x) (hm : ∃ t, X.mg x = some (.int i t)) (hd : (x == ("__debug__" : Str)) = false := by decide) : PE X (.Name x pos) (tD T K E (eC (.int i))) := by
  obtain ⟨t, hm⟩ := hm
  exact de_glob (v := .int i) hg hm ⟨t, rfl⟩ (fun _ _ => .int i) hd
theorem vr (i : Nat) {x : Str} {pos : Pos} (hN : X.N[i]? = some x := by rfl) (hv : Vis X.env.scope x := by first | exact Or.inl rfl | exact Or.inr (Or.inl rfl) | exact Or.inr (Or.inr rfl)) (hd : (x == ("__debug__" : Str)) = false := by decide)
    (hcd : (x == ("__classdict__" : Str)) = false := by decide) : PE X (.Name x pos) (tD T K E (eVar i)) := de_var (pe_var hN hv hd hcd)
end
end BD
namespace BD
open PySem L2
structure JE (X : Cx) (T : Tab) (E : XK) (e : Expr) (f : Ev) : Prop where h : PE X e (tD T X.K E f)
structure JF (X : Cx) (T : Tab) (E : XK) (e : Expr) (f : EvL) : Prop where h : PE X e (tDF T X.K E f)
structure JT (X : Cx) (T : Tab) (E : XK) (e : Expr) (f : Ev) : Prop where h : PT X e (tDT T X.K E f)
structure JW (X : Cx) (T : Tab) (E : XK) (e : Expr) (f : Ev) : Prop where h : PW X e (tDT T X.K E f)
structure JTs (X : Cx) (T : Tab) (E : XK) (es : List Expr) (f : Ev) : Prop where h : PTs X es (tDT T X.K E f)
structure JA (X : Cx) (T : Tab) (E : XK) (es : List Expr) (f : EvL) : Prop where h : PA X es (tDA T X.K E f)
structure JO (X : Cx) (T : Tab) (E : XK) (e : Option Expr) (f : EvO) : Prop where h : PO X e (tDO T X.K f)
structure JI (X : Cx) (T : Tab) (E : XK) (tg e : Expr) (f : EvL) : Prop where h : PI X tg e (tDI T X.K E f)
structure JG (X : Cx) (T : Tab) (e : Expr) (g : Gv) (ss : List Nat) : Prop where h : PG X e (tDG T X.K g ss)
structure JGs (X : Cx) (T : Tab) (e : List Expr) (g : Gvs) (ss : List Nat) : Prop where h : PGs X e (tDGs T X.K g ss)
structure JS (X : Cx) (T : Tab) (E : XK) (st : Stmt) (f : Sv) : Prop where h : PS X st (tDS T X.K E f)
structure JB (X : Cx) (T : Tab) (E : XK) (st : List Stmt) (f : Sv) : Prop where h : PSs X st (tDS T X.K E f)
structure JBin (X : Cx) (T : Tab) (op : Operator) (g : D → D → Option D) : Prop where h : OpR X (binaryOp op) (rD T X.K g)
structure JCmp (X : Cx) (T : Tab) (op : CmpOp) (g : D → D → Option D) : Prop where h : OpR X (compareOp op) (rD T X.K g)
structure JCall (X : Cx) (T : Tab) (id : String) (g : List D → Option D) : Prop where h : CallR X (.builtin id) (rB T X.K g)
section
variable {X : Cx} {T : Tab} {E E2 : XK} {a b c e l tg elt iter o ix : Expr} {es rest ifs : List Expr} {pos pos' p p2 apos cpos spos tpos : Pos} {fa fb fc f g q fe fi : Ev} {fs gs : EvL} {st : Stmt} {sts sa sb body : List Stmt} {F G : Sv}
theorem jp_add : JBin X T .Add (i2 addI) := ⟨od_add⟩
theorem jp_sub : JBin X T .Sub (i2 subI) := ⟨od_sub⟩
theorem jp_mul : JBin X T .Mult (i2 mulI) := ⟨od_mul⟩
theorem jp_div : JBin X T .FloorDiv (i2 divI) := ⟨od_div⟩
theorem jp_mod : JBin X T .Mod (i2 modI) := ⟨od_mod⟩
theorem jp_pow : JBin X T .Pow (i2 powI) := ⟨od_pow⟩
theorem jp_lt : JCmp X T .Lt (i2 ltI) := ⟨od_lt⟩
theorem jp_le : JCmp X T .LtE (i2 leI) := ⟨od_le⟩
theorem jp_gt : JCmp X T .Gt (i2 gtI) := ⟨od_gt⟩
theorem jp_ge : JCmp X T .GtE (i2 geI) := ⟨od_ge⟩
theorem jp_eq (hu : X.A.units + 64 < cLine) : JCmp X T .Eq eqD := ⟨od_eq hu⟩
theorem jp_ne (hu : X.A.units + 64 < cLine) : JCmp X T .NotEq neD := ⟨od_ne hu⟩
theorem jc_len : JCall X T "len" lenB := ⟨cb_len⟩
theorem jc_abs : JCall X T "abs" absB := ⟨cb_abs⟩
theorem jc_sum (hc : X.calm = true) : JCall X T "sum" sumB := ⟨cb_sum hc⟩
theorem jc_all (hc : X.calm = true) : JCall X T "all" allB := ⟨cb_all hc⟩
theorem jv (i : Nat) {x : Str} (hN : X.N[i]? = some x := by kernel_rfl) (hv : Vis X.env.scope x := by exact Or.inl (by kernel_rfl)) (hd : (x == ("__debug__" : Str)) = false := by kernel_rfl)
    (hcd : (x == ("__classdict__" : Str)) = false := by kernel_rfl) : JE X T E (.Name x pos) (eVar i) := ⟨vr i hN hv hd hcd⟩
theorem je_int {i j} : JE X T E (.Constant (.int i) j pos) (eC (.int i)) := ⟨de_int⟩
theorem je_bl {i j} : JE X T E (.Constant (.bool i) j pos) (eC (.bl i)) := ⟨de_bl⟩
theorem je_non {j} : JE X T E (.Constant .none j pos) (eC .non) := ⟨de_non⟩
theorem je_str {i j} : JE X T E (.Constant (.str i) j pos) (eC (.str i)) := ⟨de_str⟩
theorem je_gi {x : Str} {i : Int} (hg : X.env.kindOf x = some .globalImplicit) (hm : ∃ t, X.mg x = some (.int i t)) (hd : (x == ("__debug__" : Str)) = false := by kernel_rfl) : JE X T E (.Name x pos) (eC (.int i)) := ⟨de_gi hg hm hd⟩
theorem ja_nil : JA X T E [] aNil := ⟨da_nil⟩
theorem ja_cons (ha : JE X T E e f) (hr : JA X T E es fs) (hs : starEach (e :: es) X.env = (false, eval e X.env) :: starEach es X.env := by kernel_rfl) : JA X T E (e :: es) (aCons f fs) := ⟨da_cons ha.h hr.h hs⟩
theorem je_tup {x1} (h : JA X T E es fs) : JE X T E (.Tuple es x1 pos) (eTup fs) := ⟨de_tup h.h⟩
theorem je_fr (h : JF X T E e fs) : JE X T E e (eFr fs) := ⟨de_fr h.h⟩
theorem jf_lst (h : JA X T E es fs) : JF X T E (.List es pos) (lLst fs) := ⟨df_lst h.h⟩
theorem je_op {op : Operator} {gg : D → D → Option D} (ho : JBin X T op gg) (ha : JE X T E a fa) (hb : JE X T E b fb) : JE X T E (.BinOp a op b pos) (eOp gg fa fb) := ⟨de_op ho.h ha.h hb.h⟩
theorem je_cmp {op : CmpOp} {gg : D → D → Option D} (ho : JCmp X T op gg) (ha : JE X T E a fa) (hb : JE X T E b fb) (hm : behindInMarks op b = false) : JE X T E (.Compare a [op] [b] pos) (eOp gg fa fb) := ⟨de_cmp ho.h ha.h hb.h hm⟩
theorem jt_cmp {op : CmpOp} {gg : D → D → Option D} (ho : JCmp X T op gg) (ha : JE X T E a fa) (hb : JE X T E b fb) (hm : behindInMarks op b = false) : JT X T E (.Compare a [op] [b] pos) (eOp gg fa fb) := ⟨dt_cmp ho.h ha.h hb.h hm⟩
theorem je_chain {op op' : CmpOp} {gg gg' : D → D → Option D} (ho : JCmp X T op gg) (ho' : JCmp X T op' gg') (ha : JE X T E a fa) (hb : JE X T E b fb) (hc : JE X T E c fc) (hm : lastMarks [op, op'] [b, c] = false := by kernel_rfl) : JE X T E (.Compare a [op, op'] [b, c] pos) (eChain gg gg' fa fb fc) := ⟨de_chain ho.h ho'.h ha.h hb.h hc.h hm⟩
theorem jt_chain {op op' : CmpOp} {gg gg' : D → D → Option D} (ho : JCmp X T op gg) (ho' : JCmp X T op' gg') (ha : JE X T E a fa) (hb : JE X T E b fb) (hc : JE X T E c fc) (hm : lastMarks [op, op'] [b, c] = false := by kernel_rfl) : JT X T E (.Compare a [op, op'] [b, c] pos) (eChain gg gg' fa fb fc) := ⟨dt_chain ho.h ho'.h ha.h hb.h hc.h hm⟩
theorem je_neg (h : JE X T E a f) : JE X T E (.UnaryOp .USub a pos) (eNeg f) := ⟨de_neg h.h⟩
theorem je_not (h : JE X T E a f) : JE X T E (.UnaryOp .Not a pos) (qNot f) := ⟨de_not h.h⟩
theorem jt_not (h : JT X T E a f) : JT X T E (.UnaryOp .Not a pos) (qNot f) := ⟨dt_not h.h⟩
theorem jt_val (h : JE X T E a f) (he : ∀ whole, isTrue a X.env whole = (do let v ← whole; standAt a.pos; holding [v] (truthy v)) := by intro _; kernel_rfl) : JT X T E a (qV f) := ⟨dt_val h.h he⟩
theorem jw_and1 (h : JT X T E a f) : JW X T E (.BoolOp .And [a] pos) f := ⟨dw_and1 h.h⟩
theorem jw_or1 (h : JT X T E a f) : JW X T E (.BoolOp .Or [a] pos) f := ⟨dw_or1 h.h⟩
theorem jw_and (ha : JT X T E a f) (hb : JW X T E (.BoolOp .And (b :: rest) pos) g) : JW X T E (.BoolOp .And (a :: b :: rest) pos) (qAnd f g) := ⟨dw_and ha.h hb.h⟩
theorem jw_or (ha : JT X T E a f) (hb : JW X T E (.BoolOp .Or (b :: rest) pos) g) : JW X T E (.BoolOp .Or (a :: b :: rest) pos) (qOr f g) := ⟨dw_or ha.h hb.h⟩
theorem JW.pt (h : JW X T E a f) : JT X T E a f := ⟨PW.pt h.h⟩
theorem je_one {op} (h : JE X T E a f) : JE X T E (.BoolOp op [a] pos) f := ⟨de_one h.h⟩
theorem je_and (ha : JE X T E a f) (hb : JE X T E (.BoolOp .And (b :: rest) pos) g) : JE X T E (.BoolOp .And (a :: b :: rest) pos) (qAnd f g) := ⟨de_and ha.h hb.h⟩
theorem je_if (hc : JT X T E c q) (ha : JE X T E a f) (hb : JE X T E b g) : JE X T E (.IfExp c a b pos) (eIf q f g) := ⟨de_if hc.h ha.h hb.h⟩
theorem je_c {CX : CXT} {k : Nat} {ps : List Str} {m : List D → Option Out} {x : Str} (C : Cl X.prog X.w X.K X.mg X.base CX T x ps k m) (hr : Room k X.A) (hx : Passes CX X E) (hg : X.env.kindOf x = some .globalImplicit) (ha : JA X T E (e :: es) fs) (hdb : (x == ("__debug__" : Str)) = false := by kernel_rfl)
    (he : starEach (e :: es) X.env = (false, eval e X.env) :: starEach es X.env := by kernel_rfl) (hpl : (backTo pos (starEach es X.env)).any (·.1) = false := by kernel_rfl) : JE X T E (.Call (.Name x p) (e :: es) [] pos) (eCall m fs) := ⟨de_c C hr hx hg ha.h hdb he hpl⟩
theorem je_callB {id : String} {m : List D → Option D} {x : Str} (hc : JCall X T id m) (hg : X.env.kindOf x = some .globalImplicit) (hm : X.mg x = none) (hv : bootBuiltins x = some (.builtin id)) (ha : JA X T E (e :: es) fs) (hn : x ≠ "__name__" := by decide) (hdb : (x == ("__debug__" : Str)) = false := by kernel_rfl)
    (he : starEach (e :: es) X.env = (false, eval e X.env) :: starEach es X.env := by kernel_rfl) (hpl : (backTo pos (starEach es X.env)).any (·.1) = false := by kernel_rfl) : JE X T E (.Call (.Name x p) (e :: es) [] pos) (eB m fs) := ⟨de_callB hc.h hg hm hv ha.h hn hdb he hpl⟩
theorem je_isi {cn : String} {x : Str} (ha : JE X T E a f) (hg : X.env.kindOf "isinstance" = some .globalImplicit) (hm : X.mg "isinstance" = none) (hgc : X.env.kindOf x = some .globalImplicit) (hmc : X.mg x = none) (hvc : bootBuiltins x = some (.type cn)) (hnc : x ≠ "__name__" := by decide) (hdc : (x == ("__debug__" : Str)) = false := by kernel_rfl)
    (he : starEach [a, .Name x p2] X.env = (false, eval a X.env) :: starEach [.Name x p2] X.env := by kernel_rfl) (hpl : (backTo pos (starEach [.Name x p2] X.env)).any (·.1) = false := by kernel_rfl) : JE X T E (.Call (.Name "isinstance" p) [a, .Name x p2] [] pos) (eIsi cn f) := ⟨de_isi ha.h hg hm hgc hmc hvc hnc hdc he hpl⟩
theorem je_ix (ha : JE X T E a fa) (hb : JE X T E b fb) (hs : PlainIx b := by intro _ _; kernel_rfl) : JE X T E (.Subscript a b pos) (eOp ixD fa fb) := ⟨de_ix ha.h hb.h hs⟩
theorem jo_none : JO X T E none oNone := ⟨do_none⟩
theorem jo_some (h : JE X T E e f) : JO X T E (some e) (oSome f) := ⟨do_some h.h⟩
theorem jf_slice {lo hi : EvO} {elo ehi : Option Expr} (he : JE X T E e f) (hl : JO X T E elo lo) (hh : JO X T E ehi hi) : JF X T E (.Subscript e (.Slice elo ehi none p2) pos) (lSlice f lo hi) := ⟨df_slice he.h hl.h hh.h⟩
theorem jf_cat (ha : JE X T E a fa) (hb : JE X T E b fb) : JF X T E (.BinOp a .Add b pos) (lCat fa fb) := ⟨df_cat ha.h hb.h⟩
theorem jf_listof (ha : JE X T E a f) (hg : X.env.kindOf "list" = some .globalImplicit) (hm : X.mg "list" = none) (he : starEach [a] X.env = (false, eval a X.env) :: starEach [] X.env := by kernel_rfl) : JF X T E (.Call (.Name "list" p) [a] [] pos) (lOf f) := ⟨df_listof ha.h hg hm he⟩
theorem jb_nil : JB X T E [] sNext := ⟨ds_nil⟩
theorem jb_cons (h1 : JS X T E st F) (h2 : JB X T E sts G) : JB X T E (st :: sts) (sSeq F G) := ⟨ds_cons h1.h h2.h⟩
theorem jb_one (h1 : JS X T E st F) : JB X T E [st] F := ⟨ds_one h1.h⟩
theorem jb_frz {i : Nat} (h : JB X T E sts G) : JB X T E sts (sFrz i G) := ⟨ds_frz h.h⟩
theorem js_expr (h : JE X T E e f) (hs : swapsWith e none pos.line X.env = pure false := by kernel_rfl) : JS X T E (.Expr e pos) (sExpr f) := ⟨ds_expr h.h hs⟩
theorem js_ret (h : JE X T E e f) : JS X T E (.Return (some e) pos) (sRet f) := ⟨ds_ret h.h⟩
theorem js_if (hc : JT X T E c q) (ha : JB X T E sa F) (hb : JB X T E sb G) : JS X T E (.If c sa sb pos) (sIf q F G) := ⟨ds_if hc.h ha.h hb.h⟩
theorem jg_name {i : Nat} {x : Str} (hN : X.N.Nodup) (hi : X.N[i]? = some x) (hx : Loc X.env.scope x) (hf : X.fn x = true ∨ X.env.scope.names.lookup x = some .local := by exact .inl (by kernel_rfl)) : JG X T (.Name x pos) (gNm i) [i] := ⟨dg_name hN hi hx hf⟩
theorem jgs_nil : JGs X T [] gsNil [] := ⟨dgs_nil⟩
theorem jgs_cons {gg : Gv} {h : Gvs} {ss ts : List Nat} (h1 : JG X T e gg ss) (h2 : JGs X T es h ts) (hs : (assignEach (e :: es) X.env).map (·.2) = assign e X.env :: (assignEach es X.env).map (·.2) := by kernel_rfl) : JGs X T (e :: es) (gsCons gg h) (ss ++ ts) := ⟨dgs_cons h1.h h2.h hs⟩
theorem jg_tup {kk : Nat} {h : Gvs} {n : Nat} {ss : List Nat} (hc : X.calm = true) (hh : JGs X T es h ss) (hl : ∀ ds ρ ρ', h ds ρ = some ρ' → ds.length = n) (hn : (assignEach es X.env).length = n := by kernel_rfl) (hst : (assignEach es X.env).findIdx? (·.1) = none := by kernel_rfl) : JG X T (.Tuple es kk pos) (gTp h) ss := ⟨dg_tup hc hh.h hl hn hst⟩
theorem js_asg {gg : Gv} {ss : List Nat} (he : JE X T E e f) (hg : JG X T tg gg ss) (hs : swapsWithSole [tg] e pos.line X.env = pure false := by kernel_rfl) (hw : swappedStores [tg] e X.env = pure none := by kernel_rfl) (h1 : (assignEach [tg] X.env).map (·.2) = [assign tg X.env] := by kernel_rfl) : JS X T E (.Assign [tg] e pos) (sAsg f gg) := ⟨ds_asg he.h hg.h hs hw h1⟩
theorem js_set {i : Nat} {x : Str} (hN : X.N.Nodup) (hi : X.N[i]? = some x) (hx : Loc X.env.scope x) (he : JE X T E e f) (hs : swapsWith e (some (.Name x pos')) pos.line X.env = pure false := by kernel_rfl)
    (hf : X.fn x = true ∨ X.env.scope.names.lookup x = some .local := by exact .inl (by kernel_rfl)) : JS X T E (.Assign [.Name x pos'] e pos) (sAsg f (gNm i)) := ⟨ds_set hN hi hx he.h hs hf⟩
theorem js_par {i j : Nat} {x y : Str} {px py pt : Pos} {kt k2 pt2} (hc : X.calm = true) (hN : X.N.Nodup) (hi : X.N[i]? = some x) (hj : X.N[j]? = some y) (hij : i ≠ j) (hx : X.env.scope.names.lookup x = some .local) (hy : X.env.scope.names.lookup y = some .local)
    (ha : JE X T E a fa) (hb : JE X T E b fb) (hw : swappedStores [.Tuple [.Name x px, .Name y py] kt pt] (.Tuple [a, b] k2 pt2) X.env = pure (some [x, y]) := by kernel_rfl)
    (hs1 : starEach [a, b] X.env = (false, eval a X.env) :: starEach [b] X.env := by kernel_rfl) (hs2 : starEach [b] X.env = (false, eval b X.env) :: starEach [] X.env := by kernel_rfl)
    (hs : swapsWithSole [.Tuple [.Name x px, .Name y py] kt pt] (.Tuple [a, b] k2 pt2) pos.line X.env = pure false := by kernel_rfl) : JS X T E (.Assign [.Tuple [.Name x px, .Name y py] kt pt] (.Tuple [a, b] k2 pt2) pos) (sPar i j fa fb) := ⟨ds_par hc hN hi hj hij hx hy ha.h hb.h hw hs1 hs2 hs⟩
theorem ji_list (h : JE X T E l f) : JI X T E tg l (wSeq f) := ⟨di_list h.h⟩
theorem ji_range1 (hg : X.env.kindOf "range" = some .globalImplicit) (hm : X.mg "range" = none) (ha : JA X T E [a] fs) (hs : starEach [a] X.env = [(false, eval a X.env)] := by kernel_rfl) : JI X T E tg (.Call (.Name "range" p) [a] [] pos) (wRng1 fs) := ⟨di_range1 hg hm ha.h hs⟩
theorem ji_range2 (hg : X.env.kindOf "range" = some .globalImplicit) (hm : X.mg "range" = none) (ha : JA X T E [a, b] fs) (hs : starEach [a, b] X.env = [(false, eval a X.env), (false, eval b X.env)] := by kernel_rfl) (hs2 : starEach [b] X.env = [(false, eval b X.env)] := by kernel_rfl) : JI X T E tg (.Call (.Name "range" p) [a, b] [] pos) (wRng2 fs) := ⟨di_range2 hg hm ha.h hs hs2⟩
theorem ji_enum {elts : List Expr} {kk : Nat} (hg : X.env.kindOf "enumerate" = some .globalImplicit) (hm : X.mg "enumerate" = none) (ha : JA X T E [a] fs) (hs : starEach [a] X.env = [(false, eval a X.env)] := by kernel_rfl) : JI X T E (.Tuple elts kk tpos) (.Call (.Name "enumerate" p) [a] [] pos) (wEnum fs) := ⟨di_enum hg hm ha.h hs⟩
theorem js_for {gg : Gv} {ss : List Nat} (hp : PassesOwn (model X.prog X.w) X.A X.env X.xe) (hc : X.calm = true) (hi : JI X T E tg l fs) (hg : JG X T tg gg ss) (hb : JB X T E body F) (hs : ∀ x, foldedSetIterable l X.env x = pure x := by intro _; kernel_rfl) : JS X T E (.For tg l body [] pos) (sFor fs gg F) := ⟨ds_for hp hc hi.h hg.h hb.h hs⟩
theorem js_while {m : Rho → Nat} (hp : PassesOwn (model X.prog X.w) X.A X.env X.xe) (hc : JT X T E c q) (hb : JB X T E body F) : JS X T E (.While c body [] pos) (sWhile m q F) := ⟨ds_while hp hc.h hb.h⟩
theorem js_append {i : Nat} {x : Str} (hN : X.N[i]? = some x) (hv : Vis X.env.scope x) (ha : JE X T E e f) (hd : (x == ("__debug__" : Str)) = false := by kernel_rfl) (hcd : (x == ("__classdict__" : Str)) = false := by kernel_rfl) (hbase : attributeBase (.Name x pos') "append" X.env (eval (.Name x pos') X.env) = eval (.Name x pos') X.env := by kernel_rfl)
    (hfew : ((backTo cpos (starEach [e] X.env)).all (fun x => !x.1) && (backToKw cpos (keywordEach [] X.env)).all (fun x => x.1.isSome) && decide ([e].length + ([] : List Keyword).length + (if ([] : List Keyword).isEmpty then 0 else 1) < 30)) = true := by kernel_rfl)
    (hline : (apos.endLine == cpos.line) = true := by kernel_rfl) (hs : starEach [e] X.env = (false, eval e X.env) :: starEach [] X.env := by kernel_rfl)
    (hsw : swapsWith (.Call (.Attribute (.Name x pos') "append" apos) [e] [] cpos) none pos.line X.env = pure false := by kernel_rfl) : JS X T E (.Expr (.Call (.Attribute (.Name x pos') "append" apos) [e] [] cpos) pos) (sApp i f) := ⟨ds_append (pe_var hN hv hd hcd) ha.h hbase hfew hline hs hsw⟩
theorem jts_nil : JTs X T E [] qYes := ⟨dts_nil⟩
theorem jts_one (h : JT X T E c q) : JTs X T E [c] q := ⟨dts_one h.h⟩
theorem jf_lc {scope : Scope} {own : List (Str × Nat)} {gg : Gv} {ss : List Nat} (hc : X.calm = true) (hN : X.N.Nodup) (hi : JI X T E tg iter fs) (ok : BlkOk X.N X.env.scope scope own)
    (hg : ∀ (s : Shared) (H : Hp) (C : Addr) (cl : List (Str × Addr)) (fp : List Addr), JG (X.blk s H scope (compEnvC scope cl C X.env) fp) T tg gg ss) (ht : ∀ (s : Shared) (H : Hp) (C : Addr) (cl : List (Str × Addr)) (fp : List Addr), JTs (X.blk s H scope (compEnvC scope cl C X.env) fp) T E0 ifs q)
    (he : ∀ (s : Shared) (H : Hp) (C : Addr) (cl : List (Str × Addr)) (fp : List Addr), JE (X.blk s H scope (compEnvC scope cl C X.env) fp) T E0 elt fe) (hss : ∀ j ∈ ss, j ∈ own.map (·.2)) (hs : ∀ x, foldedSetIterable iter X.env x = pure x := by intro _; kernel_rfl) :
    JF X T E (.ListComp elt [⟨tg, iter, ifs, 0⟩] scope pos) (lComp fs gg q fe (own.map (·.2))) := ⟨df_lc hc hN hi.h ok (fun s H C cl fp => (hg s H C cl fp).h) (fun s H C cl fp => (ht s H C cl fp).h) (fun s H C cl fp => (he s H C cl fp).h) hss hs⟩
end
end BD
namespace BD
open PySem L2
section
open PySem.Spec PyProof.Rows
variable {prog : Program} {w : World} {A : Around} {E : Value → Shared → Prop} {s : Shared}
end
section
variable {X : Cx} {T : Tab} {K : PySem.W.Frag} {es : List Expr} {pos : Pos}
end
end BD
namespace BD
open PySem L2
section
variable {X : Cx} {T : Tab} {K : PySem.W.Frag} {E : XK} {a b c e l tg : Expr} {es : List Expr} {pos p p2 : Pos} {f fa fb : Ev} {fs gs : EvL}
theorem vals_rev : ∀ {xs : List V} {us : List Value}, Vals xs us → Vals xs.reverse us.reverse
  | _, _, .nil => .nil
  | _, _, .cons r t => by
    rw [List.reverse_cons, List.reverse_cons]
    exact (vals_rev t).append (.cons r .nil)
open PySem.Spec PyProof.Rows in
theorem pe_rev {te ts : TE} {j : Nat} {pj pu : Pos} (he : PE X e te) (hst : PE X (.UnaryOp .USub (.Constant (.int 1) j pj) pu) ts) : PE X (.Subscript e (.Slice none none (some (.UnaryOp .USub (.Constant (.int 1) j pj) pu)) p2) pos)
    (fun σ H Q => te σ H fun x H1 => ts σ H1 fun y H2 => ∃ a xs, x = .ref a ∧ y = .int (-1) ∧ SqL X.K H2 a xs ∧ ∀ p, H2 p = none → Q (.ref p) (upd H2 p (.lst xs.reverse))) := by
  intro pins s σ H Q I h
  refine Subscript_ (thn (he pins s σ H _ I h) fun v s1 ⟨x, H1, I1, r1, q1⟩ => ?_)
  refine wpAny_Slice ?_
  rw [evalPart_none]
  refine wpAny_pure ?_
  refine wpAny_pure ?_
  rw [evalPart_some]
  refine thn (hst pins s1 σ H1 _ I1 q1) fun u s2 ⟨y, H2, I2, r2, q2⟩ => ?_
  obtain ⟨al, xs, rfl, rfl, hx, q⟩ := q2
  cases r1
  obtain ⟨t, rfl⟩ := r2
  have I4 : Inv X pins σ H2 { s2 with heap := s2.heap.push { cls := .type "slice", data := .fields #[.none, .none, .int (-1) t] } } := I2.kept (t' := s2.toks) fun b ob q => Heap.get?_push_of_some _ q
  obtain ⟨its, rv, hl, hz⟩ := I4.list hx
  have hlen := rv.length
  show wpAny (model X.prog X.w) X.A (subscriptTail e (.Slice none none (some (.UnaryOp .USub (.Constant (.int 1) j pj) pu)) p2) (.ref al) (.ref s2.heap.objs.size)) (EP X pins σ Q) X.xe _
  refine tail_any hl.isList.typeIs slot_list_getitem.lookup ?_ (by with_unfolding_all rfl)
  refine wpAny_getItem_list_slice hl.isList (Heap.IsSliceOf.new ..) .none .none (IsPart.int _ _) (by decide) ?_ (by rw [List.size_toArray] <;> omega)
  rw [PySem.W.krv_pick, show its.toArray.toList.reverse.toArray = its.reverse.toArray by simp]
  refine ⟨.ref _, _, I4.laid (t' := s2.toks) (o := .lst xs.reverse) (fun b ob q => Heap.get?_push_of_some _ q) (Nat.le_refl _) ?_, rfl, q _ (I4.hok.fresh (Nat.le_refl _))⟩
  refine ⟨by rw [List.length_reverse]; exact hz, its.reverse, 0, ?_, ?_⟩
  · exact vals_rev rv
  · exact Heap.get?_push_size _ rfl
end
end BD
namespace BD
open PySem L2
section
variable {X : Cx} {T : Tab} {K : PySem.W.Frag} {E : XK} {a b c e l tg : Expr} {es : List Expr} {pos p p2 : Pos} {f fa fb : Ev} {fs gs : EvL}
def eSlT (f : Ev) (lo hi : EvO) : Ev := fun ρ => obnd (f ρ) fun d => match d, lo ρ, hi ρ with
  | .tup ds, some l, some h => if decide (HT.sIx ds.length 0 l = 0 ∧ HT.sIx ds.length ds.length h = ds.length) then none else some (.val (.tup (cutD ds l h)))
  | _, _, _ => none
theorem de_slT {l h : EvO} {lo hi : Option Expr} (he : PE X e (tD T X.K E f)) (hl : PO X lo (tDO T X.K l)) (hh : PO X hi (tDO T X.K h)) : PE X (.Subscript e (.Slice lo hi none p2) pos) (tD T X.K E (eSlT f l h)) :=
  PE.imp (pe_slice sl_tup he hl hh) fun σ H Q ⟨c, ρ, F, out, r, e, th⟩ => by
    refine tD_bind r e (fun d v H1 F1 g1 r1 e1 => ?_) th.exc
    split at e1
    · rename_i ds lv hv el eh
      split at e1
      · cases e1
      · rename_i hn
        cases e1
        cases r1 with
        | @tup _ ws _ hq rr =>
          refine ⟨c, ρ, F1, lv, r.grow g1, el, fun H2 F2 g2 => ⟨c, ρ, F2, hv, (r.grow g1).grow g2, eh, fun H3 F3 g3 => ?_⟩⟩
          have rr3 := (rr.grow g2).grow g3
          refine ⟨_, _, rfl, SqT.keep (F := F2) g3.ext.keep (SqT.keep (F := F1) g2.ext.keep hq), ?_, fun p hp => ?_⟩
          · rw [rr.length]
            intro z
            exact hn (decide_eq_true z)
          · have gu := Grow.upd (o := .tup (cutV ws lv hv)) g3.wf hp
            exact th _ _ _ (((g1.trans g2).trans g3).trans gu) (.tup (SqT.of upd_same) ((rr3.cut lv hv).grow gu))
    · cases e1
theorem je_slT {lo hi : EvO} {elo ehi : Option Expr} (he : JE X T E e f) (hl : JO X T E elo lo) (hh : JO X T E ehi hi) : JE X T E (.Subscript e (.Slice elo ehi none p2) pos) (eSlT f lo hi) := ⟨de_slT he.h hl.h hh.h⟩
def sParM (i j : Nat) (fs : EvL) (g : Ev) : Sv := fun ρ => lbndS (fs ρ) fun xs => sbnd (g ρ) fun y => some (.nx ((ρ.set i (some (.own xs))).set j (some (.sh y))))
theorem js_parM {i j : Nat} {x y : Str} {px py pt : Pos} {kt k2 pt2} (hc : X.calm = true) (hN : X.N.Nodup) (hi : X.N[i]? = some x) (hj : X.N[j]? = some y) (hij : i ≠ j) (hx : X.env.scope.names.lookup x = some .local) (hy : X.env.scope.names.lookup y = some .local)
    (ha : JF X T E a fs) (hb : JE X T E b f) (hw : swappedStores [.Tuple [.Name x px, .Name y py] kt pt] (.Tuple [a, b] k2 pt2) X.env = pure (some [x, y]) := by kernel_rfl)
    (hs1 : starEach [a, b] X.env = (false, eval a X.env) :: starEach [b] X.env := by kernel_rfl) (hs2 : starEach [b] X.env = (false, eval b X.env) :: starEach [] X.env := by kernel_rfl)
    (hs : swapsWithSole [.Tuple [.Name x px, .Name y py] kt pt] (.Tuple [a, b] k2 pt2) pos.line X.env = pure false := by kernel_rfl) : JS X T E (.Assign [.Tuple [.Name x px, .Name y py] kt pt] (.Tuple [a, b] k2 pt2) pos) (sParM i j fs f) :=
  ⟨PS.imp (ps_par hc hN hi hj hij hx hy (pa_cons ha.h (pa_cons hb.h pa_nil hs2) hs1) hw hs) fun D σ H ⟨c, ρ, F, fl, r, e, th⟩ => by
    unfold sParM lbndS at e
    split at e
    · rename_i xs q
      refine ⟨c, ρ, F, _, r, q, fun p vs H1 H' F' g hp eH rp => ?_⟩
      have r1 := rel_own r g hp eH rp i
      subst eH
      have g0 : Grow H1 (upd H1 p (.lst vs)) F' F' := Grow.upd g.wf hp
      have g1 := g.trans g0
      dsimp only at e
      refine tD_bindS (r.grow g1) e (th.later g1.later) fun d2 v2 H2 F2 g2 r2 e2 => ?_
      cases e2
      exact ⟨_, _, rfl, th _ H2 F2 (g1.trans g2).later ((r1.grow g2).set r2)⟩
    · rename_i n q
      cases e
      exact ⟨c, ρ, F, _, r, q, fun H'' z => th H'' (r.ext.trans z)⟩
    · cases e⟩
end
structure FunD (K : PySem.W.Frag) (x qual : Str) (st : Stmt) (dV : Value) (f : Addr) (fd : FuncData) : Prop where
  ex : ∃ (oc : Value) (od : Option Addr) (kV doc pm : Value) (an : Option Addr) (cdv ct : Value) (osl : Array (Option Value)),
    fd = PySem.W.fnOf x qual (defArgs st) (defBody st) (defScope st) dV kV doc pm an cdv ct ∧ K.lookup f = some ⟨oc, od, .func fd, osl⟩ ∧ PySem.W.codeIn K cdv qual = true
  kp : PySem.W.keepIn K (.ref f) = true
section
variable {P : Program} {w : World} {K : PySem.W.Frag} {mg : Str → Option Value} {base : Heap} {T : Tab}
theorem fund_mk {x qual : Str} {st : Stmt} {f : Addr} {oc dV : Value} {od an : Option Addr} {osl : Array (Option Value)} {kV doc pm cdv ct : Value} (l : K.lookup f = some ⟨oc, od, .func (PySem.W.fnOf x qual (defArgs st) (defBody st) (defScope st) dV kV doc pm an cdv ct), osl⟩)
    (c : PySem.W.codeIn K cdv qual = true) (k : PySem.W.keepIn K (.ref f) = true) : FunD K x qual st dV f (PySem.W.fnOf x qual (defArgs st) (defBody st) (defScope st) dV kV doc pm an cdv ct) := ⟨⟨oc, od, kV, doc, pm, an, cdv, ct, osl, rfl, l, c⟩, k⟩
def ClD (P : Program) (w : World) (K : PySem.W.Frag) (mg : Str → Option Value) (base : Heap) (CX : CXT) (T : Tab) (x : Str) (ps : List Str) (k : Nat) (g : List D → Option Out) (dd : Int) : Prop :=
  ∃ f fd t, FnOk P w K mg base CX k f fd ps (spD T K g) ∧ mg x = some (.ref f) ∧ PySem.W.keepIn K (.ref f) = true ∧ Binds K fd ps [.int dd t]
theorem tCall_ofD {E : XK} {g : List D → Option Out} {dd : Int} {fs : EvL} {σ : L2.St} {H : Hp} {Q : VK} (h : tD T K E (eCall (fun ds => g (ds ++ [.int dd])) fs) σ H Q) : tCall (spD T K g) [.int dd] E (tDA T K E fs) σ H Q := by
  obtain ⟨c, ρ, F, out, r, e, th⟩ := h
  refine tDA_bind r e (fun ds vs H1 F1 g1 r1 e1 => ?_) th.exc
  exact ⟨F1, ds ++ [.int dd], out, g1.wf, r1.append (.cons (.int dd) .nil), e1, th.grow g1⟩
def withD (dd : Int) (g : List D → Option Out) : List D → Option Out := fun ds => g (ds ++ [.int dd])
theorem je_cD {X : Cx} {E : XK} {e : Expr} {es : List Expr} {pos : Pos} {CX : CXT} {k : Nat} {ps : List Str} {g : List D → Option Out} {dd : Int} {fs : EvL} {x : Str} {p : Pos} (C : ClD X.prog X.w X.K X.mg X.base CX T x ps k g dd) (hr : Room k X.A) (hx : Passes CX X E) (hg : X.env.kindOf x = some .globalImplicit) (ha : JA X T E (e :: es) fs) (hdb : (x == ("__debug__" : Str)) = false := by kernel_rfl)
    (he : starEach (e :: es) X.env = (false, eval e X.env) :: starEach es X.env := by kernel_rfl) (hpl : (backTo pos (starEach es X.env)).any (·.1) = false := by kernel_rfl) : JE X T E (.Call (.Name x p) (e :: es) [] pos) (eCall (withD dd g) fs) := by
  obtain ⟨f, fd, t, G, hm, hk, hb⟩ := C
  exact ⟨PE.imp (pe_call G hr hg hm hk hb (dvs := [.int dd]) (.cons ⟨t, rfl⟩ .nil) hx ha.h hdb he hpl) fun σ H Q h => tCall_ofD h⟩
end
end BD
namespace BD
open PySem L2 PySem.W PyProof.Rows
def Tr (B h : Heap) (e : Addr) (C fl : Value) : Prop :=
  ∃ oe vs tb ot ts, h.get? e = some oe ∧ oe.cls = C ∧ oe.data = .fields vs ∧ vs[1]? = some (.ref tb) ∧ vs[2]? = some .none ∧ B.get? tb = none ∧ tb ≠ e ∧ h.get? tb = some ot ∧ ot.data = .fields ts ∧ ts[3]? = some fl
def Air (B : Heap) (l : List Env) (e : Addr) (C fl : Value) (h : Heap) : Prop := B.StaysIn h ∧ B.get? e = none ∧ h.FunFrames B l ∧ Tr B h e C fl
section
variable {M : Model} {A : Around} {E : Value → Shared → Prop} {s : Shared} {B : Heap} {env : Env} {outer : List Env} {L e : Addr}
theorem not_rec {h : Heap} {a b : Addr} {o ob : Obj} {vs : Array Value} (ha : h.get? a = some o) (hd : o.data = .fields vs) (hb : h.get? b = some ob) (nf : ∀ ws, ob.data ≠ .fields ws) : b ≠ a := fun z => by
  rw [z, ha] at hb
  cases hb
  exact nf vs hd
theorem air_entry {oe : Obj} {vs : Array Value} {hd0 : Value} {nx : Bool} {Q : Unit → Shared → Prop} (fr : A.frames = some (env :: outer)) (ff : s.heap.FunFrames B (env :: outer)) (hf : env.frame = some L)
    (ge : s.heap.get? e = some oe) (kb : B.StaysIn s.heap) (ne : B.get? e = none) (de : oe.data = .fields vs) (c1 : 1 < vs.size) (c2 : vs[2]? = some .none)
    (k : ∀ h', Air B (env :: outer) e oe.cls (rawInt L) h' → s.heap.UpToSlots h' → Q () { s with heap := h' }) :
    wpAny M A (do let fo ← frameOf env; let ps ← entryPlaceOf L nx; let b ← EntryCells.newEntry hd0 fo .none (rawInt L) .none ps; setField (.ref e) 1 b) Q E s := by
  have nfr : e ∉ (env :: outer).filterMap (·.frame) := fun z => by
    obtain ⟨_, o, q, nf⟩ := ff.mem z
    exact not_rec ge de q nf rfl
  refine wpAny_bind (wpAny_frameOf_fun fr ff hf fun g so => ?_)
  refine wpAny_bind (wpAny_entryPlaceOf fun ps isp => ?_)
  unfold EntryCells.newEntry newFields
  refine wpAny_bind (wpAny_newObj_type ?_ (isp.sizeOk5 _ _ _ _ _))
  have ge1 : g.get? e = some oe := (so.2.1 e nfr).trans ge
  have kb1 : B.StaysIn g := fun b o q => (so.2.1 b fun z => by rw [(ff.mem z).1] at q; cases q).trans (kb b o q)
  generalize hto : ({ cls := .type "traceback", dict := none, data := .fields ([hd0, .ref L, .none, rawInt L, .none] ++ (if ps.isEmpty then List.replicate 6 Value.none else ps)).toArray } : Obj) = to
  have tod : to.data = .fields ([hd0, .ref L, .none, rawInt L, .none] ++ (if ps.isEmpty then List.replicate 6 Value.none else ps)).toArray := by rw [← hto]
  have ge2 := Heap.get?_push_of_some (h := g) to ge1
  refine wpAny_setField ge2 de c1 ?_
  have nte : g.objs.size ≠ e := Nat.ne_of_gt (Heap.lt_size ge1)
  have de3 := Obj.data_mapFields de (·.setIfInBounds 1 (Value.ref g.objs.size))
  have ge3 := Heap.get?_update_self (Obj.mapFields (·.setIfInBounds 1 (Value.ref g.objs.size))) ge2 (Obj.isFreed_of_fields de3)
  have gt3 : ((g.push to).update e (Obj.mapFields (·.setIfInBounds 1 (Value.ref g.objs.size)))).get? g.objs.size = some to := by
    rw [Heap.get?_update_other _ _ (Ne.symm nte)]
    exact Heap.get?_push_size g (by rw [← hto]; rfl)
  have kp : ∀ b o, b ≠ e → g.get? b = some o → ((g.push to).update e (Obj.mapFields (·.setIfInBounds 1 (Value.ref g.objs.size)))).get? b = some o := fun b o z q => by
    rw [Heap.get?_update_other _ _ (Ne.symm z)]
    exact Heap.get?_push_of_some _ q
  refine k _ ⟨fun b o q => kp b o (fun z => by rw [z, ne] at q; cases q) (kb1 b o q), ne, ff.of_keeps fun b o q nf => ?_, ?_⟩ fun b o q nf => ?_
  · obtain ⟨sl, q1⟩ := so.2.2 b o q
    exact ⟨_, kp b _ (not_rec ge de q nf) q1, rfl⟩
  · refine ⟨_, _, g.objs.size, to, _, ge3, Obj.cls_mapFields _ _, de3, by simp [c1], ?_, kb1.fresh, nte, gt3, tod, by simp⟩
    rw [Array.getElem?_setIfInBounds_ne (by decide)]
    exact c2
  · obtain ⟨sl, q1⟩ := so.2.2 b o q
    exact ⟨sl, kp b _ (not_rec ge de q nf) q1⟩
theorem air_first {oe : Obj} {vs : Array Value} {Q : Unit → Shared → Prop} (fr : A.frames = some (env :: outer)) (ff : s.heap.FunFrames B (env :: outer)) (hf : env.frame = some L)
    (ge : s.heap.get? e = some oe) (kb : B.StaysIn s.heap) (ne : B.get? e = none) (de : oe.data = .fields vs) (c1 : vs[1]? = some .none) (c2 : vs[2]? = some .none)
    (k : ∀ h', Air B (env :: outer) e oe.cls (rawInt L) h' → s.heap.UpToSlots h' → Q () { s with heap := h' }) : wpAny M A (noteFrame (.ref e) env) Q E s := by
  unfold noteFrame
  simp only [hf]
  refine wpAny_bind (wpAny_field ge de c1 ?_)
  rw [if_neg (by decide)]
  exact air_entry fr ff hf ge kb ne de (Array.getElem?_eq_some_iff.mp c1).1 c2 k
theorem air_note {C : Value} {Q : Unit → Shared → Prop} (fr : A.frames = some (env :: outer)) (hf : env.frame = some L) (a : Air B (env :: outer) e C .none s.heap)
    (k : ∀ h', Air B (env :: outer) e C (rawInt L) h' → s.heap.UpToSlots h' → Q () { s with heap := h' }) : wpAny M A (noteFrame (.ref e) env) Q E s := by
  obtain ⟨kb, ne, ff, oe, vs, tb, ot, ts, ge, rfl, de, c1, c2, nb, nte, gt, dt, c3⟩ := a
  have oth : ∀ b, b ≠ tb → (s.heap.update tb (Obj.mapFields (·.setIfInBounds 3 Value.none))).get? b = s.heap.get? b := fun b z => Heap.get?_update_other _ _ (Ne.symm z)
  unfold noteFrame
  simp only [hf]
  refine wpAny_bind (wpAny_field ge de c1 ?_)
  rw [if_pos (by simp)]
  refine wpAny_bind (wpAny_field gt dt c3 ?_)
  rw [if_neg (by simp [rawInt])]
  refine wpAny_bind (wpAny_setField gt dt (Array.getElem?_eq_some_iff.mp c3).1 ?_)
  refine air_entry (s := { s with heap := _ }) fr (ff.of_keeps fun b o q nf => ⟨o, (oth b (not_rec gt dt q nf)).trans q, rfl⟩) hf ((oth e (Ne.symm nte)).trans ge)
    (fun b o q => (oth b fun z => by rw [z, nb] at q; cases q).trans (kb b o q)) ne de (Array.getElem?_eq_some_iff.mp c1).1 c2 fun h' a' sm => k h' a' fun b o q nf => sm b o ((oth b (not_rec gt dt q nf)).trans q) nf
theorem air_go {l : List Env} {C fl : Value} {Q : Unit → Shared → Prop} (a : Air B l e C fl s.heap) (k : ∀ h', Air B l e C .none h' → s.heap.UpToSlots h' → Q () { s with heap := h' }) : wpAny M A (setFlight (.ref e) none) Q E s := by
  obtain ⟨kb, ne, ff, oe, vs, tb, ot, ts, ge, rfl, de, c1, c2, nb, nte, gt, dt, c3⟩ := a
  have z3 : 3 < ts.size := (Array.getElem?_eq_some_iff.mp c3).1
  have oth : ∀ b, b ≠ tb → (s.heap.update tb (Obj.mapFields (·.setIfInBounds 3 ((none : Option Addr).elim Value.none fun f => rawInt f)))).get? b = s.heap.get? b := fun b z => Heap.get?_update_other _ _ (Ne.symm z)
  unfold setFlight
  refine wpAny_bind (wpAny_field ge de c1 ?_)
  rw [if_pos (by simp)]
  refine wpAny_setField gt dt z3 (k _ ⟨fun b o q => (oth b fun z => by rw [z, nb] at q; cases q).trans (kb b o q), ne, ff.of_keeps fun b o q nf => ⟨o, (oth b (not_rec gt dt q nf)).trans q, rfl⟩, ?_⟩ fun b o q nf => ⟨o.slots, (oth b (not_rec gt dt q nf)).trans q⟩)
  exact ⟨oe, vs, tb, _, _, (oth e (Ne.symm nte)).trans ge, rfl, de, c1, c2, nb, nte, Heap.get?_update_self _ gt (Obj.isFreed_of_fields (Obj.data_mapFields dt _)), Obj.data_mapFields dt _, by simp [z3]⟩
theorem Air.tail {C fl : Value} {h : Heap} (a : Air B (env :: outer) e C fl h) : Air B outer e C fl h := ⟨a.1, a.2.1, a.2.2.1.2.2, a.2.2.2⟩
theorem air_leaves {C : Value} {Q : Unit → Shared → Prop} (fr : A.frames = some (env :: outer)) (hf : env.frame = some L) (a : Air B (env :: outer) e C .none s.heap)
    (k : ∀ h', Air B outer e C .none h' → s.heap.UpToSlots h' → Q () { s with heap := h' }) : wpAny M A (leaving env (.ref e)) Q E s := by
  unfold leaving
  refine wpAny_bind (air_note fr hf a fun h1 a1 sm1 => ?_)
  exact air_go (s := { s with heap := h1 }) a1 fun h2 a2 sm2 => k h2 a2.tail (sm1.trans sm2)
theorem air_made {h : Heap} {C : Value} {args : List Value} {Q : Unit → Shared → Prop} (fr : A.frames = some (env :: outer)) (hf : env.frame = some L) (kb : B.StaysIn h) (ff : h.FunFrames B (env :: outer)) (mk : Heap.MadeExcOf h s.heap e C args)
    (k : ∀ h', Air B outer e C .none h' → s.heap.UpToSlots h' → Q () { s with heap := h' }) : wpAny M A (leaving env (.ref e)) Q E s := by
  obtain ⟨t, ge, _, _⟩ := mk.there
  have nb : B.get? e = none := by
    cases q : B.get? e with
    | none => rfl
    | some o => have z := kb _ _ q; rw [mk.new] at z; cases z
  unfold leaving
  refine wpAny_bind (air_first fr (ff.of_keeps fun b o q _ => ⟨o, mk.keeps b o q, rfl⟩) hf ge (fun b o q => mk.keeps b o (kb b o q)) nb rfl rfl rfl fun h1 a1 sm1 => ?_)
  exact air_go (s := { s with heap := h1 }) a1 fun h2 a2 sm2 => k h2 a2.tail (sm1.trans sm2)
end
def Fly (P : Program) (w : World) (fs : List Addr) (l : List Env) (H : Hp) (s : Shared) (C : Value) (a : Addr) (H' : Hp) (s' : Shared) : Prop :=
  ∃ B : Heap, Air B l a C .none s'.heap ∧ s'.os = s.os ∧ AllBare s'.gens ∧ Un fs [] H H' s.heap s'.heap ∧ HOk P w H' s'.heap ∧
    ∀ b ob, s'.heap.get? b = some ob → (H' b ≠ none ∨ ((∃ o, s.heap.get? b = some o) ∧ b ∉ fs)) → B.get? b = some ob
def CXf (P : Program) (w : World) : CXT := fun outer H s E e s' => ∃ a C H', e = .ref a ∧ Fly P w (frs outer) outer H s C a H' s' ∧ E C none H'
theorem obj_there {P : Program} {w : World} {H : Hp} {h : Heap} {a : Addr} {o : HO} (x : ObjOk P w H h a o) : ∃ u, h.get? a = some u := by
  cases o <;> first
    | exact ⟨_, x⟩
    | exact ⟨_, x.1⟩
    | exact x
    | exact x.2.1
    | exact ⟨_, x.2.2.2.1⟩
    | (have ⟨_, _, _, z⟩ := x; exact ⟨_, z⟩)
    | (have ⟨_, _, _, _, z⟩ := x; exact ⟨_, z⟩)
    | (have ⟨_, _, _, z⟩ := x; have ⟨_, y, _⟩ := z; exact ⟨_, y⟩)
    | (have ⟨_, _, _, _, _, _, _, y, _⟩ := x; exact ⟨_, y⟩)
    | (have ⟨_, _, _, _, y, _⟩ := x; exact ⟨_, y⟩)
    | (have ⟨_, ⟨_, _, _, y, _⟩, _⟩ := x; exact ⟨_, y⟩)
theorem un_fly {fs : List Addr} {H H' : Hp} {h h1 h2 B : Heap} (u : Un fs [] H H' h h1) (st : B.StaysIn h2) (inB : ∀ b ob, h1.get? b = some ob → (H' b ≠ none ∨ ((∃ o, h.get? b = some o) ∧ b ∉ fs)) → B.get? b = some ob) (sm : h1.UpToSlots h2)
    (fr : ∀ b ∈ fs, ∃ o, h1.get? b = some o ∧ ∀ vs, o.data ≠ .fields vs) : Un fs [] H H' h h2 where
  keep := fun b o e n hb hx => st _ _ (inB b o (u.keep b o e n hb hx) (.inr ⟨⟨o, e⟩, hb⟩))
  slot := fun b o e n hb hx => by
    obtain ⟨sl, q⟩ := u.slot b o e n hb hx
    obtain ⟨o', q', nf⟩ := fr b hb
    rw [q] at q'
    cases q'
    obtain ⟨sl2, q2⟩ := sm b _ q nf
    exact ⟨sl2, q2⟩
  free := u.free
  there := fun b o e hx => by
    obtain ⟨o', q⟩ := u.there b o e hx
    by_cases hb : b ∈ fs
    · obtain ⟨o2, q', nf⟩ := fr b hb
      obtain ⟨sl2, q2⟩ := sm b _ q' nf
      exact ⟨_, q2⟩
    · exact ⟨o', st _ _ (inB b o' q (.inr ⟨⟨o, e⟩, hb⟩))⟩
  tups := u.tups
  frzs := u.frzs
  tbls := u.tbls
theorem hok_fly {P : Program} {w : World} {H' : Hp} {h1 h2 B : Heap} (x : HOk P w H' h1) (st : B.StaysIn h2) (inB : ∀ b ob, h1.get? b = some ob → H' b ≠ none → B.get? b = some ob) : HOk P w H' h2 := fun a o e =>
  (x a o e).stay (fun b u hb q => st _ _ (inB b u q (by rcases hb with hb | hb; rw [hb, e]; simp; rw [hb]; simp))) (fun _ q => q) fun _ _ q => q
theorem fun_frame {h B : Heap} : ∀ {l : List Env}, h.FunFrames B l → ∀ b ∈ frs l, ∃ o, h.get? b = some o ∧ ∀ vs, o.data ≠ .fields vs
  | [], _, b, hb => by simp [frs] at hb
  | env :: l, ⟨_, ⟨L, o, hf, _, ho, hd⟩, hr⟩, b, hb => by
    simp only [frs, List.filterMap_cons, hf, List.mem_cons] at hb
    rcases hb with rfl | hb
    · exact ⟨o, ho, hd⟩
    · exact fun_frame hr b hb
theorem Fly.on {P : Program} {w : World} {fs : List Addr} {l2 : List Env} {H H' : Hp} {s s' : Shared} {C : Value} {a : Addr} {B h2 : Heap} (f : Air B l2 a C .none h2) (sm : s'.heap.UpToSlots h2) (os : s'.os = s.os) (bare : AllBare s'.gens) (u : Un fs [] H H' s.heap s'.heap) (hok : HOk P w H' s'.heap)
    (inB : ∀ b ob, s'.heap.get? b = some ob → (H' b ≠ none ∨ ((∃ o, s.heap.get? b = some o) ∧ b ∉ fs)) → B.get? b = some ob) (fr : ∀ b ∈ fs, ∃ o, s'.heap.get? b = some o ∧ ∀ vs, o.data ≠ .fields vs) : Fly P w fs l2 H s C a H' { s' with heap := h2 } := by
  refine ⟨B, f, os, bare, un_fly u f.1 inB sm fr, hok_fly hok f.1 fun b ob q hb => inB b ob q (.inl hb), fun b ob q hc => ?_⟩
  have ex : ∃ ob1, s'.heap.get? b = some ob1 := by
    rcases hc with hc | ⟨⟨o, e⟩, _⟩
    · cases z : H' b with
      | none => exact absurd z hc
      | some o => exact obj_there (hok b o z)
    · exact u.there b o e (by simp)
  obtain ⟨ob1, q1⟩ := ex
  have b1 := inB b ob1 q1 hc
  have b2 : h2.get? b = some ob1 := f.1 b ob1 b1
  have q' : h2.get? b = some ob := q
  rw [b2] at q'
  cases q'
  exact b1
section
variable {P : Program} {w : World} {K : PySem.W.Frag} {mg : Str → Option Value} {base : Heap} {N : List Str} {qual : Str} {scope : Scope} {f : Addr} {cd : Value} {A : Around} {outer : List Env} {s : Shared} {H : Hp} {E : XK}
theorem passF : Passes (CXf P w) (cxOf (CXf P w) P w K mg base N qual scope f cd A outer s H E) E := fun pins σ H1 s1 e s' I hx => by
  obtain ⟨a, C, H', rfl, ⟨B, fl, os, bare, un, hok, inB⟩, he⟩ := hx
  have J := I.call' (ch := []) os un hok bare (fun b z => nomatch z)
  have u0 := J.base
  refine air_leaves I.ok.frames (L := s.heap.objs.size) rfl fl fun h' fl' sm => ?_
  refine ⟨a, C, H', rfl, Fly.on fl' sm J.os bare u0 hok (fun b ob q hc => inB b ob q (hc.imp id fun hb => ?_)) (fun_frame fl.2.2.1.2.2), he⟩
  obtain ⟨⟨o, e⟩, nb⟩ := hb
  refine ⟨I.base.there b o e (by simp [cxOf]), fun z => ?_⟩
  rcases List.mem_cons.mp (I.stkSub b z) with z | z
  · have l : b < s.heap.objs.size := Heap.lt_size e
    have z2 : b = s.heap.objs.size := z
    rw [z2] at l
    exact absurd l (Nat.lt_irrefl _)
  · exact nb z
def Raises (X : Cx) (E : XK) : Prop := ∀ (pins : List (Addr × Obj)) (σ : L2.St) (H : Hp) (s : Shared) (a : Addr) (C : Value) (h' : Heap) (vs : List Value), L2.Inv X pins σ H s → Heap.MadeExcOf s.heap h' a C vs → E C none H → X.xe (.ref a) { s with heap := h' }
theorem raiseF : Raises (cxOf (CXf P w) P w K mg base N qual scope f cd A outer s H E) E := fun pins σ H1 s1 a C h' vs I mk he => by
  have stood : ∀ b o, s.heap.get? b = some o → b ∉ frs outer → b ∉ frs (cxOf (CXf P w) P w K mg base N qual scope f cd A outer s H E).stack := fun b o e nb z => by
    rcases List.mem_cons.mp (I.stkSub b z) with z | z
    · have l : b < s.heap.objs.size := Heap.lt_size e
      have z2 : b = s.heap.objs.size := z
      rw [z2] at l
      exact absurd l (Nat.lt_irrefl _)
    · exact nb z
  refine air_made (B := hideAll s1.heap (frs (cxOf (CXf P w) P w K mg base N qual scope f cd A outer s H E).stack)) (h := s1.heap) I.ok.frames (L := s.heap.objs.size) rfl (fun b o q => of_hideAll _ q)
    (funFrames_hide I.stack fun env he L hf => List.mem_filterMap.mpr ⟨env, he, hf⟩) mk fun h2 fl sm => ?_
  have u1 : Un (frs outer) [] H H1 s.heap h' := Un.trans I.base (Un.kept mk.keeps)
  refine ⟨a, C, H1, rfl, Fly.on (s' := { s1 with heap := h' }) fl sm I.os I.bare u1 (I.hok.kept mk.keeps) (fun b ob q hc => ?_) (fun b hb => ?_), he⟩
  · have ex : ∃ ob1, s1.heap.get? b = some ob1 := by
      rcases hc with hc | ⟨⟨o, e⟩, _⟩
      · cases z : H1 b with
        | none => exact absurd z hc
        | some o => exact obj_there (I.hok b o z)
      · exact I.base.there b o e (by simp [cxOf])
    obtain ⟨ob1, q1⟩ := ex
    have q2 := mk.keeps b ob1 q1
    have q' : h'.get? b = some ob := q
    rw [q2] at q'
    cases q'
    refine hideAll_get _ q1 fun z => ?_
    rcases hc with hc | ⟨⟨o, e⟩, nb⟩
    · exact hc (I.stkFree b z)
    · exact stood b o e nb z
  · obtain ⟨o, q, nf⟩ := fun_frame I.funs b hb
    exact ⟨o, mk.keeps b o q, nf⟩
end
end BD
namespace BD
open PySem L2 PySem.W PyProof.Rows
theorem exc_obj {K : Frag} {h : Heap} {C : Addr} {bB : List Value} {nw : String} (X : K.In h) (q : excIn K C bB nw = true) :
    ∃ tl N x1 x2 x3 x4 x5 x6 x7 x8 x9 y0 y1 y2 y3 y5 mN, h.get? C = some (excClassObj x1 x2 C N x3 tl x4 x5 x6 x7 x8 x9 y0 y1 y2 y3 y5 nw) ∧ h.Ns N mN ∧ mN "__init__" = none ∧ OwnTail h bB tl := by
  unfold excIn at q
  split at q
  · next dd cl sl lk =>
    split at q
    · next C2 tl y0 y1 y2 y3 n y5 hm hs =>
      have q := q
      simp only [Bool.and_eq_true, beq_iff_eq, Bool.not_eq_true'] at q
      have ⟨⟨⟨⟨⟨e1, e2⟩, e3⟩, e4⟩, e5⟩, e6⟩ := q
      subst e1 e2
      cases cl
      dsimp only at hm e3 e5 e6
      subst hm e3
      have hz : sl = #[y0, y1, y2, y3, some (.builtin n), y5] := by
        cases sl
        exact congrArg Array.mk hs
      subst hz
      exact ⟨tl, _, _, _, _, _, _, _, _, _, _, y0, y1, y2, y3, y5, _, X _ _ lk, Heap.Ns.of_isNs (isNs_of_in X e5), nsMap_none_of_in X e5 e6, tail_of_in X e4⟩
    · cases q
  · cases q
section
variable {X : Cx} {T : Tab} {E : XK}
theorem ps_raise {x : Str} {C : Addr} {bB : List Value} {B nw iw : String} {a : Expr} {ta : TA} {np cpos pos : Pos} (hR : Raises X E) (hc : X.calm = true) (hg : Gl X x) (hm : X.mg x = some (.ref C)) (hq : excIn X.K C bB nw = true) (FB : ExcBaseFacts B nw iw bB) (ha : PA X [a] ta)
    (hs : starEach [a] X.env = [(false, eval a X.env)] := by kernel_rfl) (hd : (x == ("__debug__" : Str)) = false := by kernel_rfl) :
    PS X (.Raise (some (.Call (.Name x np) [a] [] cpos)) none pos) (fun D σ H => ta σ H fun vs H1 => vs.length ≤ 1 ∧ E (.ref C) none H1) := by
  intro pins s σ H D I h
  obtain ⟨tl, N, x1, x2, x3, x4, x5, x6, x7, x8, x9, y0, y1, y2, y3, y5, mN, hC, hN, hni, TL⟩ := exc_obj I.ok.mod.kin hq
  refine wpAny_Raise_call_subT (k5 := y5) (k3 := y3) (k2 := y2) (k1 := y1) (k0 := y0) (dd := x9) (col := x8) (ab := x7) (sub := x6) (sn := x5) (hdct := x4) (bm := tl) (bs := x3) (N := N) (q := x2) (nm := x1) (C := C) FB (mN := mN) (TL.hasType FB.hasBase) (I.ok.hd hc) (by rw [hs]; rfl) hni (ld_glob I hg hm ⟨rfl, ?_⟩ hd)
  have ha' := ha cpos pins s σ H _ I h
  rw [hs] at ha' ⊢
  refine Calls.evalArgs_plain (wpAny_mono ha' (fun us s2 hv => ?_) fun _ _ y => y)
  obtain ⟨vs, H1, I1, r, hl, he⟩ := hv
  refine ⟨rfl, ?_, I1.bk _ _ hC, hN.keeps I1.bk, TL.keeps I1.bk, fun h' e mk => hR pins σ H1 s2 e (.ref C) h' _ I1 mk he⟩
  have hz := r.length
  show us.length ≤ sizeLine
  rw [← hz]
  exact Nat.le_trans hl (by decide)
structure IsExc (K : Frag) (mg : Str → Option Value) (T : Tab) (x : Str) (n : Nat) : Prop where
  ex : ∃ C, T.clsV n = .ref C ∧ mg x = some (.ref C) ∧ excIn K C [.type "ValueError", .type "Exception", .type "BaseException", .type "object"] "ValueError.__new__" = true
def sExc (f : Ev) (n : Nat) : Sv := fun ρ => sbnd (f ρ) fun _ => some (.exc n)
theorem js_raise {x : Str} {n : Nat} {a : Expr} {f : Ev} {np cpos pos : Pos} (hR : Raises X E) (hc : X.calm = true) (hg : Gl X x) (hx : IsExc X.K X.mg T x n) (ha : JE X T E a f)
    (hs : starEach [a] X.env = [(false, eval a X.env)] := by kernel_rfl) (hs1 : starEach [a] X.env = (false, eval a X.env) :: starEach [] X.env := by kernel_rfl) (hd : (x == ("__debug__" : Str)) = false := by kernel_rfl) : JS X T E (.Raise (some (.Call (.Name x np) [a] [] cpos)) none pos) (sExc f n) := by
  obtain ⟨C, hC, hm, hq⟩ := hx.ex
  refine ⟨PS.imp (ps_raise hR hc hg hm hq PySem.F.excBase_ValueError (pa_cons ha.h pa_nil hs1) hs hd) fun D σ H ⟨c, ρ, F, fl, r, e, th⟩ => ?_⟩
  refine tD_bindS r e th fun d v H1 F1 g1 r1 e1 => ?_
  cases e1
  refine ⟨by simp, ?_⟩
  rw [← hC]
  exact th H1 (r.grow g1).ext
end
end BD
namespace BD
open PySem L2 PySem.W PyProof.Rows
section
variable {P : Program} {w : World} {K : PySem.W.Frag} {mg : Str → Option Value} {base : Heap} {T : Tab}
theorem fnx_okJ {x qual : Str} {st : Stmt} {dV : Value} {f : Addr} {fd : FuncData} {N ps : List Str} {k n m : Nat} {fb : Sv} (F : FunD K x qual st dV f fd) (S : FnScope N ps (defScope st)) (hn : ps.length = n) (hm : N.length = n + m)
    (hbody : ∀ (cdv : Value) (A : Around) (outer : List Env) (s : Shared) (H : Hp) (E : XK), Room k (A.deeper (PyProof.Rows.envOfC qual (defScope st) s.heap.objs.size f cdv)) → JB (cxOf (CXf P w) P w K mg base N qual (defScope st) f cdv A outer s H E) T E (defBody st) fb) :
    FnOk P w K mg base (CXf P w) (k + 1) f fd ps (spD T K (fnSem n m fb)) := by
  subst hn
  have e : m = N.length - ps.length := by omega
  subst e
  obtain ⟨oc, od, kV, doc, pm, an, cdv, ct, osl, rfl, lk, hcd⟩ := F.ex
  refine fn_of lk hcd S (fun vs H Q E ⟨F, ds, out, wf, r, e, th⟩ => by rw [r.length]; exact fnSem_len e) fun A outer s H vs Q E hr hsp => ?_
  exact ⟨_, (hbody cdv A outer s H E hr).h, sp_body (by omega) hsp⟩
theorem passL {N : List Str} {qual : Str} {scope : Scope} {f : Addr} {cd : Value} {A : Around} {outer : List Env} {s : Shared} {H : Hp} {E : XK} : PassesOwn (model P w) (cxOf (CXf P w) P w K mg base N qual scope f cd A outer s H E).A (cxOf (CXf P w) P w K mg base N qual scope f cd A outer s H E).env (cxOf (CXf P w) P w K mg base N qual scope f cd A outer s H E).xe :=
  PassesOwn.leaving (Q₁ := fun e s'' => CXf P w outer H s E e s'') (E₁ := fun e' s'' => CXf P w outer H s E e' s'')
theorem noX {outer : List Env} {H : Hp} {s : Shared} {e : Value} {s' : Shared} (h : CXf P w outer H s (fun _ _ _ => False) e s') : False := by
  obtain ⟨_, _, _, _, _, z⟩ := h
  exact z
end
end BD
namespace BD
open PySem L2 PySem.W PyProof.Rows
def Quiet (A : Around) (hp : Heap) : Prop := A.handled = none ∨ ∃ h o vs, A.handled = some (.ref h) ∧ hp.get? h = some o ∧ o.data = .fields vs ∧ vs[2]? = some .none
theorem Quiet.keeps {A : Around} {h h' : Heap} (q : Quiet A h) (k : ∀ b o, h.get? b = some o → h'.get? b = some o) : Quiet A h' := by
  rcases q with q | ⟨a, o, vs, q1, q2, q3, q4⟩
  · exact .inl q
  · exact .inr ⟨a, o, vs, q1, k _ _ q2, q3, q4⟩
section
variable {prog : Program} {w : World} {A : Around} {E : Value → Shared → Prop} {s : Shared}
end
end BD
namespace BD
open PySem PySem.Spec L2 PySem.W PyProof.Rows
def QuietH (A : Around) (H : Hp) : Prop := ∃ e oe u vs, A.handled = some (.ref e) ∧ H e = some (.frz oe u) ∧ oe.data = .fields vs ∧ vs[2]? = some .none
def QX (X : Cx) : Prop := QuietH X.A X.H_0
section
variable {X : Cx} {pins : List (Addr × Obj)} {σ : L2.St} {H : Hp} {s : Shared}
theorem QX.at (q : QX X) (I : Inv X pins σ H s) : QuietH X.A H := by
  obtain ⟨e, oe, u, vs, h1, h2, h3, h4⟩ := q
  exact ⟨e, oe, u, vs, h1, I.base.frzs _ _ _ h2, h3, h4⟩
theorem QuietH.quiet {A : Around} (q : QuietH A H) (h : HOk X.prog X.w H s.heap) : Quiet A s.heap := by
  obtain ⟨e, oe, u, vs, h1, h2, h3, h4⟩ := q
  exact .inr ⟨e, oe, vs, h1, (h e _ h2).1, h3, h4⟩
theorem QX.blk {scope : Scope} {cenv : Env} {fp : List Addr} (q : QX X) (I : Inv X pins σ H s) : QX (X.blk s H scope cenv fp) := q.at I
end
structure TurnQ (P : Program) (w : World) (K : PySem.W.Frag) (tg : Expr) (J : It) (fp : List Addr) (it : Addr) (tn : Nat → Heap → Prop) : Prop where
  mem : it ∈ fp
  obj : ∀ i h, tn i h → ∀ b ∈ fp, ∃ o, h.get? b = some o ∧ ∀ v, o.data ≠ .cell v
  keep : ∀ i h h', tn i h → (∀ b ∈ fp, ∀ o, h.get? b = some o → h'.get? b = some o) → tn i h'
  item : ∀ (X : Cx), X.prog = P → X.w = w → X.K = K → QX X → ∀ (i : Nat) (pins : List (Addr × Obj)) (s : Shared) (σ : L2.St) (H : Hp) (E : Value → Shared → Prop), Inv X pins σ H s → (∀ b ∈ fp, FpOk X pins H b) → tn i s.heap → J.go i H →
    wpAny (model P w) X.A (pyNext (.ref it)) (fun r s1 => ∃ u, r = some u ∧
      wpAny (model P w) X.A (letOwnedTupleGo tg (.ref it) u) (fun _ s2 => ∃ x H', Inv X pins σ H' s2 ∧ RelV x u ∧ J.yld i H x H' ∧ tn (i + 1) s2.heap ∧ ∀ b ∈ fp, H' b = none) E s1) E s
  done : ∀ (X : Cx), X.prog = P → X.w = w → X.K = K → QX X → ∀ (i : Nat) (pins : List (Addr × Obj)) (s : Shared) (σ : L2.St) (H : Hp) (E : Value → Shared → Prop), Inv X pins σ H s → (∀ b ∈ fp, FpOk X pins H b) → tn i s.heap → J.stop i H →
    wpAny (model P w) X.A (pyNext (.ref it)) (fun r s1 => r = none ∧ Inv X pins σ H s1) E s
  self : ∀ (A : Around) (i : Nat) (s : Shared) (Q : Value → Shared → Prop) (E : Value → Shared → Prop), tn i s.heap → Q (.ref it) s → wpAny (model P w) A (pyIter (.ref it)) Q E s
def PIEQ (X : Cx) (pins : List (Addr × Obj)) (σ : L2.St) (tg : Expr) (R : It → Hp → Prop) (itv : Value) (s2 : Shared) : Prop :=
  ∃ (it : Addr) (fp : List Addr) (tn : Nat → Heap → Prop) (J : It) (H' : Hp), itv = .ref it ∧ Inv X pins σ H' s2 ∧ TurnQ X.prog X.w X.K tg J fp it tn ∧ tn 0 s2.heap ∧ (∀ b ∈ fp, FpOk X pins H' b) ∧ R J H'
def PIQ (X : Cx) (tg iter : Expr) (wi : TI) : Prop :=
  ∀ (pins : List (Addr × Obj)) (s : Shared) (σ : L2.St) (H : Hp) (R : It → Hp → Prop), Inv X pins σ H s → wi σ H R →
    wpAny (model X.prog X.w) X.A (eval iter X.env) (fun v s1 => wpAny (model X.prog X.w) X.A (pyIter v) (PIEQ X pins σ tg R) X.xe s1) X.xe s
section
variable {X : Cx} {tg : Expr}
end
section
variable {X : Cx}
end
section
variable {T : Tab} {K : PySem.W.Frag} {X : Cx} {E : XK} {a b c e l tg : Expr} {es rest : List Expr} {pos : Pos}
theorem PIQ.imp {wi wi' : TI} (h : PIQ X tg l wi) (w : ∀ σ H R, wi' σ H R → wi σ H R) : PIQ X tg l wi' := fun pins s σ H R I q => h pins s σ H R I (w σ H R q)
end
structure JIQ (X : Cx) (T : Tab) (E : XK) (tg e : Expr) (f : EvL) : Prop where h : PIQ X tg e (tDI T X.K E f)
section
variable {X : Cx} {T : Tab} {E : XK} {a tg elt iter : Expr} {ifs : List Expr} {pos p : Pos} {fs : EvL} {q fe : Ev}
end
end BD
namespace BD
open PySem PySem.Spec L2 PySem.W PyProof.Rows
structure RoomQ (k : Nat) (A : Around) : Prop where
  dp : A.depth + 3 * k + 5 < recursionLimit
  un : A.units + 16 * k + 200 < cLine
theorem RoomQ.of {k : Nat} {A : Around} (r : Room k A) : RoomQ k A := ⟨r.dp, r.un⟩
theorem RoomQ.mono {j k : Nat} {A : Around} (r : RoomQ k A) (h : j ≤ k) : RoomQ j A := ⟨by have := r.dp; omega, by have := r.un; omega⟩
theorem RoomQ.deeper {k : Nat} {A : Around} (r : RoomQ (k + 1) A) (env : Env) : RoomQ k (A.deeper env) :=
  ⟨by have := r.dp; show A.depth + 1 + 3 * k + 5 < _; omega, by have := r.un; show A.units + 3 + 16 * k + 200 < _; omega⟩
theorem RoomQ.depth {k : Nat} {A : Around} (r : RoomQ k A) : A.depth < recursionLimit := by have := r.dp; omega
theorem RoomQ.units {k : Nat} {A : Around} (r : RoomQ k A) : A.units + 64 < cLine := by have := r.un; omega
structure FnOkQ (P : Program) (w : World) (K : PySem.W.Frag) (mg : Str → Option Value) (base : Heap) (k : Nat) (f : Addr) (fd : FuncData) (ps : List Str) (sp : Sp) : Prop where
  len : ∀ vs H Q E, sp vs H Q E → vs.length = ps.length
  run : ∀ (A : Around) (outer : List Env) (s : Shared) (H : Hp) (args : Args) (us : List Value) (vs : List V) (Q : VK) (E : XK), RoomQ k A → QuietH A H → Env0 P w K mg base A outer s H → BindsTo s fd args (ps.zip us) → Vals vs us → sp vs H Q E →
    codeAny (model P w) A (.call (.ref f) args) (CR CX0 outer P w H s Q E) s
section
variable {P : Program} {w : World} {K : PySem.W.Frag} {mg : Str → Option Value} {base : Heap} {T : Tab}
end
section
variable {X : Cx} {k : Nat} {f : Addr} {fd : FuncData} {ps : List Str} {sp : Sp} {E : XK} {x : Str} {p pos : Pos} {e : Expr} {es : List Expr} {t : TA}
end
end BD
namespace BD
open PySem PySem.Spec L2 PySem.W PyProof.Rows
section
variable {X : Cx} {pins : List (Addr × Obj)} {σ σ' : L2.St} {H : Hp} {s : Shared} {h' : Heap} {m' : Str → Option Value} {tk : Nat}
end
section
variable {X : Cx} {pins : List (Addr × Obj)} {σ : L2.St} {H : Hp} {s : Shared} {a : Addr}
end
end BD
namespace BD
open PySem PySem.Spec L2 PySem.W PyProof.Rows
def PX (X : Cx) (e : Expr) (t : L2.St → Hp → VK → XK → Prop) : Prop :=
  ∀ (pins : List (Addr × Obj)) (s : Shared) (σ : L2.St) (H : Hp) (Q : VK) (EK : XK) (E' : Value → Shared → Prop), Inv X pins σ H s → t σ H Q EK →
    (∀ H1 s1 er s', Inv X pins σ H1 s1 → CXf X.prog X.w X.stack H1 s1 EK er s' → E' er s') → wpAny (model X.prog X.w) X.A (eval e X.env) (EP X pins σ Q) E' s
section
variable {X : Cx} {pins : List (Addr × Obj)} {σ : L2.St} {H : Hp} {s s' : Shared} {er cB : Value} {ts : Addr → TS} {i : Nat} {D : Ends} {n x : Str} {np hp : Pos} {b0 : Stmt} {su : List Stmt}
end
end BD
namespace BD
open PySem PySem.Spec L2 PySem.W PyProof.Rows
section
variable {prog : Program} {w : World} {A : Around} {E : Value → Shared → Prop} {h : Heap} {g : Array GenState} {d : Drawn} {t : Nat} {os : OsState} {a : Addr} {o : Obj} {K : Frag} {C : Addr}
structure ECls (K : Frag) (C : Addr) : Prop where
  ga : findIn K (.ref C) "__getattribute__" = some (some (.builtin "BaseException.__getattribute__"))
  gt : findIn K (.ref C) "__getattr__" = some none
  cl : findIn K (.ref C) "__class__" = some (some (.builtin "object.__class__"))
  sb : subIn K (.ref C) (.type "BaseException") = some true
  so : subIn K (.ref C) (.type "object") = some true
  ic : (clsIn K C).isSome = true
end
end BD
namespace BD
open PySem PySem.Spec L2 PySem.W PyProof.Rows
def exT (clsV : Nat → Value) : Addr → Nat → HO → Prop := fun a n o => ∃ oe vs, o = .frz oe (.own a) ∧ oe.cls = clsV n ∧ oe.data = .fields vs ∧ vs[2]? = some .none
structure IsTab (T : Tab) : Prop where ex : T.ex = exT T.clsV
section
variable {X : Cx} {T : Tab} {E : XK} {a : Expr} {f : Ev} {pos p p2 : Pos}
end
abbrev FnL := List (Nat × (List D → Option Out))
section
variable {P : Program} {w : World} {K : PySem.W.Frag} {mg : Str → Option Value} {base : Heap} {CX : CXT} {T : Tab} {k : Nat} {gl : FnL}
end
structure JX (X : Cx) (T : Tab) (e : Expr) (f : Ev) : Prop where h : PX X e (fun σ H Q EK => tD T X.K EK f σ H Q)
section
variable {X : Cx} {T : Tab} {E : XK} {k : Nat} {e : Expr} {es : List Expr} {fs : EvL} {x : Str} {p pos : Pos}
end
end BD
namespace BD
open PySem PySem.Spec L2 PySem.W PyProof.Rows
theorem Grow.ofExt {H H' : Hp} {F : Addr → Prop} (wf : ∀ a, F a → H a ≠ none) (e : Ext H H') : Grow H H' F F := ⟨e, fun _ h => h, fun _ h => .inl h, fun a h => by
  cases q : H a with
  | none => exact absurd q (wf a h)
  | some o => rw [e a o q]; simp⟩
section
variable {X : Cx} {T : Tab} {E : XK} {k i : Nat} {c ke : Expr} {rest : List Stmt} {x n y : Str} {cB : Value} {np hp ep pos p1 cp yp rp ip up qp : Pos} {fc fk : Ev} {fr : Sv} {al : List D → Option Out} {okn : Nat → Bool} {ps : List Str} {jj : Nat}
end
end BD
namespace BD
open PySem PySem.Spec L2 PySem.W PyProof.Rows
abbrev veB : List Value := [.type "ValueError", .type "Exception", .type "BaseException", .type "object"]
def TabL (fl : List (Nat × Addr)) (cl : List (Nat × Value)) (ol : List (Nat × Addr × List Str) := []) : Tab := ⟨fun m => fl.lookup m, exT fun n => (cl.lookup n).getD .none, fun n => (cl.lookup n).getD .none, fun m => ol.lookup m, [], false, none⟩
theorem tabL_is {fl : List (Nat × Addr)} {cl : List (Nat × Value)} {ol : List (Nat × Addr × List Str)} : IsTab (TabL fl cl ol) := ⟨rfl⟩
section
variable {K : Frag} {mg : Str → Option Value} {T : Tab}
end
section
variable {X : Cx} {T : Tab} {E : XK} {a : Expr} {f : Ev} {pos p p2 : Pos}
end
section
variable {X : Cx} {T : Tab} {E : XK}
theorem js_rz {x : Str} {n : Nat} {a : Expr} {f : Ev} {np cpos pos : Pos} (hR : Raises X E) (hc : X.calm = true) (hg : X.env.kindOf x = some .globalImplicit) (hx : IsExc X.K X.mg T x n) (ha : JE X T E a f)
    (hs : starEach [a] X.env = [(false, eval a X.env)] := by kernel_rfl) (hs1 : starEach [a] X.env = (false, eval a X.env) :: starEach [] X.env := by kernel_rfl) (hd : (x == ("__debug__" : Str)) = false := by kernel_rfl) : JS X T E (.Raise (some (.Call (.Name x np) [a] [] cpos)) none pos) (sExc f n) := js_raise hR hc hg hx ha hs hs1 hd
end
section
variable {P : Program} {w : World}
theorem passN {X : Cx} : Passes (CXf P w) X E0 := fun _ _ _ _ _ _ _ h => (noX h).elim
end
open Att in
theorem walk_Dx {l : PySem.W.OpenLaw} {n k : Nat} {q : Program} {loose : List Str} {XP : (Str → Option Value) → Heap → Prop} {YP : World → Heap → Prop} {d : DefRec} {K : Params → PySem.W.Frag} {x : Str} {g : List D → Option Out}
    (hn : l.most = some n) (hn2 : n ≤ sizeLine) (hdf : d.params.defaults = []) (hr : Room k callerA) (hY : ∀ (w : World) (h : Heap), YP w h → (K w.params).In h) (hL : LawT n g)
    (F : ∀ (w : World) (mg : Str → Option Value) (fa : Addr) (h : Heap), (K w.params).In h → h.Ns mainGlobals mg → mg d.name = some (.ref fa) →
      ∃ (fd : FuncData) (T : Tab), (∀ (s : Shared) (u : Value), BindsTo s fd ⟨[u], []⟩ [(x, u)]) ∧ ∀ base : Heap, (K w.params).In base → base.Ns mainGlobals mg → FnOk l.prog w (K w.params) mg base (CXf l.prog w) k fa fd [x] (spD T (K w.params) g)) :
    PySem.W.WalkO q loose XP YP l.row.toRowW d [] (fun f vs => PySem.call f vs) := by
  intro w s₀ s₁ mg mb G Y fa o pm cd doc dV kV ho hd hcd hD hmg hg args vals as hpre hlay hrd hwl hlo
  obtain rfl : dV = .none := Dflts.none hD hdf
  obtain rfl : kV = .none := Dflts.noKw hD
  obtain ⟨a, vs, ns, rfl, rfl, hobj, hints, hlen⟩ := script_of hn hpre hwl
  have KX := hY w _ Y
  obtain ⟨fd, T, hb, hF⟩ := F w mg fa _ KX G.T.g hmg
  have hc := law_call KX G.T.g G.T.b G.T.builtins G.T.nolimit hg hobj hints (Nat.le_trans hlen hn2) hr hF hb (fun H hO hS => sp_script hS (hL ns hlen (bits_of hlay))) fun H e s' => noX
  refine enter_call (codeAny_mono hc fun r s' hq => ?_)
  obtain ⟨rfl, h2, h3, h4⟩ := hq
  exact ⟨.inl ⟨.bool true, .bool true, [], rfl, fun _ => rfl, .bool true, post_true l _, fun _ => ⟨List.Pairwise.nil, fun _ hm => (nomatch hm)⟩⟩, h2, h3, h4⟩
end BD
namespace BD
open PySem L2
section
variable {X : Cx} {T : Tab} {E : XK} {a b : Expr} {pos : Pos} {f : Ev} {fs : EvL}
end
end BD
namespace BD
open PySem PySem.Spec L2 PySem.W PyProof.Rows
def isD : D → D → Option D
  | .non, .non => some (.bl true)
  | .bl a, .bl b => some (.bl (a == b))
  | .bl _, .non => some (.bl false)
  | .int _, .non => some (.bl false)
  | .str _, .non => some (.bl false)
  | .tup _, .non => some (.bl false)
  | .lst _, .non => some (.bl false)
  | .obj _ _, .non => some (.bl false)
  | .cell _, .non => some (.bl false)
  | _, _ => none
def isntD (x y : D) : Option D := (isD x y).map fun d => match d with
  | .bl b => .bl (!b)
  | d => d
section
variable {X : Cx} {T : Tab}
theorem is_val {F : Addr → Prop} {H : Hp} {x y : V} {u v : Value} {d e r : D} (hx : Rep T X.K F H x d) (hy : Rep T X.K F H y e) (rx : RelV x u) (ry : RelV y v) (h : isD d e = some r) : ∃ b, r = .bl b ∧ (u == v) = b ∧ (v = .none ∨ ∃ p q, u = .bool p ∧ v = .bool q) := by
  cases hy with
  | non =>
    cases (show v = Value.none from ry)
    cases hx with
    | non => cases (show u = Value.none from rx); cases h; exact ⟨_, rfl, rfl, .inl rfl⟩
    | bl b => cases (show u = Value.bool b from rx); cases h; exact ⟨_, rfl, rfl, .inl rfl⟩
    | int i => obtain ⟨t, q⟩ := (show ∃ t, u = Value.int i t from rx); cases q; cases h; exact ⟨_, rfl, rfl, .inl rfl⟩
    | str y => obtain ⟨t, q⟩ := (show ∃ t, u = Value.str y t from rx); cases q; cases h; exact ⟨_, rfl, rfl, .inl rfl⟩
    | @tup a _ _ _ _ => cases (show u = Value.ref a from rx); cases h; exact ⟨_, rfl, rfl, .inl rfl⟩
    | @lst a _ _ _ _ => cases (show u = Value.ref a from rx); cases h; exact ⟨_, rfl, rfl, .inl rfl⟩
    | @obj a _ _ _ _ _ _ _ _ _ => cases (show u = Value.ref a from rx); cases h; exact ⟨_, rfl, rfl, .inl rfl⟩
    | @cell a _ _ => cases (show u = Value.ref a from rx); cases h; exact ⟨_, rfl, rfl, .inl rfl⟩
    | dct _ => cases h
    | dic _ _ _ => cases h
    | fn _ => cases h
    | exn _ _ _ => cases h
  | bl b =>
    cases (show v = Value.bool b from ry)
    cases hx with
    | bl a => cases (show u = Value.bool a from rx); cases h; exact ⟨_, rfl, by cases a <;> cases b <;> rfl, .inr ⟨a, b, rfl, rfl⟩⟩
    | non => cases h
    | int i => cases h
    | str y => cases h
    | tup _ _ => cases h
    | lst _ _ => cases h
    | obj _ _ _ _ => cases h
    | cell _ => cases h
    | dct _ => cases h
    | dic _ _ _ => cases h
    | fn _ => cases h
    | exn _ _ _ => cases h
  | _ => cases d <;> cases h
theorem od_is : OpR X (compareOp .Is) (rD T X.K isD) := fun pins s σ H x y v u Q I rx ry ⟨F, dx, dy, d, wf, r1, r2, e, k⟩ => by
  obtain ⟨b, rfl, eb, hc⟩ := is_val r1 r2 rx ry e
  have fin : EP X pins σ Q (.bool b) s := ⟨.bl b, H, I, rfl, k _ H F (.refl wf) (.bl b)⟩
  rcases hc with rfl | ⟨p, q, rfl, rfl⟩
  · exact is_none_gen (by rw [eb]; exact fin)
  · exact wpAny_is_plain (by cases p <;> cases q <;> rfl) (by rw [eb]; exact fin)
theorem jp_is : JCmp X T .Is isD := ⟨od_is⟩
end
structure ObC (K : Frag) (mg : Str → Option Value) (T : Tab) (x : Str) (n : Nat) (names : List Str) (C : Addr) : Prop where
  mg : mg x = some (.ref C)
  oc : T.oc n = some (C, names)
  cl : Cls K C
  no : ∀ f ∈ names, NoAttr K C f
  nd : names.Nodup
section
variable {X : Cx} {T : Tab} {E : XK} {CX : CXT} {k n : Nat} {f C : Addr} {fd : FuncData} {ps names : List Str} {x m : Str} {p pos apos : Pos} {e o : Expr} {es : List Expr} {fs : EvL} {fo : Ev}
structure ClM (P : Program) (w : World) (K : Frag) (mg : Str → Option Value) (base : Heap) (CX : CXT) (T : Tab) (C : Addr) (m : Str) (ps : List Str) (k : Nat) (g : List D → Option Out) : Prop where
  ex : ∃ f fd, FnOk P w K mg base CX k f fd ps (spD T K g) ∧ Meth K C m f ∧ Binds K fd ps []
end
end BD
namespace BD
open PySem PySem.Spec L2 PySem.W PyProof.Rows
structure Mk0 (K : Frag) (C : Addr) : Prop where
  mak : makesIn K C = true
  ini : findIn K (.ref C) "__init__" = some (some (.builtin "object.__init__"))
  kp : keepIn K (.ref C) = true
section
variable {P : Program} {w : World} {K : Frag} {mg : Str → Option Value} {base : Heap} {CX : CXT}
end
section
variable {X : Cx} {T : Tab} {E : XK} {CX : CXT} {k n : Nat} {ps names : List Str} {x : Str} {p pos : Pos} {e : Expr} {es : List Expr} {fs : EvL}
end
end BD
namespace BD
open PySem PySem.Spec L2 PySem.W PyProof.Rows
section
variable {X : Cx} {T : Tab}
theorem bool_isnot {M : Model} {A : Around} {E : Value → Shared → Prop} {s : Shared} {Q : Value → Shared → Prop} {p q : Bool} (h : Q (.bool (!(Value.bool p == Value.bool q))) s) : wpAny M A (compareOp .IsNot (.bool p) (.bool q)) Q E s := by
  cases p <;> cases q <;> exact wpAny_pure h
theorem od_isnt : OpR X (compareOp .IsNot) (rD T X.K isntD) := fun pins s σ H x y v u Q I rx ry ⟨F, dx, dy, d, wf, r1, r2, e, k⟩ => by
  unfold isntD at e
  cases q : isD dx dy with
  | none => rw [q] at e; cases e
  | some z =>
    rw [q] at e
    obtain ⟨b, rfl, eb, hc⟩ := is_val r1 r2 rx ry q
    cases e
    have fin : EP X pins σ Q (.bool (!b)) s := ⟨.bl (!b), H, I, rfl, k _ H F (.refl wf) (.bl _)⟩
    rcases hc with rfl | ⟨p, q, rfl, rfl⟩
    · exact isnot_none_gen (by rw [eb]; exact fin)
    · exact bool_isnot (by rw [eb]; exact fin)
theorem jp_isnt : JCmp X T .IsNot isntD := ⟨od_isnt⟩
def anyB : List D → Option D
  | [.lst ds] => (blsO ds).map fun ns => .bl (ns.any id)
  | _ => none
theorem cb_any (hc : X.calm = true) : CallR X (.builtin "any") (rB T X.K anyB) := CallR.imp (cr_any hc) fun vs H Q ⟨F, ds, d, wf, r, e, k⟩ => by
  unfold anyB at e
  split at e
  · rename_i ds
    cases q : blsO ds with
    | none => rw [q] at e; cases e
    | some ns =>
      rw [q] at e; cases e
      cases r with
      | cons r1 t =>
        cases t
        cases r1 with
        | lst h rr => exact ⟨_, ns, rfl, by rw [← blsO_ok rr q]; exact h.sq, k _ H F (.refl wf) (.bl _)⟩
  · cases e
theorem jc_any (hc : X.calm = true) : JCall X T "any" anyB := ⟨cb_any hc⟩
end
structure OCl (K : Frag) (C : Addr) : Prop where
  cl : Cls K C
  ha : findIn K (.ref C) "__class__" = some (some (.builtin "object.__class__"))
  hn : specialIn K (.builtin "object.__class__") "__get__" = some (some (.builtin "getset_descriptor.__get__"))
  tk : takesIn K (.builtin "object.__class__") = some true
  mo : mroIn K C (.type "object") = some true
section
variable {X : Cx} {T : Tab} {E : XK} {a o e : Expr} {es : List Expr} {f fo : Ev} {fs : EvL} {pos p p2 apos : Pos}
end
section
variable {P : Program} {w : World} {K : Frag} {mg : Str → Option Value} {base : Heap} {CX : CXT} {T : Tab} {m : Str} {k : Nat} {gl : FnL}
end
section
variable {X : Cx} {T : Tab} {E : XK} {CX : CXT} {k : Nat} {m : Str} {pos apos : Pos} {o e : Expr} {es : List Expr} {fo : Ev} {fs : EvL} {gl : FnL}
end
end BD
namespace BD
open PySem PySem.Spec L2 PySem.W PyProof.Rows
section
variable {T : Tab} {K : PySem.W.Frag} {E : XK}
end
section
variable {X : Cx} {T : Tab} {E E0 : XK} {elt iter iter1 tg1 : Expr} {ifs ifs1 : List Expr} {scope : Scope} {own : List (Str × Nat)} {pos tpos : Pos} {fs fs1 : EvL} {gg : Gv} {q q1 fe : Ev} {vs1 ss : List Nat} {i0 : Nat} {x0 : Str}
end
end BD
namespace BD
open PySem PySem.Spec L2 PySem.W PyProof.Rows
section
variable {X : Cx} {T : Tab} {E : XK}
end
end BD
namespace BD
open PySem PySem.Spec L2 PySem.W PyProof.Rows
section
variable {X : Cx} {T : Tab} {E : XK} {b : Expr} {pos px : Pos}
end
end BD
namespace BD
open PySem PySem.Spec L2 PySem.W PyProof.Rows
section
variable {X : Cx} {T : Tab} {E : XK} {a : Expr} {f : Ev} {pos p px py pt : Pos}
end
end BD
namespace BD
open PySem PySem.Spec L2 PySem.W PyProof.Rows
def Tab.wc (T : Tab) (φ : List Addr) : Tab := { T with cl := φ, mt := false }
def Tab.ws (T : Tab) (φ : List Addr) : Tab := { T with cl := φ, mt := true }
def Tab.up (T : Tab) : Tab := { T with mt := true }
inductive Fd where
  | sh (d : D) | own (ds : List D)
inductive Cell where
  | ins (m k : Nat) (fs : List Fd) | lst (ds : List D) | dead
abbrev Mem := List Cell
inductive Tag where
  | cell (n : Nat) | fld (n i : Nat)
abbrev Own := Addr → Option Tag
abbrev FS := Addr → Prop
structure FOk (T : Tab) (K : Frag) (F : FS) (G H : Hp) (W : Own) (n : Nat) (vs : List V) (fs : List Fd) : Prop where
  len : vs.length = fs.length
  sh : ∀ (i : Nat) (d : D), fs[i]? = some (.sh d) → ∃ v, vs[i]? = some v ∧ Rep T K F G v d
  own : ∀ (i : Nat) (ds : List D), fs[i]? = some (.own ds) → ∃ p us, vs[i]? = some (.ref p) ∧ W p = some (.fld n i) ∧ H p = some (.lst us) ∧ Reps T K F G us ds
def COk (T : Tab) (K : Frag) (F : FS) (G H : Hp) (W : Own) (n : Nat) (a : Addr) : Cell → Prop
  | .dead => True
  | .lst ds => W a = some (.cell n) ∧ ∃ vs, H a = some (.lst vs) ∧ Reps T K F G vs ds
  | .ins m k fs => W a = some (.cell n) ∧ ∃ C dx fvs names, H a = some (.ins C dx fvs) ∧ T.oc m = some (C, names) ∧ names.length = k ∧ fs.length ≤ k ∧ fvs.map (·.1) = names.take fs.length ∧ FOk T K F G H W n (fvs.map (·.2)) fs
def HeldAt (G : Hp) (a : Addr) : Prop := ∃ oe vs, G a = some (.frz oe (.own a)) ∧ oe.data = .fields vs ∧ vs[2]? = some .none
theorem HeldAt.keep {G G' : Hp} {F : FS} {a : Addr} (h : HeldAt G a) (k : Keep F G G') : HeldAt G' a := let ⟨oe, vs, h1, h2⟩ := h; ⟨oe, vs, k _ _ h1 (.inr ⟨(fun _ z => nomatch z), fun _ z => nomatch z⟩), h2⟩
structure Spl (T : Tab) (K : Frag) (F : FS) (W : Own) (M : Mem) (G H : Hp) : Prop where
  len : T.cl.length = M.length
  ok : ∀ (n : Nat) (c : Cell), M[n]? = some c → ∃ a, T.cl[n]? = some a ∧ COk T K F G H W n a c
  off : ∀ a, W a ≠ none → G a = none
  on : ∀ a, W a = none → G a = H a
  kind : ∀ a, W a ≠ none → (∃ xs, H a = some (.lst xs)) ∨ ∃ C dx fs, H a = some (.ins C dx fs) ∧ ∀ n names, T.oc n = some (C, names) → mutN n = true
  hd : ∀ a, T.hd = some a → HeldAt G a
section
variable {T : Tab} {K : Frag} {F F' : FS} {W : Own} {M : Mem} {G G' H H' : Hp}
theorem Spl.ext (s : Spl T K F W M G H) : Ext G H := fun a o e => by
  cases q : W a with
  | none => rw [← s.on a q]; exact e
  | some t => rw [s.off a (by rw [q]; simp)] at e; cases e
theorem Spl.wz (s : Spl T K F W M G H) {a : Addr} (h : G a ≠ none) : W a = none := by
  cases q : W a with
  | none => rfl
  | some t => exact absurd (s.off a (by rw [q]; simp)) h
theorem Spl.there (s : Spl T K F W M G H) {a : Addr} (h : W a ≠ none) : H a ≠ none := by
  rcases s.kind a h with ⟨xs, e⟩ | ⟨C, dx, fs, e, _⟩ <;> rw [e] <;> simp
def restr (W : Own) (H : Hp) : Hp := fun a => match W a with
  | none => H a
  | some _ => none
theorem restr_on {a : Addr} (h : W a = none) : restr W H a = H a := by unfold restr; rw [h]
theorem restr_off {a : Addr} (h : W a ≠ none) : restr W H a = none := by
  unfold restr
  cases q : W a with
  | none => exact absurd q h
  | some t => rfl
theorem FOk.keep {n : Nat} {vs : List V} {fs : List Fd} (h : FOk T K F G H W n vs fs) (k : Keep F G G') (f : ∀ a, F a → F' a) (e : ∀ p, W p ≠ none → H' p = H p) : FOk T K F' G' H' W n vs fs where
  len := h.len
  sh := fun i d q => let ⟨v, h1, h2⟩ := h.sh i d q; ⟨v, h1, h2.keep k f⟩
  own := fun i ds q => let ⟨p, us, h1, h2, h3, h4⟩ := h.own i ds q; ⟨p, us, h1, h2, by rw [e p (by rw [h2]; simp)]; exact h3, h4.keep k f⟩
theorem COk.keep {n : Nat} {a : Addr} {c : Cell} (h : COk T K F G H W n a c) (k : Keep F G G') (f : ∀ a, F a → F' a) (e : ∀ p, W p ≠ none → H' p = H p) : COk T K F' G' H' W n a c := by
  cases c with
  | dead => trivial
  | lst ds => obtain ⟨h1, vs, h2, h3⟩ := h; exact ⟨h1, vs, by rw [e a (by rw [h1]; simp)]; exact h2, h3.keep k f⟩
  | ins m kk fs => obtain ⟨h1, C, dx, fvs, names, h2, h3, h4, h5, h6, h7⟩ := h; exact ⟨h1, C, dx, fvs, names, by rw [e a (by rw [h1]; simp)]; exact h2, h3, h4, h5, h6, h7.keep k f e⟩
theorem Spl.keep (s : Spl T K F W M G H) (k : Keep F G G') (f : ∀ a, F a → F' a) (e : ∀ p, W p ≠ none → H' p = H p) (off : ∀ a, W a ≠ none → G' a = none) (on : ∀ a, W a = none → G' a = H' a) : Spl T K F' W M G' H' where
  len := s.len
  ok := fun n c q => let ⟨a, h1, h2⟩ := s.ok n c q; ⟨a, h1, h2.keep k f e⟩
  off := off
  on := on
  kind := fun a q => by rw [e a q]; exact s.kind a q
  hd := fun a q => (s.hd a q).keep k
theorem Spl.grow (s : Spl T K F W M G H) (wf : ∀ a, F a → G a ≠ none) (g : Grow H H' F F') : Spl T K F' W M (restr W H') H' ∧ Grow G (restr W H') F F' := by
  have e : ∀ p, W p ≠ none → H' p = H p := fun p q => by
    cases z : H p with
    | none => exact absurd z (s.there q)
    | some o => exact g.ext p o z
  have ex : Ext G (restr W H') := fun a o q => by
    rw [restr_on (s.wz (by rw [q]; simp))]
    exact g.ext a o (s.ext a o q)
  refine ⟨s.keep ex.keep g.more e (fun a q => restr_off q) (fun a q => restr_on q), ex, g.more, fun a q => ?_, fun a q => ?_⟩
  · rcases g.new a q with z | z
    · exact .inl z
    · exact .inr (s.ext.none z)
  · have hw : W a = none := by
      cases z : W a with
      | none => rfl
      | some t =>
        rcases g.new a q with y | y
        · exact s.wz (wf a y) ▸ z ▸ rfl
        · exact absurd y (s.there (by rw [z]; simp))
    rw [restr_on hw]
    exact g.wf a q
end
mutual
def flatD : D → Bool
  | .non => true
  | .bl _ => true
  | .int _ => true
  | .str _ => true
  | .fn _ => true
  | .cell _ => true
  | .tup ds => flatDs ds
  | _ => false
def flatDs : List D → Bool
  | [] => true
  | d :: ds => flatD d && flatDs ds
end
def headT : List D → Bool
  | [] => true
  | .tup ds :: _ => !decide (ds.length = 3)
  | .int _ :: _ => true
  | .str _ :: _ => true
  | .bl _ :: _ => true
  | .non :: _ => true
  | _ => false
mutual
def okD : D → Bool
  | .tup ds => okDs ds
  | .lst ds => headT ds && okDs ds
  | .obj n ds => !mutN n && okDs ds
  | .dic _ ds => okDs ds
  | _ => true
def okDs : List D → Bool
  | [] => true
  | d :: ds => okD d && okDs ds
end
def KD (K : Frag) (H : Hp) : Prop := ∀ a o, K.lookup a = some o → H a = none
theorem Inv.kd {X : Cx} {pins : List (Addr × Obj)} {σ : L2.St} {H : Hp} {s : Shared} (I : Inv X pins σ H s) : KD X.K H := fun a o e => (I.bs a o (I.ok.mod.kin a o e)).2
section
variable {T : Tab} {K : Frag} {F F' : FS} {W : Own} {M : Mem} {G G' H H' : Hp}
theorem sqT_off {a : Addr} {vs : List V} (kd : ∀ a, W a ≠ none → (∃ xs, H a = some (.lst xs)) ∨ ∃ C dx fs, H a = some (.ins C dx fs)) (h : SqT K H a vs) : SqT K (restr W H) a vs := by
  have hw : ∀ o, H a = some o → (∀ xs, o ≠ .lst xs) → (∀ C dx fs, o ≠ .ins C dx fs) → restr W H a = some o := fun o e n1 n2 => by
    cases z : W a with
    | none => rw [restr_on z]; exact e
    | some t =>
      rcases kd a (by rw [z]; simp) with ⟨xs, q⟩ | ⟨C, dx, fs, q⟩
      · rw [e] at q; cases q; exact absurd rfl (n1 xs)
      · rw [e] at q; cases q; exact absurd rfl (n2 C dx fs)
  rcases h with (h | ⟨o, h⟩) | h
  · exact .inl (.inl (hw _ h (fun _ z => nomatch z) (fun _ _ _ z => nomatch z)))
  · exact .inl (.inr ⟨o, hw _ h (fun _ z => nomatch z) (fun _ _ _ z => nomatch z)⟩)
  · exact .inr h
end
section
variable {T : Tab} {K : Frag} {F : FS} {W : Own} {H : Hp}
structure Out0 (T : Tab) (F : FS) (W : Own) (H : Hp) : Prop where
  tab : IsTab T
  mt : T.mt = false
  fr : ∀ a, F a → W a = none
  kind : ∀ a, W a ≠ none → (∃ xs, H a = some (.lst xs)) ∨ ∃ C dx fs, H a = some (.ins C dx fs) ∧ ∀ n names, T.oc n = some (C, names) → mutN n = true
theorem Out0.kd (o : Out0 T F W H) : ∀ a, W a ≠ none → (∃ xs, H a = some (.lst xs)) ∨ ∃ C dx fs, H a = some (.ins C dx fs) := fun a h => (o.kind a h).imp id fun ⟨C, dx, fs, e, _⟩ => ⟨C, dx, fs, e⟩
theorem Out0.at (o : Out0 T F W H) {a : Addr} {u : HO} (e : H a = some u) (n1 : ∀ xs, u ≠ .lst xs) (n2 : ∀ C dx fs, u ≠ .ins C dx fs) : restr W H a = some u := by
  cases z : W a with
  | none => rw [restr_on z]; exact e
  | some t =>
    rcases o.kd a (by rw [z]; simp) with ⟨xs, q⟩ | ⟨C, dx, fs, q⟩
    · rw [e] at q; cases q; exact absurd rfl (n1 xs)
    · rw [e] at q; cases q; exact absurd rfl (n2 C dx fs)
mutual
theorem Rep.shrink (o : Out0 T F W H) : ∀ {v : V} {d : D}, Rep T K F H v d → Rep T K F (restr W H) v d
  | _, _, .non => .non
  | _, _, .bl b => .bl b
  | _, _, .int i => .int i
  | _, _, .str x => .str x
  | _, _, .tup h r => .tup (sqT_off o.kd h) (Reps.shrink o r)
  | _, _, .lst h r => by
    refine .lst ?_ (Reps.shrink o r)
    rcases h with ⟨f, h | ⟨u, h⟩⟩ | h
    · exact .inl ⟨f, .inl (by rw [restr_on (o.fr _ f)]; exact h)⟩
    · exact .inl ⟨f, .inr ⟨u, by rw [restr_on (o.fr _ f)]; exact h⟩⟩
    · exact .inr h
  | _, _, .dct h => .dct (o.at h (fun _ z => nomatch z) (fun _ _ _ z => nomatch z))
  | _, _, .fn h => .fn h
  | _, _, .exn h nl e => by
    refine .exn (o.at h nl.1 fun C dx fs z => ?_) nl e
    rw [o.tab.ex] at e
    obtain ⟨oe, vs, e1, _⟩ := e
    rw [e1] at z
    cases z
  | _, _, .obj (a := a) (dx := dx) (n := n) g h t r => by
    refine .obj g (dx := dx) ?_ t (Reps.shrink o r)
    cases z : W a with
    | none => rw [restr_on z]; exact h
    | some tg =>
      rcases o.kind a (by rw [z]; simp) with ⟨xs, q⟩ | ⟨C, dx, fs, q, m⟩
      · rw [h] at q; cases q
      · rw [h] at q
        cases q
        rw [m n _ t, o.mt] at g
        rcases g with g | g <;> cases g
  | _, _, .cell h => .cell h
  | _, _, .dic f h r => .dic f (by rw [restr_on (o.fr _ f)]; exact h) (Reps.shrink o r)
theorem Reps.shrink (o : Out0 T F W H) : ∀ {vs : List V} {ds : List D}, Reps T K F H vs ds → Reps T K F (restr W H) vs ds
  | _, _, .nil => .nil
  | _, _, .cons r t => .cons (Rep.shrink o r) (Reps.shrink o t)
end
mutual
theorem Rep.up : ∀ {v : V} {d : D}, Rep T K F H v d → Rep T.up K F H v d
  | _, _, .non => .non
  | _, _, .bl b => .bl b
  | _, _, .int i => .int i
  | _, _, .str x => .str x
  | _, _, .tup h r => .tup h (Reps.up r)
  | _, _, .lst h r => .lst h (Reps.up r)
  | _, _, .dct h => .dct h
  | _, _, .fn h => .fn h
  | _, _, .exn h nl e => .exn h nl e
  | _, _, .obj g h t r => .obj (.inr rfl) h t (Reps.up r)
  | _, _, .cell h => .cell h
  | _, _, .dic f h r => .dic f h (Reps.up r)
theorem Reps.up : ∀ {vs : List V} {ds : List D}, Reps T K F H vs ds → Reps T.up K F H vs ds
  | _, _, .nil => .nil
  | _, _, .cons r t => .cons (Rep.up r) (Reps.up t)
end
mutual
theorem Rep.flat {F' : FS} (kd : ∀ a, W a ≠ none → (∃ xs, H a = some (.lst xs)) ∨ ∃ C dx fs, H a = some (.ins C dx fs)) : ∀ {v : V} {d : D}, Rep T.up K F H v d → flatD d = true → Rep T K F' (restr W H) v d
  | _, _, .non, _ => .non
  | _, _, .bl b, _ => .bl b
  | _, _, .int i, _ => .int i
  | _, _, .str x, _ => .str x
  | _, _, .tup h r, e => .tup (sqT_off kd h) (Reps.flat kd r (by simpa only [flatD] using e))
  | _, _, .lst h r, e => by simp only [flatD] at e; cases e
  | _, _, .dct h, e => by simp only [flatD] at e; cases e
  | _, _, .fn h, _ => .fn h
  | _, _, .exn h nl x, e => by simp only [flatD] at e; cases e
  | _, _, .obj _ h t r, e => by simp only [flatD] at e; cases e
  | _, _, .cell h, _ => .cell h
  | _, _, .dic _ h r, e => by simp only [flatD] at e; cases e
theorem Reps.flat {F' : FS} (kd : ∀ a, W a ≠ none → (∃ xs, H a = some (.lst xs)) ∨ ∃ C dx fs, H a = some (.ins C dx fs)) : ∀ {vs : List V} {ds : List D}, Reps T.up K F H vs ds → flatDs ds = true → Reps T K F' (restr W H) vs ds
  | _, _, .nil, _ => .nil
  | _, _, .cons r t, e => by
    simp only [flatDs, Bool.and_eq_true] at e
    exact .cons (Rep.flat kd r e.1) (Reps.flat kd t e.2)
end
def Hd (K : Frag) (H : Hp) (b : Addr) : Prop := (∃ C dx fs, H b = some (.ins C dx fs)) ∨ ∃ xs, SqT K H b xs ∧ xs.length = 3
theorem sqT_len {b : Addr} {xs ys : List V} (kd : KD K H) (h : SqT K H b xs) (k : SqT K H b ys) : xs.length = ys.length := by
  rcases h with (h | ⟨o, h⟩) | ⟨o, its, n, h, h2⟩ <;> rcases k with (k | ⟨o', k⟩) | ⟨o', its', n', k, k2⟩
  · rw [h] at k; cases k; rfl
  · rw [h] at k; cases k
  · rw [kd b _ k] at h; cases h
  · rw [h] at k; cases k
  · rw [h] at k; cases k; rfl
  · rw [kd b _ k] at h; cases h
  · rw [kd b _ h] at k; cases k
  · rw [kd b _ h] at k; cases k
  · rw [h] at k
    cases k
    obtain ⟨_, z, _, v⟩ := h2
    obtain ⟨_, z', _, v'⟩ := k2
    rw [z] at z'
    have z2 : its = its' := by cases z'; rfl
    rw [v.length, v'.length, z2]
structure Out1 (T : Tab) (K : Frag) (F : FS) (W : Own) (H : Hp) : Prop where
  tab : IsTab T
  kind : ∀ a, W a ≠ none → (∃ xs, H a = some (.lst xs)) ∨ ∃ C dx fs, H a = some (.ins C dx fs) ∧ ∀ n names, T.oc n = some (C, names) → mutN n = true
  kd : KD K H
  al : ∀ a, F a → W a ≠ none → ∃ us b, H a = some (.lst (.ref b :: us)) ∧ Hd K H b
theorem Out1.kk (o : Out1 T K F W H) : ∀ a, W a ≠ none → (∃ xs, H a = some (.lst xs)) ∨ ∃ C dx fs, H a = some (.ins C dx fs) := fun a h => (o.kind a h).imp id fun ⟨C, dx, fs, e, _⟩ => ⟨C, dx, fs, e⟩
theorem Out1.no (o : Out1 T K F W H) {a : Addr} {vs : List V} {ds : List D} (f : F a) (h : Rd H a (.lst vs)) (r : Reps T.up K F H vs ds) (e : headT ds = true) : W a = none := by
  cases z : W a with
  | none => rfl
  | some t =>
    obtain ⟨us, b, h1, hd⟩ := o.al a f (by rw [z]; simp)
    have e1 : vs = .ref b :: us := by
      rcases h with h | ⟨u, h⟩
      · rw [h1] at h; cases h; rfl
      · rw [h1] at h; cases h
    subst e1
    cases r with
    | cons r1 r2 =>
      cases r1 with
      | tup q rr =>
        rcases hd with ⟨C, dx, fs, h2⟩ | ⟨xs, h2, h3⟩
        · rcases q with (q | ⟨_, q⟩) | ⟨_, _, _, q, _⟩
          · rw [h2] at q; cases q
          · rw [h2] at q; cases q
          · rw [o.kd b _ q] at h2; cases h2
        · have z3 := sqT_len o.kd h2 q
          have z4 := rr.length
          simp only [headT, Bool.not_eq_true', decide_eq_false_iff_not] at e
          omega
      | lst q _ => cases e
      | dct _ => cases e
      | fn _ => cases e
      | exn _ _ _ => cases e
      | obj _ _ _ _ => cases e
      | cell _ => cases e
      | dic _ _ _ => cases e
mutual
theorem Rep.okk (o : Out1 T K F W H) : ∀ {v : V} {d : D}, Rep T.up K F H v d → okD d = true → Rep T K (fun a => F a ∧ W a = none) (restr W H) v d
  | _, _, .non, _ => .non
  | _, _, .bl b, _ => .bl b
  | _, _, .int i, _ => .int i
  | _, _, .str x, _ => .str x
  | _, _, .tup h r, e => .tup (sqT_off o.kk h) (Reps.okk o r (by simpa only [okD] using e))
  | _, _, .lst h r, e => by
    simp only [okD, Bool.and_eq_true] at e
    refine .lst ?_ (Reps.okk o r e.2)
    rcases h with ⟨f, h⟩ | h
    · have hw := o.no f h r e.1
      rcases h with h | ⟨u, h⟩
      · exact .inl ⟨⟨f, hw⟩, .inl (by rw [restr_on hw]; exact h)⟩
      · exact .inl ⟨⟨f, hw⟩, .inr ⟨u, by rw [restr_on hw]; exact h⟩⟩
    · exact .inr h
  | _, _, .dct (a := a) h, _ => .dct (by
    cases z : W a with
    | none => rw [restr_on z]; exact h
    | some t =>
      rcases o.kk a (by rw [z]; simp) with ⟨xs, q⟩ | ⟨C, dx, fs, q⟩
      · rw [h] at q; cases q
      · rw [h] at q; cases q)
  | _, _, .fn h, _ => .fn h
  | _, _, .exn (a := a) (o := u) h nl e, _ => by
    refine .exn (o := u) ?_ nl e
    cases z : W a with
    | none => rw [restr_on z]; exact h
    | some t =>
      have e : T.ex _ _ _ := e
      rw [o.tab.ex] at e
      obtain ⟨oe, vs, e1, _⟩ := e
      rcases o.kk a (by rw [z]; simp) with ⟨xs, q⟩ | ⟨C, dx, fs, q⟩
      · rw [h] at q; cases q; exact absurd rfl (nl.1 xs)
      · rw [h, e1] at q; cases q
  | _, _, .obj (a := a) (dx := dx) (n := n) g h t r, e => by
    simp only [okD, Bool.and_eq_true, Bool.not_eq_true'] at e
    refine .obj (.inl e.1) (dx := dx) ?_ t (Reps.okk o r e.2)
    cases z : W a with
    | none => rw [restr_on z]; exact h
    | some tg =>
      rcases o.kind a (by rw [z]; simp) with ⟨xs, q⟩ | ⟨C, dx, fs, q, m⟩
      · rw [h] at q; cases q
      · rw [h] at q
        cases q
        rw [m n _ t] at e
        cases e.1
  | _, _, .cell h, _ => .cell h
  | _, _, .dic (a := a) f h r, e => by
    have hw : W a = none := by
      cases z : W a with
      | none => rfl
      | some t =>
        rcases o.kk a (by rw [z]; simp) with ⟨xs, q⟩ | ⟨C, dx, fs, q⟩
        · rw [h] at q; cases q
        · rw [h] at q; cases q
    exact .dic ⟨f, hw⟩ (by rw [restr_on hw]; exact h) (Reps.okk o r (by simpa only [okD] using e))
theorem Reps.okk (o : Out1 T K F W H) : ∀ {vs : List V} {ds : List D}, Reps T.up K F H vs ds → okDs ds = true → Reps T K (fun a => F a ∧ W a = none) (restr W H) vs ds
  | _, _, .nil, _ => .nil
  | _, _, .cons r t, e => by
    simp only [okDs, Bool.and_eq_true] at e
    exact .cons (Rep.okk o r e.1) (Reps.okk o t e.2)
end
end
def fdV : Fd → D
  | .sh d => d
  | .own ds => .lst ds
def see0 (M : Mem) : Nat → D → D
  | 0, d => d
  | j + 1, .cell n => (match M[n]? with
    | some (.ins m k fs) => if decide (fs.length = k) = true then .obj m (fs.map fdV) else .cell n
    | some (.lst ds) => .lst (ds.map (see0 M j))
    | _ => .cell n)
  | j + 1, .tup ds => .tup (ds.map (see0 M j))
  | _ + 1, d => d
section
variable {T : Tab} {K : Frag} {F F1 : FS} {W : Own} {M : Mem} {G H : Hp}
theorem reps_of {vs : List V} : ∀ {us : List V} {ds : List D}, us.length = ds.length → (∀ (i : Nat) (d : D), ds[i]? = some d → ∃ v, us[i]? = some v ∧ Rep T K F G v d) → Reps T K F G us ds
  | [], [], _, _ => .nil
  | [], _ :: _, h, _ => by simp at h
  | _ :: _, [], h, _ => by simp at h
  | u :: us, d :: ds, h, k => by
    obtain ⟨v, e, r⟩ := k 0 d rfl
    cases e
    exact .cons r (reps_of (vs := vs) (by simpa using h) fun i d e => by simpa using k (i + 1) d (by simpa using e))
theorem obj_seen {n m k : Nat} {fs : List Fd} {a : Addr} (s : Spl T K F W M G H) (q : M[n]? = some (.ins m k fs)) (hk : fs.length = k) (ha : T.cl[n]? = some a) (hF : ∀ a, F a → F1 a)
    (hS : ∀ (p : Addr) (us : List V) (ds : List D) (i : Nat), fs[i]? = some (.own ds) → W p = some (.fld n i) → H p = some (.lst us) → Reps T K F G us ds → F1 p) : Rep T.up K F1 H (.ref a) (.obj m (fs.map fdV)) := by
  obtain ⟨a', h1, _, C, dx, fvs, names, h2, h3, h4, h5, h6, h7⟩ := s.ok n _ q
  rw [ha] at h1
  cases h1
  refine .obj (.inr rfl) h2 (show T.oc m = _ by rw [h6, hk, ← h4, List.take_length]; exact h3) (reps_of (vs := []) (by rw [h7.len]; simp) fun i d e => ?_)
  rw [List.getElem?_map] at e
  cases z : fs[i]? with
  | none => rw [z] at e; cases e
  | some f =>
    rw [z] at e
    cases e
    cases f with
    | sh d => obtain ⟨v, e1, e2⟩ := h7.sh i d z; exact ⟨v, e1, (e2.keep s.ext.keep hF).up⟩
    | own ds =>
      obtain ⟨p, us, e1, e2, e3, e4⟩ := h7.own i ds z
      exact ⟨_, e1, .lst (.inl ⟨hS p us ds i z e2 e3 e4, .inl e3⟩) (e4.keep s.ext.keep hF).up⟩
theorem see0_rep (s : Spl T K F W M G H) : ∀ (j : Nat) {v : V} {d : D}, Rep T K F G v d → Rep T.up K (fun a => F a ∨ W a ≠ none) H v (see0 M j d)
  | 0, _, _, r => by unfold see0; exact (r.keep s.ext.keep fun _ h => .inl h).up
  | j + 1, v, d, r => by
    have all : ∀ {vs : List V} {ds : List D}, Reps T K F G vs ds → Reps T.up K (fun a => F a ∨ W a ≠ none) H vs (ds.map (see0 M j)) := fun {vs ds} h => by
      induction ds generalizing vs with
      | nil => cases h; exact .nil
      | cons d ds ih => cases h with | cons r t => exact .cons (see0_rep s j r) (ih t)
    cases d with
    | cell n =>
      unfold see0
      split
      · rename_i m k fs q
        split
        · rename_i h
          cases r with
          | cell ha => exact obj_seen s q (of_decide_eq_true h) ha (fun _ h => .inl h) fun p us ds i z e1 e2 e3 => .inr (by rw [e1]; simp)
        · exact (r.keep s.ext.keep fun _ h => .inl h).up
      · rename_i ds q
        obtain ⟨a', h1, h2, vs, h3, h4⟩ := s.ok n _ q
        cases r with
        | cell ha =>
          rw [ha] at h1
          cases h1
          exact .lst (.inl ⟨.inr (by rw [h2]; simp), .inl h3⟩) (all h4)
      · exact (r.keep s.ext.keep fun _ h => .inl h).up
    | tup ds =>
      unfold see0
      cases r with
      | tup h t => exact .tup (SqT.keep (F := F) s.ext.keep h) (all t)
    | _ => unfold see0; exact (r.keep s.ext.keep fun _ h => .inl h).up
end
end BD
namespace BD
open PySem PySem.Spec L2 PySem.W PyProof.Rows
abbrev MEv := Rho → Mem → Option (Out × Mem)
abbrev MEvL := Rho → Mem → Option (OutL × Mem)
abbrev MSv := Rho → Mem → Option (Fl × Mem)
section
variable {T : Tab} {K : Frag} {F F' F1 F2 : FS} {W : Own} {M : Mem} {G G' G1 G2 H H' : Hp} {φ φ' φ1 φ2 : List Addr}
mutual
theorem Rep.pre (h : φ <+: φ') : ∀ {v : V} {d : D}, Rep (T.wc φ) K F G v d → Rep (T.wc φ') K F G v d
  | _, _, .non => .non
  | _, _, .bl b => .bl b
  | _, _, .int i => .int i
  | _, _, .str x => .str x
  | _, _, .tup q r => .tup q (Reps.pre h r)
  | _, _, .lst q r => .lst q (Reps.pre h r)
  | _, _, .dct q => .dct q
  | _, _, .fn q => .fn q
  | _, _, .exn q nl e => .exn q nl e
  | _, _, .obj g q t r => .obj g q t (Reps.pre h r)
  | _, _, .cell (n := n) q => .cell (by
    obtain ⟨l, rfl⟩ := h
    have q : φ[n]? = some _ := q
    show (φ ++ l)[n]? = some _
    rw [List.getElem?_append_left (List.getElem?_eq_some_iff.mp q).1]
    exact q)
  | _, _, .dic f q r => .dic f q (Reps.pre h r)
theorem Reps.pre (h : φ <+: φ') : ∀ {vs : List V} {ds : List D}, Reps (T.wc φ) K F G vs ds → Reps (T.wc φ') K F G vs ds
  | _, _, .nil => .nil
  | _, _, .cons r t => .cons (Rep.pre h r) (Reps.pre h t)
end
theorem Rel.pre {c : Ent} {ρ : Rho} {σ : L2.St} (h : φ <+: φ') (r : Rel (T.wc φ) K c ρ σ G F) : Rel (T.wc φ') K c ρ σ G F where
  len := r.len
  sh := fun i d e => let ⟨v, h1, h2⟩ := r.sh i d e; ⟨v, h1, h2.pre h⟩
  own := fun i ds e => let ⟨p, vs, h1, h2, h3, h4, h5, h6⟩ := r.own i ds e; ⟨p, vs, h1, h2, h3.pre h, h4, h5, h6⟩
  mp := fun i ks ds e => let ⟨p, kvs, h1, h2, hk, h3, h4, h5, h6⟩ := r.mp i ks ds e; ⟨p, kvs, h1, h2, hk, h3.pre h, h4, h5, h6⟩
  ext := r.ext
  f0 := r.f0
  f1 := r.f1
  wf := r.wf
structure Evo (φ φ' : List Addr) (G G' : Hp) (F F' : FS) : Prop where
  gr : Grow G G' F F'
  cl : φ <+: φ'
theorem Evo.refl (wf : ∀ a, F a → G a ≠ none) : Evo φ φ G G F F := ⟨.refl wf, List.prefix_refl _⟩
theorem Evo.trans (a : Evo φ φ1 G G1 F F1) (b : Evo φ1 φ2 G1 G2 F1 F2) : Evo φ φ2 G G2 F F2 := ⟨a.gr.trans b.gr, a.cl.trans b.cl⟩
theorem Rep.evo {v : V} {d : D} (e : Evo φ φ' G G' F F') (r : Rep (T.wc φ) K F G v d) : Rep (T.wc φ') K F' G' v d := (r.pre e.cl).grow e.gr
theorem Reps.evo {v : List V} {d : List D} (e : Evo φ φ' G G' F F') (r : Reps (T.wc φ) K F G v d) : Reps (T.wc φ') K F' G' v d := (r.pre e.cl).grow e.gr
theorem Rel.evo {c : Ent} {ρ : Rho} {σ : L2.St} (e : Evo φ φ' G G' F F') (r : Rel (T.wc φ) K c ρ σ G F) : Rel (T.wc φ') K c ρ σ G' F' := (r.pre e.cl).grow e.gr
end
def ThenM (T : Tab) (K : Frag) (E : XK) (φ : List Addr) (M' : Mem) (G : Hp) (F : FS) (Q : VK) : Out → Prop
  | .val d => ∀ v H' φ' F' W' G', Evo φ φ' G G' F F' → Spl (T.wc φ') K F' W' M' G' H' → Rep (T.wc φ') K F' G' v d → Q v H'
  | .exc n => ∀ H' φ' F' W' G', Evo φ φ' G G' F F' → Spl (T.wc φ') K F' W' M' G' H' → E (T.clsV n) none H'
def ThenMB (T : Tab) (K : Frag) (E : XK) (φ : List Addr) (M' : Mem) (G : Hp) (F : FS) (Q : Bool → Hp → Prop) : Out → Prop
  | .val (.bl b) => ∀ H' φ' F' W' G', Evo φ φ' G G' F F' → Spl (T.wc φ') K F' W' M' G' H' → Q b H'
  | .val _ => False
  | .exc n => ∀ H' φ' F' W' G', Evo φ φ' G G' F F' → Spl (T.wc φ') K F' W' M' G' H' → E (T.clsV n) none H'
def ThenML (T : Tab) (K : Frag) (E : XK) (φ : List Addr) (M' : Mem) (G : Hp) (F : FS) (Q : List V → Hp → Prop) : OutL → Prop
  | .vals ds => ∀ vs H' φ' F' W' G', Evo φ φ' G G' F F' → Spl (T.wc φ') K F' W' M' G' H' → Reps (T.wc φ') K F' G' vs ds → Q vs H'
  | .exc n => ∀ H' φ' F' W' G', Evo φ φ' G G' F F' → Spl (T.wc φ') K F' W' M' G' H' → E (T.clsV n) none H'
section
variable {T : Tab} {K : Frag} {E : XK} {F F' : FS} {M M' : Mem} {G G' H H' : Hp} {φ φ' : List Addr}
theorem ThenM.evo {Q : VK} {o : Out} (e : Evo φ φ' G G' F F') (h : ThenM T K E φ M' G F Q o) : ThenM T K E φ' M' G' F' Q o := by
  cases o with
  | val d => exact fun v H' φ' F' W' G' e' s r => h v H' φ' F' W' G' (e.trans e') s r
  | exc n => exact fun H' φ' F' W' G' e' s => h H' φ' F' W' G' (e.trans e') s
theorem ThenMB.evo {Q : Bool → Hp → Prop} {o : Out} (e : Evo φ φ' G G' F F') (h : ThenMB T K E φ M' G F Q o) : ThenMB T K E φ' M' G' F' Q o := by
  cases o with
  | val d =>
    cases d with
    | bl b => exact fun H' φ' F' W' G' e' s => h H' φ' F' W' G' (e.trans e') s
    | _ => exact h
  | exc n => exact fun H' φ' F' W' G' e' s => h H' φ' F' W' G' (e.trans e') s
theorem ThenML.evo {Q : List V → Hp → Prop} {o : OutL} (e : Evo φ φ' G G' F F') (h : ThenML T K E φ M' G F Q o) : ThenML T K E φ' M' G' F' Q o := by
  cases o with
  | vals d => exact fun v H' φ' F' W' G' e' s r => h v H' φ' F' W' G' (e.trans e') s r
  | exc n => exact fun H' φ' F' W' G' e' s => h H' φ' F' W' G' (e.trans e') s
end
def noOwn : Rho → Bool
  | [] => true
  | some (.own _) :: _ => false
  | some (.mp _ _) :: _ => false
  | _ :: ρ => noOwn ρ
theorem noOwn_get : ∀ {ρ : Rho} {i : Nat} {ds : List D}, noOwn ρ = true → ρ[i]? ≠ some (some (.own ds))
  | [], i, ds, _, e => by simp at e
  | some (.own _) :: ρ, i, ds, h, e => by simp [noOwn] at h
  | some (.mp _ _) :: ρ, i, ds, h, e => by simp [noOwn] at h
  | none :: ρ, 0, ds, h, e => by simp at e
  | some (.sh _) :: ρ, 0, ds, h, e => by simp at e
  | none :: ρ, i + 1, ds, h, e => noOwn_get (ρ := ρ) (i := i) (ds := ds) (by simpa [noOwn] using h) (by simpa using e)
  | some (.sh _) :: ρ, i + 1, ds, h, e => noOwn_get (ρ := ρ) (i := i) (ds := ds) (by simpa [noOwn] using h) (by simpa using e)
theorem noMp_get : ∀ {ρ : Rho} {i : Nat} {ks : List (List Key)} {ds : List D}, noOwn ρ = true → ρ[i]? ≠ some (some (.mp ks ds))
  | [], i, _, ds, _, e => by simp at e
  | some (.own _) :: ρ, i, _, ds, h, e => by simp [noOwn] at h
  | some (.mp _ _) :: ρ, i, _, ds, h, e => by simp [noOwn] at h
  | none :: ρ, 0, _, ds, h, e => by simp at e
  | some (.sh _) :: ρ, 0, _, ds, h, e => by simp at e
  | none :: ρ, i + 1, ks, ds, h, e => noMp_get (ρ := ρ) (i := i) (ks := ks) (ds := ds) (by simpa [noOwn] using h) (by simpa using e)
  | some (.sh _) :: ρ, i + 1, ks, ds, h, e => noMp_get (ρ := ρ) (i := i) (ks := ks) (ds := ds) (by simpa [noOwn] using h) (by simpa using e)
structure RM (T : Tab) (K : Frag) (φ : List Addr) (c : Ent) (ρ : Rho) (M : Mem) (σ : L2.St) (H : Hp) (F : FS) (W : Own) (G : Hp) : Prop where
  rel : Rel (T.wc φ) K c ρ σ G F
  no : noOwn ρ = true
  spl : Spl (T.wc φ) K F W M G H
def tM (T : Tab) (K : Frag) (E : XK) (f : MEv) : TE := fun σ H Q => ∃ φ c ρ M F W G out M', RM T K φ c ρ M σ H F W G ∧ f ρ M = some (out, M') ∧ ThenM T K E φ M' G F Q out
def tMT (T : Tab) (K : Frag) (E : XK) (f : MEv) : TT := fun σ H Q => ∃ φ c ρ M F W G out M', RM T K φ c ρ M σ H F W G ∧ f ρ M = some (out, M') ∧ ThenMB T K E φ M' G F Q out
def tMA (T : Tab) (K : Frag) (E : XK) (f : MEvL) : TA := fun σ H Q => ∃ φ c ρ M F W G out M', RM T K φ c ρ M σ H F W G ∧ f ρ M = some (out, M') ∧ ThenML T K E φ M' G F Q out
structure JM (X : Cx) (T : Tab) (E : XK) (e : Expr) (f : MEv) : Prop where h : PE X e (tM T X.K E f)
structure JMT (X : Cx) (T : Tab) (E : XK) (e : Expr) (f : MEv) : Prop where h : PT X e (tMT T X.K E f)
structure JMW (X : Cx) (T : Tab) (E : XK) (e : Expr) (f : MEv) : Prop where h : PW X e (tMT T X.K E f)
structure JMA (X : Cx) (T : Tab) (E : XK) (es : List Expr) (f : MEvL) : Prop where h : PA X es (tMA T X.K E f)
theorem RM.evo {T : Tab} {K : Frag} {φ φ' : List Addr} {c : Ent} {ρ : Rho} {M M' : Mem} {σ : L2.St} {H H' : Hp} {F F' : FS} {W W' : Own} {G G' : Hp} (r : RM T K φ c ρ M σ H F W G) (e : Evo φ φ' G G' F F') (s : Spl (T.wc φ') K F' W' M' G' H') : RM T K φ' c ρ M' σ H' F' W' G' := ⟨r.rel.evo e, r.no, s⟩
section
variable {T : Tab} {K : Frag} {E : XK} {F F' F1 F2 : FS} {W : Own} {M : Mem} {G H H' : Hp} {φ : List Addr} {c : Ent} {ρ : Rho} {σ : L2.St}
theorem isTab_wc (h : IsTab T) : IsTab (T.wc φ) := ⟨h.ex⟩
theorem RM.up (r : RM T K φ c ρ M σ H F W G) (m : ∀ a, F a → F1 a) (n : ∀ a, F1 a → F a ∨ W a ≠ none) : Rel (T.wc φ) K c ρ σ H F1 where
  len := r.rel.len
  sh := fun i d e => let ⟨v, h1, h2⟩ := r.rel.sh i d e; ⟨v, h1, h2.keep r.spl.ext.keep m⟩
  own := fun i ds e => by
    obtain ⟨p, vs, h1, h2, h3, h4, h5, h6⟩ := r.rel.own i ds e
    refine ⟨p, vs, h1, r.spl.ext _ _ h2, h3.keep r.spl.ext.keep m, fun z => ?_, h5, h6⟩
    rcases n p z with z | z
    · exact h4 z
    · exact z (r.spl.wz (by rw [h2]; simp))
  mp := fun i ks ds e => by
    obtain ⟨p, kvs, h1, h2, hk, h3, h4, h5, h6⟩ := r.rel.mp i ks ds e
    refine ⟨p, kvs, h1, r.spl.ext _ _ h2, hk, h3.keep r.spl.ext.keep m, fun z => ?_, h5, h6⟩
    rcases n p z with z | z
    · exact h4 z
    · exact z (r.spl.wz (by rw [h2]; simp))
  ext := r.rel.ext.trans r.spl.ext
  f0 := fun a h => m a (r.rel.f0 a h)
  f1 := fun a h => by
    rcases n a h with z | z
    · exact r.rel.f1 a z
    · exact .inr (r.rel.ext.none (r.spl.off a z))
  wf := fun a h => by
    rcases n a h with z | z
    · cases q : G a with
      | none => exact absurd q (r.rel.wf a z)
      | some o => rw [r.spl.ext a o q]; simp
    · exact r.spl.there z
theorem RM.out0 (hT : IsTab T) (r : RM T K φ c ρ M σ H F W G) (g : Grow H H' F F') : Out0 (T.wc φ) F' W H' := by
  have s := (r.spl.grow r.rel.wf g)
  exact ⟨isTab_wc hT, rfl, fun a h => s.1.wz (s.2.wf a h), s.1.kind⟩
theorem RM.exc (r : RM T K φ c ρ M σ H F W G) (e : Ext H H') : Evo φ φ G (restr W H') F F ∧ Spl (T.wc φ) K F W M (restr W H') H' := by
  have g : Grow H H' F F := Grow.ofExt (fun a h => by
    cases q : G a with
    | none => exact absurd q (r.rel.wf a h)
    | some o => rw [r.spl.ext a o q]; simp) e
  have s := r.spl.grow r.rel.wf g
  exact ⟨⟨s.2, List.prefix_refl _⟩, s.1⟩
theorem RM.seen (r : RM T K φ c ρ M σ H F W G) (m : ∀ a, F a → F1 a) (n : ∀ a, F1 a → F a ∨ W a ≠ none) (g : Grow H H' F1 F2) :
    Evo φ φ G (restr W H') F (fun a => F2 a ∧ W a = none) ∧ Spl (T.wc φ) K (fun a => F2 a ∧ W a = none) W M (restr W H') H' := by
  have e : ∀ p, W p ≠ none → H' p = H p := fun p q => by
    cases z : H p with
    | none => exact absurd z (r.spl.there q)
    | some o => exact g.ext p o z
  have ex : Ext G (restr W H') := fun a o q => by
    rw [restr_on (r.spl.wz (by rw [q]; simp))]
    exact g.ext a o (r.spl.ext a o q)
  have mo : ∀ a, F a → F2 a ∧ W a = none := fun a h => ⟨g.more a (m a h), r.spl.wz (r.rel.wf a h)⟩
  refine ⟨⟨⟨ex, mo, fun a q => ?_, fun a q => ?_⟩, List.prefix_refl _⟩, r.spl.keep ex.keep mo e (fun a q => restr_off q) (fun a q => restr_on q)⟩
  · rcases g.new a q.1 with z | z
    · rcases n a z with z | z
      · exact .inl z
      · exact absurd q.2 z
    · exact .inr (r.spl.ext.none z)
  · rw [restr_on q.2]
    exact g.wf a q.1
end
def seeSl (g : D → D) : Sl → Sl
  | .sh d => .sh (g d)
  | s => s
def seeR (g : D → D) (is : List Nat) : Nat → Rho → Rho
  | _, [] => []
  | k, o :: ρ => (if is.contains k = true then o.map (seeSl g) else o) :: seeR g is (k + 1) ρ
theorem seeR_get {g : D → D} {is : List Nat} : ∀ {ρ : Rho} {k i : Nat}, (seeR g is k ρ)[i]? = (ρ[i]?).map fun o => if is.contains (k + i) = true then o.map (seeSl g) else o
  | [], k, i => by simp [seeR]
  | o :: ρ, k, 0 => by simp [seeR]
  | o :: ρ, k, i + 1 => by
    simp only [seeR, List.getElem?_cons_succ]
    rw [seeR_get]
    have : k + 1 + i = k + (i + 1) := by omega
    rw [this]
theorem seeR_len {g : D → D} {is : List Nat} : ∀ {ρ : Rho} {k : Nat}, (seeR g is k ρ).length = ρ.length
  | [], k => rfl
  | o :: ρ, k => by simp [seeR, seeR_len]
theorem Rel.seeR {T : Tab} {K : Frag} {c : Ent} {ρ : Rho} {σ : L2.St} {H G : Hp} {F F1 : FS} {g : D → D} {is : List Nat} (r : Rel T.up K c ρ σ H F1) (r0 : Rel T K c ρ σ G F) (h : ∀ v d, Rep T K F G v d → Rep T.up K F1 H v (g d)) : Rel T.up K c (BD.seeR g is 0 ρ) σ H F1 where
  len := by rw [seeR_len]; exact r.len
  sh := fun i d e => by
    rw [seeR_get] at e
    cases q : ρ[i]? with
    | none => rw [q] at e; cases e
    | some o =>
      rw [q] at e
      simp only [Option.map_some, Option.some.injEq] at e
      split at e
      · cases o with
        | none => cases e
        | some s =>
          cases s with
          | own ds => cases e
          | mp ks ds => cases e
          | sh d' =>
            cases e
            obtain ⟨v, h1, h2⟩ := r0.sh i d' q
            exact ⟨v, h1, h v d' h2⟩
      · subst e
        exact r.sh i d q
  own := fun i ds e => by
    have back : ∀ (j : Nat) (es : List D), (BD.seeR g is 0 ρ)[j]? = some (some (.own es)) → ρ[j]? = some (some (.own es)) := fun j es e => by
      rw [seeR_get] at e
      cases q : ρ[j]? with
      | none => rw [q] at e; cases e
      | some o =>
        rw [q] at e
        simp only [Option.map_some, Option.some.injEq] at e
        split at e
        · cases o with
          | none => cases e
          | some s =>
            cases s with
            | own ds => cases e; rfl
            | mp ks ds => cases e
            | sh d' => cases e
        · rw [e]
    obtain ⟨p, vs, h1, h2, h3, h4, h5, h6⟩ := r.own i ds (back i ds e)
    exact ⟨p, vs, h1, h2, h3, h4, h5, fun j es e1 e2 => h6 j es (back j es e1) e2⟩
  mp := fun i ks ds e => by
    have back : ∀ (j : Nat) (kk : List (List Key)) (es : List D), (BD.seeR g is 0 ρ)[j]? = some (some (.mp kk es)) → ρ[j]? = some (some (.mp kk es)) := fun j kk es e => by
      rw [seeR_get] at e
      cases q : ρ[j]? with
      | none => rw [q] at e; cases e
      | some o =>
        rw [q] at e
        simp only [Option.map_some, Option.some.injEq] at e
        split at e
        · cases o with
          | none => cases e
          | some s =>
            cases s with
            | own ds => cases e
            | mp ks ds => cases e; rfl
            | sh d' => cases e
        · rw [e]
    obtain ⟨p, kvs, h1, h2, hk, h3, h4, h5, h6⟩ := r.mp i ks ds (back i ks ds e)
    exact ⟨p, kvs, h1, h2, hk, h3, h4, h5, fun j kk es e1 e2 => h6 j kk es (back j kk es e1) e2⟩
  ext := r.ext
  f0 := r.f0
  f1 := r.f1
  wf := r.wf
theorem Rel.upT {T : Tab} {K : Frag} {c : Ent} {ρ : Rho} {σ : L2.St} {G : Hp} {F : FS} (r : Rel T K c ρ σ G F) : Rel T.up K c ρ σ G F where
  len := r.len
  sh := fun i d e => let ⟨v, h1, h2⟩ := r.sh i d e; ⟨v, h1, h2.up⟩
  own := fun i ds e => let ⟨p, vs, h1, h2, h3, h4, h5, h6⟩ := r.own i ds e; ⟨p, vs, h1, h2, h3.up, h4, h5, h6⟩
  mp := fun i ks ds e => let ⟨p, kvs, h1, h2, hk, h3, h4, h5, h6⟩ := r.mp i ks ds e; ⟨p, kvs, h1, h2, hk, h3.up, h4, h5, h6⟩
  ext := r.ext
  f0 := r.f0
  f1 := r.f1
  wf := r.wf
def chk (k : D → Bool) (M : Mem) : Option Out → Option (Out × Mem)
  | some (.val d) => if k d = true then some (.val d, M) else none
  | some (.exc n) => some (.exc n, M)
  | none => none
def mL (f : Ev) : MEv := fun ρ M => (f ρ).map fun o => (o, M)
def mS0 (is : List Nat) (f : Ev) : MEv := fun ρ M => chk flatD M (f (seeR (see0 M 4) is 0 ρ))
theorem chk_some {k : D → Bool} {M M' : Mem} {o : Option Out} {out : Out} (h : chk k M o = some (out, M')) : M' = M ∧ o = some out ∧ ∀ d, out = .val d → k d = true := by
  unfold chk at h
  split at h
  · split at h
    · rename_i q; cases h; exact ⟨rfl, rfl, fun d e => by cases e; exact q⟩
    · cases h
  · cases h; exact ⟨rfl, rfl, fun d e => nomatch e⟩
  · cases h
section
variable {X : Cx} {T : Tab} {E : XK} {e : Expr} {f : Ev} {is : List Nat}
theorem jm_lift (hT : IsTab T) (h : ∀ φ, JE X (T.wc φ) E e f) : JM X T E e (mL f) := ⟨fun pins s σ H Q I ⟨φ, c, ρ, M, F, W, G, out, M', r, ev, th⟩ => by
  unfold mL at ev
  cases e1 : f ρ with
  | none => rw [e1] at ev; cases ev
  | some o =>
    rw [e1] at ev
    cases ev
    have r1 := r.up (F1 := F) (fun _ h => h) (fun _ h => .inl h)
    refine (h φ).h pins s σ H Q I ⟨c, ρ, F, _, r1, e1, ?_⟩
    cases out with
    | val d =>
      intro v H' F' g rp
      have z := r.spl.grow r.rel.wf g
      exact th v H' φ F' W _ ⟨z.2, List.prefix_refl _⟩ z.1 (rp.shrink (r.out0 hT g))
    | exc n =>
      intro H' ex
      obtain ⟨ev, sp⟩ := r.exc ex
      exact th H' φ F W _ ev sp⟩
theorem kk_of {φ : List Addr} {c : Ent} {ρ : Rho} {M : Mem} {σ : L2.St} {H H' : Hp} {F : FS} {W : Own} {G : Hp} {K : Frag} (r : RM T K φ c ρ M σ H F W G) (e : Ext H H') : ∀ a, W a ≠ none → (∃ xs, H' a = some (.lst xs)) ∨ ∃ C dx fs, H' a = some (.ins C dx fs) := fun a h =>
  (r.spl.kind a h).imp (fun ⟨xs, q⟩ => ⟨xs, e _ _ q⟩) fun ⟨C, dx, fs, q, _⟩ => ⟨C, dx, fs, e _ _ q⟩
theorem jm_see0 (hT : IsTab T) (h : ∀ φ, JE X (T.ws φ) E e f) : JM X T E e (mS0 is f) := ⟨fun pins s σ H Q I ⟨φ, c, ρ, M, F, W, G, out, M', r, ev, th⟩ => by
  obtain ⟨rfl, e1, ok⟩ := chk_some ev
  have r1 := r.up (F1 := fun a => F a ∨ W a ≠ none) (fun _ h => .inl h) (fun _ h => h)
  have r2 := r1.upT.seeR (is := is) r.rel fun v d h => see0_rep (M := M') r.spl 4 h
  refine (h φ).h pins s σ H Q I ⟨c, _, _, out, r2, e1, ?_⟩
  cases out with
  | val d =>
    intro v H' F2 g rp
    have z := r.seen (fun _ h => .inl h) (fun _ h => h) g
    exact th v H' φ _ W _ z.1 z.2 (Rep.flat (T := T.wc φ) (kk_of r g.ext) rp (ok d rfl))
  | exc n =>
    intro H' ex
    obtain ⟨ev, sp⟩ := r.exc ex
    exact th H' φ F W _ ev sp⟩
def mQ0 (is : List Nat) (q : Ev) : MEv := fun ρ M => (q (seeR (see0 M 4) is 0 ρ)).map fun o => (o, M)
theorem jmt_see0 (h : ∀ φ, JT X (T.ws φ) E e f) : JMT X T E e (mQ0 is f) := ⟨fun pins s σ H Q I ⟨φ, c, ρ, M, F, W, G, out, M', r, ev, th⟩ => by
  unfold mQ0 at ev
  cases e1 : f (seeR (see0 M 4) is 0 ρ) with
  | none => rw [e1] at ev; cases ev
  | some o =>
    rw [e1] at ev
    cases ev
    have r1 := r.up (F1 := fun a => F a ∨ W a ≠ none) (fun _ h => .inl h) (fun _ h => h)
    have r2 := r1.upT.seeR (is := is) r.rel fun v d h => see0_rep (M := M) r.spl 4 h
    refine (h φ).h pins s σ H Q I ⟨c, _, _, _, r2, e1, ?_⟩
    cases out with
    | val d =>
      cases d with
      | bl b =>
        intro H' F2 g
        have z := r.seen (fun _ h => .inl h) (fun _ h => h) g
        exact th H' φ _ W _ z.1 z.2
      | _ => exact th
    | exc n =>
      intro H' ex
      obtain ⟨ev, sp⟩ := r.exc ex
      exact th H' φ F W _ ev sp⟩
end
end BD
namespace BD
open PySem PySem.Spec L2 PySem.W PyProof.Rows
def Tag.num : Tag → Nat
  | .cell n => n
  | .fld n _ => n
section
variable {T T' : Tab} {K : Frag} {F F' : FS} {W W' : Own} {M : Mem} {G G' H H' : Hp} {φ : List Addr} {n : Nat} {a p : Addr}
theorem FOk.mv {vs : List V} {fs : List Fd} (h : FOk T K F G H W n vs fs) (hR : ∀ v d, Rep T K F G v d → Rep T' K F' G' v d) (hRs : ∀ v d, Reps T K F G v d → Reps T' K F' G' v d) (hW : ∀ q t, W q = some t → t.num = n → W' q = some t ∧ H' q = H q) : FOk T' K F' G' H' W' n vs fs where
  len := h.len
  sh := fun i d q => let ⟨v, h1, h2⟩ := h.sh i d q; ⟨v, h1, hR v d h2⟩
  own := fun i ds q => by
    obtain ⟨p, us, h1, h2, h3, h4⟩ := h.own i ds q
    obtain ⟨w, e⟩ := hW p _ h2 rfl
    exact ⟨p, us, h1, w, by rw [e]; exact h3, hRs _ _ h4⟩
theorem COk.mv {c : Cell} (h : COk T K F G H W n a c) (hT : T'.oc = T.oc) (hR : ∀ v d, Rep T K F G v d → Rep T' K F' G' v d) (hRs : ∀ v d, Reps T K F G v d → Reps T' K F' G' v d) (hW : ∀ q t, W q = some t → t.num = n → W' q = some t ∧ H' q = H q) : COk T' K F' G' H' W' n a c := by
  cases c with
  | dead => trivial
  | lst ds =>
    obtain ⟨h1, vs, h2, h3⟩ := h
    obtain ⟨w, e⟩ := hW a _ h1 rfl
    exact ⟨w, vs, by rw [e]; exact h2, hRs _ _ h3⟩
  | ins m kk fs =>
    obtain ⟨h1, C, dx, fvs, names, h2, h3, h4, h5, h6, h7⟩ := h
    obtain ⟨w, e⟩ := hW a _ h1 rfl
    exact ⟨w, C, dx, fvs, names, by rw [e]; exact h2, by rw [hT]; exact h3, h4, h5, h6, h7.mv hR hRs hW⟩
abbrev KindOk (T : Tab) (o : HO) : Prop := (∃ xs, o = .lst xs) ∨ ∃ C dx fs, o = .ins C dx fs ∧ ∀ n names, T.oc n = some (C, names) → mutN n = true
def setW (W : Own) (p : Addr) (t : Tag) : Own := fun a => if a = p then some t else W a
theorem setW_self {t : Tag} : setW W p t p = some t := if_pos rfl
theorem setW_ne {t : Tag} (h : a ≠ p) : setW W p t a = W a := if_neg h
theorem fresh_w (s : Spl T K F W M G H) (hp : H p = none) : W p = none := by
  cases q : W p with
  | none => rfl
  | some t => exact absurd hp (s.there (by rw [q]; simp))
theorem Spl.push {c : Cell} {o : HO} (s : Spl (T.wc φ) K F W M G H) (hp : H p = none) (hk : KindOk T o) (hc : COk (T.wc (φ ++ [p])) K F G (upd H p o) (setW W p (.cell M.length)) M.length p c) : Spl (T.wc (φ ++ [p])) K F (setW W p (.cell M.length)) (M ++ [c]) G (upd H p o) := by
  have wp := fresh_w s hp
  have len : φ.length = M.length := s.len
  refine ⟨?_, fun n d e => ?_, fun a h => ?_, fun a h => ?_, fun a h => ?_, s.hd⟩
  · show (φ ++ [p]).length = _; simp [len]
  · by_cases hn : n < M.length
    · rw [List.getElem?_append_left hn] at e
      obtain ⟨a, h1, h2⟩ := s.ok n d e
      refine ⟨a, ?_, h2.mv rfl (fun v d r => r.pre ⟨_, rfl⟩) (fun v d r => r.pre ⟨_, rfl⟩) fun q t w _ => ?_⟩
      · show (φ ++ [p])[n]? = _
        rw [List.getElem?_append_left (by omega)]
        exact h1
      · have ne : q ≠ p := fun z => by subst z; rw [wp] at w; cases w
        exact ⟨by rw [setW_ne ne]; exact w, upd_ne ne⟩
    · rw [List.getElem?_append_right (by omega)] at e
      have hz : n = M.length := by
        have := (List.getElem?_eq_some_iff.mp e).1
        simp at this
        omega
      subst hz
      simp at e
      subst e
      refine ⟨p, ?_, hc⟩
      show (φ ++ [p])[M.length]? = _
      rw [← len]; simp
  · by_cases z : a = p
    · subst z; exact s.ext.none hp
    · rw [setW_ne z] at h; exact s.off a h
  · have z : a ≠ p := fun z => by subst z; rw [setW_self] at h; cases h
    rw [setW_ne z] at h
    rw [upd_ne z]
    exact s.on a h
  · by_cases z : a = p
    · subst z
      rw [upd_same]
      rcases hk with ⟨xs, rfl⟩ | ⟨C, dx, fs, rfl, m⟩
      · exact .inl ⟨xs, rfl⟩
      · exact .inr ⟨C, dx, fs, rfl, m⟩
    · rw [setW_ne z] at h
      rw [upd_ne z]
      exact s.kind a h
theorem Evo.push (wf : ∀ a, F a → G a ≠ none) : Evo φ (φ ++ [p]) G G F F := ⟨.refl wf, ⟨_, rfl⟩⟩
theorem Spl.chg {c' : Cell} (s : Spl T K F W M G H) (ha : T.cl[n]? = some a) (hW : ∀ q t, W q = some t → t.num ≠ n → W' q = some t ∧ H' q = H q) (hoff : ∀ q, W q ≠ none → W' q ≠ none) (hnew : ∀ q, W' q ≠ none → W q ≠ none ∨ G q = none) (hsame : ∀ q, W' q = none → H' q = H q)
    (hkind : ∀ q, W' q ≠ none → (∃ xs, H' q = some (.lst xs)) ∨ ∃ C dx fs, H' q = some (.ins C dx fs) ∧ ∀ n names, T.oc n = some (C, names) → mutN n = true) (hc : COk T K F G H' W' n a c') : Spl T K F W' (M.set n c') G H' where
  len := by rw [List.length_set]; exact s.len
  ok := fun m c e => by
    by_cases z : m = n
    · subst z
      have hl : m < M.length := by have := (List.getElem?_eq_some_iff.mp ha).1; rw [s.len] at this; exact this
      rw [List.getElem?_set_self hl] at e
      cases e
      exact ⟨a, ha, hc⟩
    · rw [List.getElem?_set_ne (Ne.symm z)] at e
      obtain ⟨b, h1, h2⟩ := s.ok m c e
      exact ⟨b, h1, h2.mv rfl (fun _ _ r => r) (fun _ _ r => r) fun q t w e => hW q t w (by rw [e]; exact z)⟩
  off := fun q h => by
    rcases hnew q h with z | z
    · exact s.off q z
    · exact z
  on := fun q h => by
    have w : W q = none := by
      cases z : W q with
      | none => rfl
      | some t => exact absurd h (hoff q (by rw [z]; simp))
    rw [hsame q h]
    exact s.on q w
  kind := hkind
  hd := s.hd
end
def mbnd (o : Option (Out × Mem)) (k : D → Mem → Option (Out × Mem)) : Option (Out × Mem) := match o with
  | some (.val d, M) => k d M
  | some (.exc n, M) => some (.exc n, M)
  | none => none
def mbndL (o : Option (Out × Mem)) (k : D → Mem → Option (OutL × Mem)) : Option (OutL × Mem) := match o with
  | some (.val d, M) => k d M
  | some (.exc n, M) => some (.exc n, M)
  | none => none
def lmbnd (o : Option (OutL × Mem)) (k : List D → Mem → Option (Out × Mem)) : Option (Out × Mem) := match o with
  | some (.vals d, M) => k d M
  | some (.exc n, M) => some (.exc n, M)
  | none => none
def lmbndL (o : Option (OutL × Mem)) (k : List D → Mem → Option (OutL × Mem)) : Option (OutL × Mem) := match o with
  | some (.vals d, M) => k d M
  | some (.exc n, M) => some (.exc n, M)
  | none => none
theorem mbnd_some {o : Option (Out × Mem)} {k : D → Mem → Option (Out × Mem)} {r : Out × Mem} (h : mbnd o k = some r) : (∃ d M, o = some (.val d, M) ∧ k d M = some r) ∨ ∃ n M, o = some (.exc n, M) ∧ r = (.exc n, M) := by
  unfold mbnd at h
  split at h
  · exact .inl ⟨_, _, rfl, h⟩
  · cases h; exact .inr ⟨_, _, rfl, rfl⟩
  · cases h
theorem lmbnd_some {o : Option (OutL × Mem)} {k : List D → Mem → Option (Out × Mem)} {r : Out × Mem} (h : lmbnd o k = some r) : (∃ d M, o = some (.vals d, M) ∧ k d M = some r) ∨ ∃ n M, o = some (.exc n, M) ∧ r = (.exc n, M) := by
  unfold lmbnd at h
  split at h
  · exact .inl ⟨_, _, rfl, h⟩
  · cases h; exact .inr ⟨_, _, rfl, rfl⟩
  · cases h
section
variable {T : Tab} {K : Frag} {E : XK} {φ : List Addr} {c : Ent} {ρ : Rho} {M M' : Mem} {σ : L2.St} {H : Hp} {F : FS} {W : Own} {G : Hp} {out : Out}
abbrev HX (T : Tab) (K : Frag) (E : XK) (φ : List Addr) (G : Hp) (F : FS) (out : Out) (M' : Mem) : Prop := ∀ n, out = .exc n → ∀ H' φ' F' W' G', Evo φ φ' G G' F F' → Spl (T.wc φ') K F' W' M' G' H' → E (T.clsV n) none H'
theorem ThenM.exc {Q : VK} (h : ThenM T K E φ M' G F Q out) : HX T K E φ G F out M' := fun n e => by subst e; exact h
theorem ThenMB.exc {Q : Bool → Hp → Prop} (h : ThenMB T K E φ M' G F Q out) : HX T K E φ G F out M' := fun n e => by subst e; exact h
theorem HX.evo {φ' : List Addr} {G' : Hp} {F' : FS} (h : HX T K E φ G F out M') (e : Evo φ φ' G G' F F') : HX T K E φ' G' F' out M' := fun n z H' φ2 F2 W2 G2 e2 s => h n z H' φ2 F2 W2 G2 (e.trans e2) s
theorem tM_bind {f : MEv} {k : D → Mem → Option (Out × Mem)} {Q : VK} (r : RM T K φ c ρ M σ H F W G) (e : mbnd (f ρ M) k = some (out, M')) (hx : HX T K E φ G F out M')
    (hv : ∀ d M1 v H1 φ1 F1 W1 G1, Evo φ φ1 G G1 F F1 → RM T K φ1 c ρ M1 σ H1 F1 W1 G1 → Rep (T.wc φ1) K F1 G1 v d → k d M1 = some (out, M') → Q v H1) : tM T K E f σ H Q := by
  rcases mbnd_some e with ⟨d, M1, e1, e2⟩ | ⟨n, M1, e1, e2⟩
  · exact ⟨φ, c, ρ, M, F, W, G, _, _, r, e1, fun v H1 φ1 F1 W1 G1 ev s rp => hv d M1 v H1 φ1 F1 W1 G1 ev (r.evo ev s) rp e2⟩
  · cases e2
    exact ⟨φ, c, ρ, M, F, W, G, _, _, r, e1, hx n rfl⟩
theorem tMA_bind {f : MEvL} {k : List D → Mem → Option (Out × Mem)} {Q : List V → Hp → Prop} (r : RM T K φ c ρ M σ H F W G) (e : lmbnd (f ρ M) k = some (out, M')) (hx : HX T K E φ G F out M')
    (hv : ∀ d M1 v H1 φ1 F1 W1 G1, Evo φ φ1 G G1 F F1 → RM T K φ1 c ρ M1 σ H1 F1 W1 G1 → Reps (T.wc φ1) K F1 G1 v d → k d M1 = some (out, M') → Q v H1) : tMA T K E f σ H Q := by
  rcases lmbnd_some e with ⟨d, M1, e1, e2⟩ | ⟨n, M1, e1, e2⟩
  · exact ⟨φ, c, ρ, M, F, W, G, _, _, r, e1, fun v H1 φ1 F1 W1 G1 ev s rp => hv d M1 v H1 φ1 F1 W1 G1 ev (r.evo ev s) rp e2⟩
  · cases e2
    exact ⟨φ, c, ρ, M, F, W, G, _, _, r, e1, hx n rfl⟩
theorem tMT_bind {f : MEv} {k : D → Mem → Option (Out × Mem)} {Q : Bool → Hp → Prop} (r : RM T K φ c ρ M σ H F W G) (e : mbnd (f ρ M) k = some (out, M')) (hx : HX T K E φ G F out M') (hk : ∀ d M1, k d M1 = some (out, M') → ∃ b, d = .bl b)
    (hv : ∀ b M1 H1 φ1 F1 W1 G1, Evo φ φ1 G G1 F F1 → RM T K φ1 c ρ M1 σ H1 F1 W1 G1 → k (.bl b) M1 = some (out, M') → Q b H1) : tMT T K E f σ H Q := by
  rcases mbnd_some e with ⟨d, M1, e1, e2⟩ | ⟨n, M1, e1, e2⟩
  · obtain ⟨b, rfl⟩ := hk d M1 e2
    exact ⟨φ, c, ρ, M, F, W, G, _, _, r, e1, fun H1 φ1 F1 W1 G1 ev s => hv b M1 H1 φ1 F1 W1 G1 ev (r.evo ev s) e2⟩
  · cases e2
    exact ⟨φ, c, ρ, M, F, W, G, _, _, r, e1, hx n rfl⟩
end
def mNil : MEvL := fun _ M => some (.vals [], M)
def mCons (f : MEv) (g : MEvL) : MEvL := fun ρ M => mbndL (f ρ M) fun d M1 => lmbndL (g ρ M1) fun ds M2 => some (.vals (d :: ds), M2)
def spM (T : Tab) (K : Frag) (g : List D → Mem → Option (Out × Mem)) : Sp := fun vs H Q E => ∃ φ F W G M ds out M', (∀ a, F a → G a ≠ none) ∧ Spl (T.wc φ) K F W M G H ∧ Reps (T.wc φ) K F G vs ds ∧ g ds M = some (out, M') ∧ ThenM T K E φ M' G F Q out
def mTup (g : MEvL) : MEv := fun ρ M => lmbnd (g ρ M) fun ds M1 => if smallL ds then some (.val (.tup ds), M1) else none
def mCall (g : List D → Mem → Option (Out × Mem)) (fs : MEvL) : MEv := fun ρ M => lmbnd (fs ρ M) g
def ClS (P : Program) (w : World) (K : Frag) (mg : Str → Option Value) (base : Heap) (CX : CXT) (T : Tab) (x : Str) (ps : List Str) (k : Nat) (g : List D → Mem → Option (Out × Mem)) : Prop :=
  ∃ f fd, FnOk P w K mg base CX k f fd ps (spM T K g) ∧ mg x = some (.ref f) ∧ keepIn K (.ref f) = true ∧ Binds K fd ps []
structure ClSM (P : Program) (w : World) (K : Frag) (mg : Str → Option Value) (base : Heap) (CX : CXT) (T : Tab) (C : Addr) (m : Str) (ps : List Str) (k : Nat) (g : List D → Mem → Option (Out × Mem)) : Prop where
  ex : ∃ f fd, FnOk P w K mg base CX k f fd ps (spM T K g) ∧ Meth K C m f ∧ Binds K fd ps []
section
variable {X : Cx} {T : Tab} {E : XK} {CX : CXT} {e o : Expr} {es : List Expr} {f fo : MEv} {g fs : MEvL} {x m : Str} {p pos apos : Pos} {k : Nat} {ps names : List Str}
theorem ja_nilM : JMA X T E [] mNil := ⟨PA.imp pa_nil fun σ H Q ⟨φ, c, ρ, M, F, W, G, out, M', r, ev, th⟩ => by
  cases ev
  exact th [] H φ F W G (.refl r.rel.wf) r.spl .nil⟩
theorem ja_consM (h1 : JM X T E e f) (h2 : JMA X T E es g) (hs : starEach (e :: es) X.env = (false, eval e X.env) :: starEach es X.env := by kernel_rfl) : JMA X T E (e :: es) (mCons f g) := ⟨PA.imp (pa_cons h1.h h2.h hs) fun σ H Q ⟨φ, c, ρ, M, F, W, G, out, M', r, ev, th⟩ => by
  unfold mCons mbndL at ev
  split at ev
  · rename_i d M1 q
    refine ⟨φ, c, ρ, M, F, W, G, _, _, r, q, fun v H1 φ1 F1 W1 G1 e1 s1 r1 => ?_⟩
    unfold lmbndL at ev
    dsimp only at ev
    split at ev
    · rename_i ds M2 q2
      cases ev
      exact ⟨φ1, c, ρ, M1, F1, W1, G1, _, _, r.evo e1 s1, q2, fun vs H2 φ2 F2 W2 G2 e2 s2 r2 => th _ H2 φ2 F2 W2 G2 (e1.trans e2) s2 (.cons (r1.evo e2) r2)⟩
    · rename_i n M2 q2
      cases ev
      exact ⟨φ1, c, ρ, M1, F1, W1, G1, _, _, r.evo e1 s1, q2, fun H2 φ2 F2 W2 G2 e2 s2 => th H2 φ2 F2 W2 G2 (e1.trans e2) s2⟩
    · cases ev
  · rename_i n M1 q
    cases ev
    exact ⟨φ, c, ρ, M, F, W, G, _, _, r, q, th⟩
  · cases ev⟩
theorem RM.upd {K : Frag} {φ : List Addr} {c : Ent} {ρ : Rho} {M : Mem} {σ : L2.St} {H : Hp} {F : FS} {W : Own} {G : Hp} {q : Addr} {u : HO} (r : RM T K φ c ρ M σ H F W G) (hp : H q = none) : Evo φ φ G (L2.upd G q u) F F ∧ Spl (T.wc φ) K F W M (L2.upd G q u) (L2.upd H q u) := by
  have wp := fresh_w r.spl hp
  have gn := r.spl.ext.none hp
  have gr : Grow G (L2.upd G q u) F F := Grow.upd r.rel.wf gn
  refine ⟨⟨gr, List.prefix_refl _⟩, r.spl.keep gr.ext.keep gr.more (fun a h => ?_) (fun a h => ?_) fun a h => ?_⟩
  · rw [upd_ne (fun z => by subst z; exact h wp)]
  · rw [upd_ne (fun z => by subst z; exact h wp)]; exact r.spl.off a h
  · by_cases z : a = q
    · subst z; rw [upd_same, upd_same]
    · rw [upd_ne z, upd_ne z]; exact r.spl.on a h
theorem jm_tup {x1} (h : JMA X T E es g) : JM X T E (.Tuple es x1 pos) (mTup g) := ⟨PE.imp (pe_tup h.h) fun σ H Q ⟨φ, c, ρ, M, F, W, G, out, M', r, ev, th⟩ => by
  refine tMA_bind r ev th.exc fun ds M1 vs H1 φ1 F1 W1 G1 e1 r1 rp ek => ?_
  split at ek
  · rename_i hs
    cases ek
    refine ⟨Nat.le_of_lt (smallL_ok rp hs), fun p hp => ?_⟩
    obtain ⟨e2, s2⟩ := r1.upd (u := .tup vs) hp
    exact th _ _ φ1 F1 W1 _ (e1.trans e2) s2 (.tup (SqT.of upd_same) (rp.evo e2))
  · cases ek⟩
theorem jm_call {gg : List D → Mem → Option (Out × Mem)} (C : ClS X.prog X.w X.K X.mg X.base CX T x ps k gg) (hr : Room k X.A) (hx : Passes CX X E) (hg : X.env.kindOf x = some .globalImplicit) (ha : JMA X T E (e :: es) fs) (hdb : (x == ("__debug__" : Str)) = false := by kernel_rfl)
    (he : starEach (e :: es) X.env = (false, eval e X.env) :: starEach es X.env := by kernel_rfl) (hpl : (backTo pos (starEach es X.env)).any (·.1) = false := by kernel_rfl) : JM X T E (.Call (.Name x p) (e :: es) [] pos) (mCall gg fs) := by
  obtain ⟨f, fd, F, hm, hk, hb⟩ := C
  refine ⟨PE.imp (pe_call F hr hg hm hk hb .nil hx ha.h hdb he hpl) fun σ H Q ⟨φ, c, ρ, M, F, W, G, out, M', r, ev, th⟩ => ?_⟩
  refine tMA_bind r ev th.exc fun ds M1 vs H1 φ1 F1 W1 G1 e1 r1 rp ek => ?_
  rw [List.append_nil]
  exact ⟨φ1, F1, W1, G1, M1, ds, out, M', r1.rel.wf, r1.spl, rp, ek, th.evo e1⟩
end
end BD
namespace BD
open PySem PySem.Spec L2 PySem.W PyProof.Rows
structure ClSI (P : Program) (w : World) (K : Frag) (mg : Str → Option Value) (base : Heap) (CX : CXT) (T : Tab) (C : Addr) (ps : List Str) (k : Nat) (g : List D → Mem → Option (Out × Mem)) : Prop where
  ex : ∃ f fd, FnOk P w K mg base CX k f fd ps (spM T K g) ∧ Mk K C f ∧ Binds K fd ps []
section
variable {X : Cx} {T : Tab} {E : XK} {CX : CXT} {a b c e o : Expr} {es rest : List Expr} {f fo fa fb q : MEv} {g fs : MEvL} {x m : Str} {p pos apos : Pos} {k : Nat} {ps names : List Str}
def mNew (f : EvL) : MEv := fun ρ M => match f ρ with
  | some (.vals ds) => some (.val (.cell M.length), M ++ [.lst ds])
  | some (.exc n) => some (.exc n, M)
  | none => none
theorem jm_new {f : EvL} (hT : IsTab T) (h : ∀ φ, JF X (T.wc φ) E e f) : JM X T E e (mNew f) := ⟨fun pins s σ H Q I ⟨φ, c, ρ, M, F, W, G, out, M', r, ev, th⟩ => by
  have r1 := r.up (F1 := F) (fun _ h => h) (fun _ h => .inl h)
  unfold mNew at ev
  split at ev
  · rename_i ds q
    cases ev
    refine (h φ).h pins s σ H Q I ⟨c, ρ, F, _, r1, q, fun p vs H1 H' F' g hp eH rp => ?_⟩
    subst eH
    have z := r.spl.grow r.rel.wf g
    have wp := fresh_w z.1 hp
    have o0 : Out0 (T.wc φ) F' (setW W p (.cell M.length)) (upd H1 p (.lst vs)) := ⟨isTab_wc hT, rfl, fun a ha => by
      have w := z.1.wz (z.2.wf a ha)
      rw [setW_ne (fun y => by subst y; exact g.wf a ha hp)]
      exact w, fun a ha => by
      by_cases y : a = p
      · subst y; rw [upd_same]; exact .inl ⟨_, rfl⟩
      · rw [setW_ne y] at ha; rw [upd_ne y]; exact z.1.kind a ha⟩
    have eG : restr (setW W p (.cell M.length)) (upd H1 p (.lst vs)) = restr W H1 := by
      funext a
      by_cases y : a = p
      · subst y
        rw [restr_off (by rw [setW_self]; simp), restr_on wp, hp]
      · unfold restr
        rw [setW_ne y, upd_ne y]
    have rp2 := rp.shrink o0
    rw [eG] at rp2
    have s3 := z.1.push (o := .lst vs) (c := .lst ds) hp (.inl ⟨_, rfl⟩) ⟨setW_self, vs, upd_same, rp2.pre ⟨_, rfl⟩⟩
    have e3 : Evo φ (φ ++ [p]) G (restr W H1) F F' := ⟨z.2, ⟨_, rfl⟩⟩
    exact th _ _ _ F' _ _ e3 s3 (.cell (by
      show (φ ++ [p])[M.length]? = _
      have : φ.length = M.length := r.spl.len
      rw [← this]; simp))
  · rename_i n q
    cases ev
    refine (h φ).h pins s σ H Q I ⟨c, ρ, F, _, r1, q, fun H' ex => ?_⟩
    obtain ⟨ev, sp⟩ := r.exc ex
    exact th H' φ F W _ ev sp
  · cases ev⟩
def mV (f : MEv) : MEv := fun ρ M => mbnd (f ρ M) fun d M1 => (truthD (see0 M1 4 d)).map fun b => (.val (.bl b), M1)
theorem jmt_val (h : JM X T E a f) (he : ∀ whole, isTrue a X.env whole = (do let v ← whole; standAt a.pos; holding [v] (truthy v)) := by intro _; kernel_rfl) : JMT X T E a (mV f) := ⟨PT.imp (pt_truth h.h he) fun σ H Q ⟨φ, c, ρ, M, F, W, G, out, M', r, ev, th⟩ => by
  refine tM_bind r ev th.exc fun d M1 v H1 φ1 F1 W1 G1 e1 r1 rp ek => ?_
  cases q : truthD (see0 M1 4 d) with
  | none => rw [q] at ek; cases ek
  | some k =>
    rw [q] at ek
    cases ek
    exact ⟨k, truth_ok (see0_rep r1.spl 4 rp) q, th H1 φ1 F1 W1 G1 e1 r1.spl⟩⟩
def mOr (f g : MEv) : MEv := fun ρ M => mbnd (f ρ M) fun x M1 => match x with
  | .bl true => some (.val (.bl true), M1)
  | .bl false => g ρ M1
  | _ => none
def mNot (f : MEv) : MEv := fun ρ M => mbnd (f ρ M) fun x M1 => match x with
  | .bl k => some (.val (.bl (!k)), M1)
  | _ => none
theorem jmw_or1 (h : JMT X T E a f) : JMW X T E (.BoolOp .Or [a] pos) f := ⟨pw_or1 h.h⟩
theorem jmw_or {g : MEv} (ha : JMT X T E a f) (hb : JMW X T E (.BoolOp .Or (b :: rest) pos) g) : JMW X T E (.BoolOp .Or (a :: b :: rest) pos) (mOr f g) := ⟨PW.imp (pw_or ha.h hb.h) fun σ H Q ⟨φ, c, ρ, M, F, W, G, out, M', r, ev, th⟩ => by
  refine tMT_bind r ev th.exc (fun d M1 e1 => ?_) fun k M1 H1 φ1 F1 W1 G1 e1 r1 ek => ?_
  · split at e1
    · exact ⟨_, rfl⟩
    · exact ⟨_, rfl⟩
    · cases e1
  · cases k with
    | true => rw [if_pos rfl]; cases ek; exact th H1 φ1 F1 W1 G1 e1 r1.spl
    | false => rw [if_neg (by decide)]; exact ⟨φ1, c, ρ, M1, F1, W1, G1, out, M', r1, ek, th.evo e1⟩⟩
theorem jmw_pt {f : MEv} (h : JMW X T E e f) : JMT X T E e f := ⟨h.h.pt⟩
theorem jmt_not (ha : JMT X T E a f) : JMT X T E (.UnaryOp .Not a pos) (mNot f) := ⟨PT.imp (pt_not ha.h) fun σ H Q ⟨φ, c, ρ, M, F, W, G, out, M', r, ev, th⟩ => by
  refine tMT_bind r ev th.exc (fun d M1 e1 => ?_) fun k M1 H1 φ1 F1 W1 G1 e1 r1 ek => ?_
  · split at e1
    · exact ⟨_, rfl⟩
    · cases e1
  · cases ek; exact th H1 φ1 F1 W1 G1 e1 r1.spl⟩
end
end BD
namespace BD
open PySem PySem.Spec L2 PySem.W PyProof.Rows
def ThenMS (T : Tab) (K : Frag) (E : XK) (c : Ent) (φ0 φ : List Addr) (G : Hp) (F : FS) (D : Ends) (M' : Mem) : Fl → Prop
  | .nx ρ => ∀ σ H' φ' F' W' G', Evo φ φ' G G' F F' → RM T K φ' c ρ M' σ H' F' W' G' → D.nx σ H'
  | .bk ρ => ∀ σ H' φ' F' W' G', Evo φ φ' G G' F F' → RM T K φ' c ρ M' σ H' F' W' G' → D.bk σ H'
  | .ct ρ => ∀ σ H' φ' F' W' G', Evo φ φ' G G' F F' → RM T K φ' c ρ M' σ H' F' W' G' → D.ct σ H'
  | .rt d => ∀ v H' φ' F' W' G', Evo φ0 φ' c.H G' c.F F' → Spl (T.wc φ') K F' W' M' G' H' → Rep (T.wc φ') K F' G' v d → D.rt v H'
  | .exc n => ∀ H' φ' F' W' G', Evo φ0 φ' c.H G' c.F F' → Spl (T.wc φ') K F' W' M' G' H' → E (T.clsV n) none H'
structure RB (T : Tab) (K : Frag) (φ0 φ : List Addr) (c : Ent) (ρ : Rho) (M : Mem) (σ : L2.St) (H : Hp) (F : FS) (W : Own) (G : Hp) : Prop where
  pre : φ0 <+: φ
  rm : RM T K φ c ρ M σ H F W G
def tMS (T : Tab) (K : Frag) (E : XK) (f : MSv) : TS := fun D σ H => ∃ φ0 φ c ρ M F W G fl M', RB T K φ0 φ c ρ M σ H F W G ∧ f ρ M = some (fl, M') ∧ ThenMS T K E c φ0 φ G F D M' fl
structure JMS (X : Cx) (T : Tab) (E : XK) (st : Stmt) (f : MSv) : Prop where h : PS X st (tMS T X.K E f)
structure JMB (X : Cx) (T : Tab) (E : XK) (st : List Stmt) (f : MSv) : Prop where h : PSs X st (tMS T X.K E f)
section
variable {T : Tab} {K : Frag} {E : XK} {c : Ent} {φ0 φ φ' : List Addr} {G G' : Hp} {F F' : FS} {De : Ends} {M M' : Mem} {ρ : Rho} {σ : L2.St} {H : Hp} {W : Own} {fl : Fl}
theorem ThenMS.evo (e : Evo φ φ' G G' F F') (h : ThenMS T K E c φ0 φ G F De M' fl) : ThenMS T K E c φ0 φ' G' F' De M' fl := by
  cases fl with
  | nx ρ => exact fun σ H' φ2 F2 W2 G2 e2 r => h σ H' φ2 F2 W2 G2 (e.trans e2) r
  | bk ρ => exact fun σ H' φ2 F2 W2 G2 e2 r => h σ H' φ2 F2 W2 G2 (e.trans e2) r
  | ct ρ => exact fun σ H' φ2 F2 W2 G2 e2 r => h σ H' φ2 F2 W2 G2 (e.trans e2) r
  | rt d => exact h
  | exc n => exact h
theorem RB.ent (r : RB T K φ0 φ c ρ M σ H F W G) : Evo φ0 φ c.H G c.F F := ⟨r.rm.rel.growE, r.pre⟩
theorem RB.evo {H' : Hp} {W' : Own} (r : RB T K φ0 φ c ρ M σ H F W G) (e : Evo φ φ' G G' F F') (s : Spl (T.wc φ') K F' W' M' G' H') : RB T K φ0 φ' c ρ M' σ H' F' W' G' := ⟨r.pre.trans e.cl, r.rm.evo e s⟩
end
def sbM (o : Option (Out × Mem)) (k : D → Mem → Option (Fl × Mem)) : Option (Fl × Mem) := match o with
  | some (.val d, M) => k d M
  | some (.exc n, M) => some (.exc n, M)
  | none => none
def slM (o : Option (OutL × Mem)) (k : List D → Mem → Option (Fl × Mem)) : Option (Fl × Mem) := match o with
  | some (.vals d, M) => k d M
  | some (.exc n, M) => some (.exc n, M)
  | none => none
section
variable {T : Tab} {K : Frag} {E : XK} {c : Ent} {φ0 φ : List Addr} {G : Hp} {F : FS} {De : Ends} {M M' : Mem} {ρ : Rho} {σ : L2.St} {H : Hp} {W : Own} {fl : Fl}
theorem tM_bindS {f : MEv} {k : D → Mem → Option (Fl × Mem)} {Q : VK} (r : RB T K φ0 φ c ρ M σ H F W G) (e : sbM (f ρ M) k = some (fl, M')) (th : ThenMS T K E c φ0 φ G F De M' fl)
    (hv : ∀ d M1 v H1 φ1 F1 W1 G1, Evo φ φ1 G G1 F F1 → RB T K φ0 φ1 c ρ M1 σ H1 F1 W1 G1 → Rep (T.wc φ1) K F1 G1 v d → k d M1 = some (fl, M') → Q v H1) : tM T K E f σ H Q := by
  unfold sbM at e
  split at e
  · rename_i d M1 q
    exact ⟨φ, c, ρ, M, F, W, G, _, _, r.rm, q, fun v H1 φ1 F1 W1 G1 ev s rp => hv d M1 v H1 φ1 F1 W1 G1 ev (r.evo ev s) rp e⟩
  · rename_i n M1 q
    cases e
    exact ⟨φ, c, ρ, M, F, W, G, _, _, r.rm, q, fun H1 φ1 F1 W1 G1 ev s => th H1 φ1 F1 W1 G1 (r.ent.trans ev) s⟩
  · cases e
theorem tMT_bindS {f : MEv} {k : D → Mem → Option (Fl × Mem)} {Q : Bool → Hp → Prop} (r : RB T K φ0 φ c ρ M σ H F W G) (e : sbM (f ρ M) k = some (fl, M')) (th : ThenMS T K E c φ0 φ G F De M' fl) (hk : ∀ d M1, k d M1 = some (fl, M') → ∃ b, d = .bl b)
    (hv : ∀ b M1 H1 φ1 F1 W1 G1, Evo φ φ1 G G1 F F1 → RB T K φ0 φ1 c ρ M1 σ H1 F1 W1 G1 → k (.bl b) M1 = some (fl, M') → Q b H1) : tMT T K E f σ H Q := by
  unfold sbM at e
  split at e
  · rename_i d M1 q
    obtain ⟨b, rfl⟩ := hk d M1 e
    exact ⟨φ, c, ρ, M, F, W, G, _, _, r.rm, q, fun H1 φ1 F1 W1 G1 ev s => hv b M1 H1 φ1 F1 W1 G1 ev (r.evo ev s) e⟩
  · rename_i n M1 q
    cases e
    exact ⟨φ, c, ρ, M, F, W, G, _, _, r.rm, q, fun H1 φ1 F1 W1 G1 ev s => th H1 φ1 F1 W1 G1 (r.ent.trans ev) s⟩
  · cases e
theorem noOwn_set : ∀ {ρ : Rho} {i : Nat} {d : D}, noOwn ρ = true → noOwn (ρ.set i (some (.sh d))) = true
  | [], i, d, h => by simpa using h
  | some (.own _) :: ρ, i, d, h => by simp [noOwn] at h
  | none :: ρ, 0, d, h => by simpa [noOwn] using h
  | some (.sh _) :: ρ, 0, d, h => by simpa [noOwn] using h
  | none :: ρ, i + 1, d, h => by simpa [noOwn] using noOwn_set (ρ := ρ) (i := i) (d := d) (by simpa [noOwn] using h)
  | some (.sh _) :: ρ, i + 1, d, h => by simpa [noOwn] using noOwn_set (ρ := ρ) (i := i) (d := d) (by simpa [noOwn] using h)
theorem RB.set {i : Nat} {v : V} {d : D} (r : RB T K φ0 φ c ρ M σ H F W G) (rp : Rep (T.wc φ) K F G v d) : RB T K φ0 φ c (ρ.set i (some (.sh d))) M (σ.set i (some v)) H F W G := ⟨r.pre, r.rm.rel.set rp, noOwn_set r.rm.no, r.rm.spl⟩
theorem Spl.eqG {T : Tab} (s : Spl T K F W M G H) : G = restr W H := by
  funext a
  cases z : W a with
  | none => rw [restr_on z]; exact s.on a z
  | some t => rw [restr_off (by rw [z]; simp)]; exact s.off a (by rw [z]; simp)
theorem RB.down {ρ' : Rho} {σ' : L2.St} (hT : IsTab T) (r : RB T K φ0 φ c ρ M σ H F W G) (r' : Rel (T.wc φ) K c ρ' σ' H F) (no : noOwn ρ' = true) : RB T K φ0 φ c ρ' M σ' H F W G := by
  have o : Out0 (T.wc φ) F W H := ⟨isTab_wc hT, rfl, fun a h => r.rm.spl.wz (r.rm.rel.wf a h), r.rm.spl.kind⟩
  refine ⟨r.pre, ⟨r'.len, fun i d e => ?_, fun i ds e => absurd e (noOwn_get no), fun i ks ds e => absurd e (noMp_get no), r.rm.rel.ext, r.rm.rel.f0, r.rm.rel.f1, r.rm.rel.wf⟩, no, r.rm.spl⟩
  obtain ⟨v, h1, h2⟩ := r'.sh i d e
  exact ⟨v, h1, by rw [r.rm.spl.eqG]; exact h2.shrink o⟩
end
def mNext : MSv := fun ρ M => some (.nx ρ, M)
def mSeq (f g : MSv) : MSv := fun ρ M => match f ρ M with
  | some (.nx ρ', M1) => g ρ' M1
  | r => r
def mExpr (f : MEv) : MSv := fun ρ M => sbM (f ρ M) fun _ M1 => some (.nx ρ, M1)
def mRet (f : MEv) : MSv := fun ρ M => sbM (f ρ M) fun d M1 => some (.rt d, M1)
def mIfS (q : MEv) (f g : MSv) : MSv := fun ρ M => sbM (q ρ M) fun d M1 => match d with
  | .bl true => f ρ M1
  | .bl false => g ρ M1
  | _ => none
def mSet (f : MEv) (i : Nat) : MSv := fun ρ M => sbM (f ρ M) fun d M1 => some (.nx (ρ.set i (some (.sh d))), M1)
section
variable {X : Cx} {T : Tab} {E : XK} {a b c e o tg : Expr} {es rest : List Expr} {st : Stmt} {sts sa sb : List Stmt} {f q : MEv} {fs : MEvL} {g u : MSv} {x y : Str} {p pos pos' : Pos}
theorem jb_nilM : JMB X T E [] mNext := ⟨PSs.imp pss_nil fun D σ H ⟨φ0, φ, c, ρ, M, F, W, G, fl, M', r, ev, th⟩ => by
  cases ev
  exact th σ H φ F W G (.refl r.rm.rel.wf) r.rm⟩
theorem jb_consM (h1 : JMS X T E st g) (h2 : JMB X T E sts u) : JMB X T E (st :: sts) (mSeq g u) := ⟨PSs.imp (pss_cons h1.h h2.h) fun D σ H ⟨φ0, φ, c, ρ, M, F, W, G, fl, M', r, ev, th⟩ => by
  unfold mSeq at ev
  split at ev
  · rename_i ρ' M1 q
    exact ⟨φ0, φ, c, ρ, M, F, W, G, _, _, r, q, fun σ' H1 φ1 F1 W1 G1 e1 r1 => ⟨φ0, φ1, c, ρ', M1, F1, W1, G1, fl, M', ⟨r.pre.trans e1.cl, r1⟩, ev, th.evo e1⟩⟩
  · rename_i q
    refine ⟨φ0, φ, c, ρ, M, F, W, G, _, _, r, ev, ?_⟩
    cases fl with
    | nx ρ' => exact absurd ev (q ρ' M')
    | bk ρ' => exact th
    | ct ρ' => exact th
    | rt d => exact th
    | exc n => exact th⟩
theorem jb_oneM (h1 : JMS X T E st g) : JMB X T E [st] g := ⟨PSs.imp (jb_consM h1 jb_nilM).h fun D σ H ⟨φ0, φ, c, ρ, M, F, W, G, fl, M', r, ev, th⟩ => ⟨φ0, φ, c, ρ, M, F, W, G, fl, M', r, by unfold mSeq; rw [ev]; cases fl <;> rfl, th⟩⟩
theorem js_exprM (h : JM X T E e f) (hs : swapsWith e none pos.line X.env = pure false := by kernel_rfl) : JMS X T E (.Expr e pos) (mExpr f) := ⟨PS.imp (ps_expr h.h hs) fun D σ H ⟨φ0, φ, c, ρ, M, F, W, G, fl, M', r, ev, th⟩ => by
  refine tM_bindS r ev th fun d M1 v H1 φ1 F1 W1 G1 e1 r1 rp ek => ?_
  cases ek
  exact th σ H1 φ1 F1 W1 G1 e1 r1.rm⟩
theorem js_retM (h : JM X T E e f) : JMS X T E (.Return (some e) pos) (mRet f) := ⟨PS.imp (ps_ret h.h) fun D σ H ⟨φ0, φ, c, ρ, M, F, W, G, fl, M', r, ev, th⟩ => by
  refine tM_bindS r ev th fun d M1 v H1 φ1 F1 W1 G1 e1 r1 rp ek => ?_
  cases ek
  exact th v H1 φ1 F1 W1 G1 r1.ent r1.rm.spl rp⟩
theorem js_ifM (hc : JMT X T E c q) (ha : JMB X T E sa g) (hb : JMB X T E sb u) : JMS X T E (.If c sa sb pos) (mIfS q g u) := ⟨PS.imp (ps_if hc.h ha.h hb.h) fun D σ H ⟨φ0, φ, c, ρ, M, F, W, G, fl, M', r, ev, th⟩ => by
  refine tMT_bindS r ev th (fun d M1 e1 => ?_) fun k M1 H1 φ1 F1 W1 G1 e1 r1 ek => ?_
  · split at e1
    · exact ⟨_, rfl⟩
    · exact ⟨_, rfl⟩
    · cases e1
  · cases k with
    | true => rw [if_pos rfl]; exact ⟨φ0, φ1, c, ρ, M1, F1, W1, G1, fl, M', r1, ek, th.evo e1⟩
    | false => rw [if_neg (by decide)]; exact ⟨φ0, φ1, c, ρ, M1, F1, W1, G1, fl, M', r1, ek, th.evo e1⟩⟩
theorem js_setM {i : Nat} (hN : X.N.Nodup) (hi : X.N[i]? = some x) (hx : Loc X.env.scope x) (he : JM X T E e f) (hs : swapsWith e (some (.Name x pos')) pos.line X.env = pure false := by kernel_rfl)
    (hf : X.fn x = true ∨ X.env.scope.names.lookup x = some .local := by first | exact .inl rfl | exact .inr rfl | assumption) : JMS X T E (.Assign [.Name x pos'] e pos) (mSet f i) := ⟨PS.imp (ps_set hN hi hx he.h hs hf) fun D σ H ⟨φ0, φ, c, ρ, M, F, W, G, fl, M', r, ev, th⟩ => by
  refine tM_bindS r ev th fun d M1 v H1 φ1 F1 W1 G1 e1 r1 rp ek => ?_
  cases ek
  exact th _ H1 φ1 F1 W1 G1 e1 (r1.set rp).rm⟩
theorem pg_all {gg : Gv} {ss : List Nat} (hg : ∀ φ, JG X (T.wc φ) tg gg ss) : PG X tg (fun v σ H Q => ∃ φ, tDG (T.wc φ) X.K gg ss v σ H Q) := fun pins s σ H v u Q I r ⟨φ, h⟩ => (hg φ).h pins s σ H v u Q I r h
end
end BD
namespace BD
open PySem PySem.Spec L2 PySem.W PyProof.Rows
section
variable {T : Tab} {K : Frag} {E : XK} {f : Ev} {is : List Nat} {σ : L2.St} {H : Hp} {Q : VK}
theorem lift_sem (hT : IsTab T) (h : tM T K E (mL f) σ H Q) : ∃ φ, tD (T.wc φ) K E f σ H Q := by
  obtain ⟨φ, c, ρ, M, F, W, G, out, M', r, ev, th⟩ := h
  unfold mL at ev
  cases e1 : f ρ with
  | none => rw [e1] at ev; cases ev
  | some o =>
    rw [e1] at ev
    cases ev
    refine ⟨φ, c, ρ, F, _, r.up (F1 := F) (fun _ h => h) (fun _ h => .inl h), e1, ?_⟩
    cases out with
    | val d =>
      intro v H' F' g rp
      have z := r.spl.grow r.rel.wf g
      exact th v H' φ F' W _ ⟨z.2, List.prefix_refl _⟩ z.1 (rp.shrink (r.out0 hT g))
    | exc n =>
      intro H' ex
      obtain ⟨ev, sp⟩ := r.exc ex
      exact th H' φ F W _ ev sp
end
structure JA1 (X : Cx) (T : Tab) (E : XK) (st : Stmt) (i : Nat) (f : Ev) : Prop where h : PS X st (tAsg (tD T X.K E f) (gName i))
structure JAF (X : Cx) (T : Tab) (E : XK) (st : Stmt) (i : Nat) (f : EvL) : Prop where h : PS X st (tAsg (tDF T X.K E f) (gName i))
section
variable {X : Cx} {T : Tab} {E : XK} {st : Stmt} {i : Nat} {f : Ev} {fs : EvL} {is : List Nat}
theorem fr_sem {K : Frag} {σ : L2.St} {H : Hp} {Q : VK} (h : tD T K E (eFr fs) σ H Q) : tDF T K E fs σ H Q := by
  obtain ⟨c, ρ, F, out, r, e, th⟩ := h
  rcases lbnd_some e with ⟨d, e1, e2⟩ | ⟨n, e1, e2⟩
  · cases e2
    refine ⟨c, ρ, F, _, r, e1, fun p vs H1 H' F' g hp eH rp => ?_⟩
    subst eH
    have g2 := Grow.updF (o := .lst vs) (r.grow g).wf hp
    exact th _ _ _ (g.trans g2) (.lst (.inl ⟨.inr rfl, .inl upd_same⟩) (rp.keep (fun _ _ z _ => z) g2.more))
  · subst e2
    exact ⟨c, ρ, F, _, r, e1, th⟩
theorem JAF.fr (h : JAF X T E st i fs) : JA1 X T E st i (eFr fs) := ⟨PS.imp h.h fun D σ H q => fr_sem q⟩
theorem set_sem {K : Frag} {f : MEv} {D : Ends} {σ : L2.St} {H : Hp} (h : tMS T K E (mSet f i) D σ H) : tAsg (tM T K E f) (gName i) D σ H := by
  obtain ⟨φ0, φ, c, ρ, M, F, W, G, fl, M', r, ev, th⟩ := h
  refine tM_bindS r ev th fun d M1 v H1 φ1 F1 W1 G1 e1 r1 rp ek => ?_
  cases ek
  exact th _ H1 φ1 F1 W1 G1 e1 (r1.set rp).rm
theorem js_a1 (hT : IsTab T) (h : ∀ φ, JA1 X (T.wc φ) E st i f) : JMS X T E st (mSet (mL f) i) := ⟨fun pins s σ H D I q => by
  obtain ⟨φ, q⟩ := lift_sem hT (set_sem q)
  exact (h φ).h pins s σ H D I q⟩
variable {elt tg iter : Expr} {ifs : List Expr} {pos spos : Pos} {q fe : Ev}
theorem ja_setLc {y : Str} {py : Pos} {scope : Scope} {own : List (Str × Nat)} {gg : Gv} {ss : List Nat} (hc : X.calm = true) (hN : X.N.Nodup) (hy : X.N[i]? = some y) (hyl : X.env.scope.names.lookup y = some .local)
    (hsw : swapsWith (.ListComp elt [⟨tg, iter, ifs, 0⟩] scope pos) (some (.Name y py)) spos.line X.env = pure true) (hi : JI X T E tg iter fs) (ok : BlkOk X.N X.env.scope scope own)
    (hg : ∀ (s : Shared) (H : Hp) (C : Addr) (cl : List (Str × Addr)) (fp : List Addr), JG (X.blk s H scope (compEnvC scope cl C X.env) fp) T tg gg ss) (ht : ∀ (s : Shared) (H : Hp) (C : Addr) (cl : List (Str × Addr)) (fp : List Addr), JTs (X.blk s H scope (compEnvC scope cl C X.env) fp) T E0 ifs q)
    (he : ∀ (s : Shared) (H : Hp) (C : Addr) (cl : List (Str × Addr)) (fp : List Addr), JE (X.blk s H scope (compEnvC scope cl C X.env) fp) T E0 elt fe) (hss : ∀ j ∈ ss, j ∈ own.map (·.2)) (hs : ∀ x, foldedSetIterable iter X.env x = pure x := by intro _; kernel_rfl) :
    JAF X T E (.Assign [.Name y py] (.ListComp elt [⟨tg, iter, ifs, 0⟩] scope pos) spos) i (lComp fs gg q fe (own.map (·.2))) :=
  ⟨PS.imp (ps_setLc hc hN hy hyl hsw hi.h ok (fun s H C cl fp => (hg s H C cl fp).h) (fun s H C cl fp => (ht s H C cl fp).h) (fun s H C cl fp => (he s H C cl fp).h) hs) fun D σ H z => tLc_of hss z⟩
end
def fnSemM (n m : Nat) (body : MSv) : List D → Mem → Option (Out × Mem) := fun ds M => if ds.length = n then (match body (ds.map (fun d => some (.sh d)) ++ List.replicate m none) M with
  | some (.rt d, M') => some (.val d, M')
  | some (.nx _, M') => some (.val .non, M')
  | some (.exc k, M') => some (.exc k, M')
  | _ => none) else none
theorem fnSemM_len {n m : Nat} {body : MSv} {ds : List D} {M : Mem} {o : Out × Mem} (h : fnSemM n m body ds M = some o) : ds.length = n := by
  unfold fnSemM at h
  split at h
  · assumption
  · cases h
theorem noOwn_start : ∀ {ds : List D} {m : Nat}, noOwn (ds.map (fun d => some (.sh d)) ++ List.replicate m none) = true
  | [], 0 => rfl
  | [], m + 1 => by simpa [noOwn, List.replicate_succ] using noOwn_start (ds := []) (m := m)
  | d :: ds, m => by simpa [noOwn] using noOwn_start (ds := ds) (m := m)
section
variable {P : Program} {w : World} {K : PySem.W.Frag} {mg : Str → Option Value} {base : Heap} {T : Tab}
theorem sp_bodyM {N : List Str} {n : Nat} {fb : MSv} {vs : List V} {H : Hp} {Q : VK} {E : XK} (hN : n ≤ N.length) (h : spM T K (fnSemM n (N.length - n) fb) vs H Q E) : tMS T K E fb { nx := fun _ H' => Q .non H', rt := Q } (L2.start N vs) H := by
  obtain ⟨φ, F, W, G, M, ds, out, M', wf, sp, r, e, th⟩ := h
  have hl := fnSemM_len e
  have rl := rel_start (N := N) wf r hl hN
  have rb : RB T K φ φ ⟨G, F⟩ _ M _ H F W G := ⟨List.prefix_refl _, rl, noOwn_start, sp⟩
  unfold fnSemM at e
  rw [if_pos hl] at e
  split at e
  · rename_i d M1 q
    cases e
    exact ⟨φ, φ, _, _, M, F, W, G, _, _, rb, q, fun v H' φ' F' W' G' ev s rp => th v H' φ' F' W' G' ev s rp⟩
  · rename_i ρ M1 q
    cases e
    exact ⟨φ, φ, _, _, M, F, W, G, _, _, rb, q, fun σ' H' φ' F' W' G' ev r' => th _ H' φ' F' W' G' ev r'.spl .non⟩
  · rename_i k M1 q
    cases e
    exact ⟨φ, φ, _, _, M, F, W, G, _, _, rb, q, fun H' φ' F' W' G' ev s => th H' φ' F' W' G' ev s⟩
  · cases e
theorem fnS_okJ {x qual : Str} {st : Stmt} {dV : Value} {f : Addr} {fd : FuncData} {N ps : List Str} {k n m : Nat} {fb : MSv} (F : FunD K x qual st dV f fd) (S : FnScope N ps (defScope st)) (hn : ps.length = n) (hm : N.length = n + m)
    (hbody : ∀ (cdv : Value) (A : Around) (outer : List Env) (s : Shared) (H : Hp) (E : XK), Room k (A.deeper (PyProof.Rows.envOfC qual (defScope st) s.heap.objs.size f cdv)) → JMB (cxOf (CXf P w) P w K mg base N qual (defScope st) f cdv A outer s H E) T E (defBody st) fb) :
    FnOk P w K mg base (CXf P w) (k + 1) f fd ps (spM T K (fnSemM n m fb)) := by
  subst hn
  have e : m = N.length - ps.length := by omega
  subst e
  obtain ⟨oc, od, kV, doc, pm, an, cdv, ct, osl, rfl, lk, hcd⟩ := F.ex
  refine fn_of lk hcd S (fun vs H Q E ⟨φ, F, W, G, M, ds, out, M', wf, sp, r, e, th⟩ => by rw [r.length]; exact fnSemM_len e) fun A outer s H vs Q E hr hsp => ?_
  exact ⟨_, (hbody cdv A outer s H E hr).h, sp_bodyM (by omega) hsp⟩
end
def fput {α : Type} (xs : List α) (i : Nat) (x : α) : List α := if i < xs.length then xs.set i x else xs ++ [x]
theorem fput_get {α : Type} {xs : List α} {i j : Nat} {x : α} (h : i ≤ xs.length) : (fput xs i x)[j]? = if j = i then some x else xs[j]? := by
  unfold fput
  by_cases hi : i < xs.length
  · rw [if_pos hi]
    by_cases hj : j = i
    · subst hj; rw [if_pos rfl, List.getElem?_set_self hi]
    · rw [if_neg hj, List.getElem?_set_ne (Ne.symm hj)]
  · have e : i = xs.length := by omega
    subst e
    rw [if_neg hi]
    by_cases hj : j = xs.length
    · subst hj; simp
    · rw [if_neg hj]
      by_cases hl : j < xs.length
      · rw [List.getElem?_append_left hl]
      · rw [List.getElem?_append_right (by omega), List.getElem?_eq_none (by simp; omega), List.getElem?_eq_none (by omega)]
theorem fput_len {α : Type} {xs : List α} {i : Nat} {x : α} : (fput xs i x).length = if i < xs.length then xs.length else xs.length + 1 := by
  unfold fput
  split <;> simp
theorem putF_map : ∀ {fs : List (Str × V)} {names : List Str} {i : Nat} {g : Str} {v : V}, fs.map (·.1) = names.take fs.length → names.Nodup → names[i]? = some g → i ≤ fs.length → (putF g v fs).map (·.1) = names.take (fput fs i (g, v)).length ∧ (putF g v fs).map (·.2) = fput (fs.map (·.2)) i v
  | [], names, i, g, v, _, nd, hi, hl => by
    have hi0 : i = 0 := by simpa using hl
    subst hi0
    cases names with
    | nil => simp at hi
    | cons n ns => simp at hi; subst hi; simp [putF, fput]
  | (a, b) :: fs, [], i, g, v, h, nd, hi, hl => by simp at h
  | (a, b) :: fs, n :: ns, i, g, v, h, nd, hi, hl => by
    simp only [List.map_cons, List.length_cons, List.take_succ_cons, List.cons.injEq] at h
    obtain ⟨rfl, h⟩ := h
    have nd' := List.nodup_cons.mp nd
    cases i with
    | zero =>
      simp at hi
      subst hi
      simp [putF, fput, h]
    | succ i =>
      have hi' : ns[i]? = some g := by simpa using hi
      have ne : ¬ a = g := fun z => nd'.1 (by rw [z]; exact List.mem_of_getElem? hi')
      obtain ⟨p1, p2⟩ := putF_map (fs := fs) (v := v) h nd'.2 hi' (by simpa using hl)
      simp only [putF, if_neg ne, List.map_cons, p1, p2]
      refine ⟨?_, ?_⟩
      · rw [fput_len, fput_len]
        simp only [List.length_cons, Nat.add_lt_add_iff_right]
        split <;> simp
      · unfold fput
        simp only [List.length_map, List.length_cons, Nat.add_lt_add_iff_right]
        split <;> simp
section
variable {T : Tab} {K : Frag} {F : FS} {W : Own} {M : Mem} {G H : Hp} {n m k i : Nat} {a p C : Addr} {fs : List Fd} {names : List Str} {g : Str}
theorem Spl.fld {W' : Own} {H' : Hp} {dx : Addr} {fvs : List (Str × V)} {y : V} {fd : Fd} (s : Spl T K F W M G H) (q : M[n]? = some (.ins m k fs)) (ha : T.cl[n]? = some a) (hO : T.oc m = some (C, names)) (nd : names.Nodup) (hi : names[i]? = some g) (hl : i ≤ fs.length) (hH : H a = some (.ins C dx fvs))
    (eH : H' = upd H a (.ins C dx (putF g y fvs)))
    (hW : (W' = W ∧ ∃ d, fd = .sh d ∧ Rep T K F G y d) ∨ ∃ p us ds, W' = setW W p (.fld n i) ∧ fd = .own ds ∧ y = .ref p ∧ G p = none ∧ W p = none ∧ H p = some (.lst us) ∧ Reps T K F G us ds) :
    Spl T K F W' (M.set n (.ins m k (fput fs i fd))) G H' := by
  obtain ⟨a', h1, w1, C', dx', fvs', nm, h2, h3, h4, h5, h6, h7⟩ := s.ok n _ q
  rw [ha] at h1; cases h1
  rw [hH] at h2; cases h2
  rw [hO] at h3
  have t2 := Option.some.inj h3
  have tn : names = nm := congrArg Prod.snd t2
  subst tn
  subst eH
  have lf : fvs.length = fs.length := by have := h7.len; simpa using this
  have h6' : fvs.map (·.1) = names.take fvs.length := by rw [lf]; exact h6
  obtain ⟨p1, p2⟩ := putF_map (v := y) h6' nd hi (by omega)
  have hik : i < k := by rw [← h4]; exact (List.getElem?_eq_some_iff.mp hi).1
  have wa : ∀ b, W b = none → b ≠ a := fun b z e => by subst e; rw [w1] at z; cases z
  have ww : ∀ q t, W q = some t → W' q = some t := fun q t e => by
    rcases hW with ⟨rfl, _⟩ | ⟨p, us, ds, rfl, _, _, _, wp, _⟩
    · exact e
    · rw [setW_ne (fun z => by subst z; rw [wp] at e; cases e)]; exact e
  refine s.chg ha (fun q t w ne => ⟨ww q t w, upd_ne fun z => by subst z; rw [w1] at w; cases w; exact ne rfl⟩) (fun q h => ?_) (fun q h => ?_) (fun q h => ?_) (fun q h => ?_) ⟨ww _ _ w1, C, dx, _, names, upd_same, hO, h4, ?_, ?_, ?_⟩
  · cases z : W q with
    | none => exact absurd z h
    | some t => rw [ww q t z]; simp
  · rcases hW with ⟨rfl, _⟩ | ⟨p, us, ds, rfl, _, _, gp, wp, _⟩
    · exact .inl h
    · by_cases z : q = p
      · subst z; exact .inr gp
      · rw [setW_ne z] at h; exact .inl h
  · refine upd_ne fun z => ?_
    subst z
    rw [ww _ _ w1] at h
    cases h
  · by_cases z : q = a
    · subst z
      rw [upd_same]
      rcases s.kind q (by rw [w1]; simp) with ⟨xs, e⟩ | ⟨C2, dx2, fs2, e, mm⟩
      · rw [hH] at e; cases e
      · rw [hH] at e; cases e; exact .inr ⟨_, _, _, rfl, mm⟩
    · rw [upd_ne z]
      rcases hW with ⟨rfl, _⟩ | ⟨p, us, ds, rfl, _, _, gp, wp, hp, _⟩
      · exact s.kind q h
      · by_cases y : q = p
        · subst y; exact .inl ⟨us, hp⟩
        · rw [setW_ne y] at h; exact s.kind q h
  · rw [fput_len]; split <;> omega
  · rw [p1]
    rw [fput_len, fput_len, lf]
  · rw [p2]
    have hlv : i ≤ (fvs.map (·.2)).length := by rw [List.length_map]; omega
    refine ⟨?_, fun j d e => ?_, fun j ds e => ?_⟩
    · rw [fput_len, fput_len, List.length_map, lf]
    · rw [fput_get hl] at e
      rw [fput_get hlv]
      by_cases z : j = i
      · subst z
        rw [if_pos rfl] at e ⊢
        cases e
        rcases hW with ⟨_, d', e1, rp⟩ | ⟨p, us, ds, _, e1, _⟩
        · cases e1; exact ⟨y, rfl, rp⟩
        · cases e1
      · rw [if_neg z] at e ⊢
        exact h7.sh j d e
    · rw [fput_get hl] at e
      rw [fput_get hlv]
      by_cases z : j = i
      · subst z
        rw [if_pos rfl] at e ⊢
        cases e
        rcases hW with ⟨_, d', e1, rp⟩ | ⟨p, us, ds', e0, e1, rfl, gp, wp, hp, rp⟩
        · cases e1
        · cases e1
          exact ⟨p, us, rfl, by rw [e0]; exact setW_self, by rw [upd_ne (wa p wp)]; exact hp, rp⟩
      · rw [if_neg z] at e ⊢
        obtain ⟨p', us', e1, e2, e3, e4⟩ := h7.own j ds e
        exact ⟨p', us', e1, ww _ _ e2, by rw [upd_ne (fun z => by subst z; rw [w1] at e2; cases e2)]; exact e3, e4⟩
end
end BD
namespace BD
open PySem PySem.Spec L2 PySem.W PyProof.Rows
section
variable {X : Cx} {T : Tab} {E : XK} {e o value : Expr} {f : Ev} {fs : EvL} {fv fo fe : MEv} {is : List Nat} {x g : Str} {names : List Str} {n c i j : Nat} {C : Addr} {p pos pos' apos cpos : Pos}
theorem pf_ws (h : ∀ φ, JF X (T.ws φ) E e fs) : PE X e (fun σ H Q => ∃ φ, tDF (T.ws φ) X.K E fs σ H (fun v H' => KD X.K H' → Q v H')) := fun pins s σ H Q I ⟨φ, q⟩ =>
  wpAny_mono ((h φ).h pins s σ H _ I q) (fun u s' ⟨v, H', I', rv, q⟩ => ⟨v, H', I', rv, q (Inv.kd I')⟩) fun _ _ z => z
end
end BD
namespace BD
open PySem PySem.Spec L2 PySem.W PyProof.Rows
def mCApp (fo fe : MEv) : MSv := fun ρ M => sbM (fo ρ M) fun x M1 => match x with
  | .cell n => (match M1[n]? with
    | some (.lst _) => sbM (fe ρ M1) fun d M2 => (match M2[n]? with
      | some (.lst ds) => if smallL ds then some (.nx ρ, M2.set n (.lst (ds ++ [d]))) else none
      | _ => none)
    | _ => none)
  | _ => none
section
variable {T : Tab} {K : Frag} {F : FS} {W : Own} {M : Mem} {G H : Hp} {n : Nat} {a : Addr}
theorem Spl.lst {ds ds' : List D} {vs' : List V} (s : Spl T K F W M G H) (q : M[n]? = some (.lst ds)) (ha : T.cl[n]? = some a) (r : Reps T K F G vs' ds') : Spl T K F W (M.set n (.lst ds')) G (upd H a (.lst vs')) := by
  obtain ⟨a', h1, w1, vs, h2, h3⟩ := s.ok n _ q
  rw [ha] at h1; cases h1
  refine s.chg ha (fun q t w ne => ⟨w, upd_ne fun z => by subst z; rw [w1] at w; cases w; exact ne rfl⟩) (fun q h => h) (fun q h => .inl h) (fun q h => upd_ne fun z => by subst z; rw [w1] at h; cases h) (fun q h => ?_) ⟨w1, vs', upd_same, r⟩
  by_cases y : q = a
  · subst y; rw [upd_same]; exact .inl ⟨_, rfl⟩
  · rw [upd_ne y]; exact s.kind q h
theorem Reps.dropLast {vs : List V} {ds : List D} (h : Reps T K F G vs ds) : Reps T K F G vs.dropLast ds.dropLast := by
  rw [List.dropLast_eq_take, List.dropLast_eq_take, h.length]
  exact h.take _
end
section
variable {X : Cx} {T : Tab} {E : XK} {e o l tg a b : Expr} {es : List Expr} {fo fe f : MEv} {fs : MEvL} {p pos apos cpos : Pos}
theorem js_capp (ho : JM X T E o fo) (ha : JM X T E e fe) (hbase : attributeBase o "append" X.env (eval o X.env) = eval o X.env := by kernel_rfl)
    (hfew : ((backTo cpos (starEach [e] X.env)).all (fun x => !x.1) && (backToKw cpos (keywordEach [] X.env)).all (fun x => x.1.isSome) && decide ([e].length + ([] : List Keyword).length + (if ([] : List Keyword).isEmpty then 0 else 1) < 30)) = true := by kernel_rfl)
    (hline : (apos.endLine == cpos.line) = true := by kernel_rfl) (hs : starEach [e] X.env = (false, eval e X.env) :: starEach [] X.env := by kernel_rfl)
    (hsw : swapsWith (.Call (.Attribute o "append" apos) [e] [] cpos) none pos.line X.env = pure false := by kernel_rfl) : JMS X T E (.Expr (.Call (.Attribute o "append" apos) [e] [] cpos) pos) (mCApp fo fe) :=
  ⟨PS.imp (ps_expr (pe_bm PySem.F.plainAttrs_list PySem.F.slot_list_append PySem.F.type_list_append mt_append ho.h (pa_cons ha.h pa_nil hs) hbase hfew hline hs) hsw) fun D σ H ⟨φ0, φ, cc, ρ, M, F, W, G, fl, M', r, ev, th⟩ => by
    refine tM_bindS r ev th fun d M1 v H1 φ1 F1 W1 G1 e1 r1 rp ek => ?_
    split at ek
    · rename_i n
      split at ek
      · rename_i ds0 q0
        cases rp with
        | @cell a _ ha' =>
          obtain ⟨a', h1, w1, vs, h2, h3⟩ := r1.rm.spl.ok n _ q0
          rw [ha'] at h1; cases h1
          refine ⟨.inl ⟨rfl, vs, SqL.of h2⟩, ?_⟩
          refine tM_bindS r1 ek (th.evo e1) fun d2 M2 v2 H2 φ2 F2 W2 G2 e2 r2 rp2 ek2 => ?_
          split at ek2
          · rename_i ds q
            split at ek2
            · rename_i hsm
              cases ek2
              have hc2 : Rep (T.wc φ2) X.K F2 G2 (.ref a) (.cell n) := (Rep.cell (T := T.wc φ1) (F := F1) (H := G1) ha').evo e2
              cases hc2 with
              | cell ha2 =>
                obtain ⟨a', g1, u1, us, g2, g3⟩ := r2.rm.spl.ok n _ q
                rw [ha2] at g1; cases g1
                refine ⟨a, us, v2, rfl, rfl, g2, smallL_ok g3 hsm, ?_⟩
                exact th σ _ φ2 F2 W2 G2 (e1.trans e2) ⟨r2.rm.rel, r2.rm.no, r2.rm.spl.lst q ha2 (g3.append (.cons rp2 .nil))⟩
            · cases ek2
          · cases ek2
      · cases ek
    · cases ek⟩
end
def YieldsM (T : Tab) (K : Frag) (J : It) (ds : List D) (φ : List Addr) (G : Hp) (F : FS) : Prop :=
  ∃ P : List Addr → Hp → FS → Prop, P φ G F ∧ (∀ φ G F φ' G' F', P φ G F → φ <+: φ' → Keep F G G' → (∀ a, F a → F' a) → P φ' G' F') ∧
    ∀ φ G F H (i : Nat), P φ G F → Ext G H → (i < ds.length → J.go i H ∧ ∀ x H', J.yld i H x H' → ∃ d, ds[i]? = some d ∧ ((H' = H ∧ Rep (T.wc φ) K F G x d) ∨ (∃ t u, H t = none ∧ H' = upd H t u ∧ ((∀ a, F a → G a ≠ none) → Rep (T.wc φ) K F (upd G t u) x d)) ∨ ∃ t1 u1 t2 u2, H t1 = none ∧ H t2 = none ∧ t1 ≠ t2 ∧ H' = upd (upd H t1 u1) t2 u2 ∧ ((∀ a, F a → G a ≠ none) → Rep (T.wc φ) K F (upd (upd G t1 u1) t2 u2) x d))) ∧ (ds.length ≤ i → J.stop i H)
def ThenMI (T : Tab) (K : Frag) (E : XK) (φ : List Addr) (M' : Mem) (G : Hp) (F : FS) (R : It → Hp → Prop) : OutL → Prop
  | .vals ds => ∀ J H' φ' F' W' G', Evo φ φ' G G' F F' → Spl (T.wc φ') K F' W' M' G' H' → YieldsM T K J ds φ' G' F' → R J H'
  | .exc n => ∀ H' φ' F' W' G', Evo φ φ' G G' F F' → Spl (T.wc φ') K F' W' M' G' H' → E (T.clsV n) none H'
def tMI (T : Tab) (K : Frag) (E : XK) (f : MEvL) : TI := fun σ H R => ∃ φ c ρ M F W G out M', RM T K φ c ρ M σ H F W G ∧ f ρ M = some (out, M') ∧ ThenMI T K E φ M' G F R out
structure JMI (X : Cx) (T : Tab) (E : XK) (tg e : Expr) (f : MEvL) : Prop where h : PI X tg e (tMI T X.K E f)
section
variable {T : Tab} {K : Frag} {φ : List Addr} {G : Hp} {F : FS}
theorem SqF.ext {H : Hp} {p : Addr} {vs : List V} (h : SqF K F G p vs) (e : Ext G H) : SqF K F H p vs := h.keep e.keep fun _ z => z
theorem yieldsM_list {p : Addr} {vs : List V} {ds : List D} (h : SqF K F G p vs) (r : Reps (T.wc φ) K F G vs ds) : YieldsM T K (Itl K p) ds φ G F := by
  refine ⟨fun φ G F => SqF K F G p vs ∧ Reps (T.wc φ) K F G vs ds, ⟨h, r⟩, fun φ G F φ' G' F' q pf k m => ⟨q.1.keep k m, (q.2.pre pf).keep k m⟩, fun φ G F H i q ex => ⟨fun hi => ⟨?_, fun x H' y => ?_⟩, fun hi => ?_⟩⟩
  · obtain ⟨x, hx⟩ := get_of_lt (show i < vs.length by rw [q.2.length]; exact hi)
    exact ⟨vs, x, (q.1.ext ex).sq, hx⟩
  · obtain ⟨e, y⟩ := y
    subst e
    have hx := y vs (q.1.ext ex).sq
    obtain ⟨d, h1, h2⟩ := q.2.get' hx
    exact ⟨d, h1, .inl ⟨rfl, h2⟩⟩
  · exact ⟨vs, (q.1.ext ex).sq, by rw [q.2.length]; exact hi⟩
theorem yieldsM_range {lo : Int} {n : Nat} : YieldsM T K (Itr lo n) (rngD lo 1 n) φ G F := by
  have hl : (rngD lo 1 n).length = n := by simp [rngD]
  refine ⟨fun _ _ _ => True, trivial, fun _ _ _ _ _ _ _ _ _ _ => trivial, fun φ G F H i _ ex => ⟨fun hi => ⟨?_, fun x H' y => ?_⟩, fun hi => ?_⟩⟩
  · rw [hl] at hi; exact hi
  · obtain ⟨e, y⟩ := y
    subst e y
    rw [hl] at hi
    refine ⟨.int (lo + ((i : Nat) : Int) * 1), by simp [rngD, hi], .inl ⟨rfl, ?_⟩⟩
    rw [Int.mul_one]; exact .int _
  · rw [hl] at hi; exact hi
end
def wSeqM (f : MEv) : MEvL := fun ρ M => mbndL (f ρ M) fun d M1 => match d with
  | .lst ds => some (.vals ds, M1)
  | _ => none
def wArgM (k : List D → Option (List D)) (f : MEvL) : MEvL := fun ρ M => lmbndL (f ρ M) fun ds M1 => (k ds).map fun xs => (.vals xs, M1)
def kRng1 : List D → Option (List D)
  | [.int j] => if big62 j then some (rngD 0 1 j.toNat) else none
  | _ => none
section
variable {X : Cx} {T : Tab} {E : XK} {e l tg a b : Expr} {es : List Expr} {f : MEv} {fs : MEvL} {p pos tpos : Pos} {elts : List Expr} {kk : Nat}
theorem mi_list (h : JM X T E l f) : JMI X T E tg l (wSeqM f) := ⟨PI.imp (pi_list h.h) fun σ H R ⟨φ, c, ρ, M, F, W, G, out, M', r, ev, th⟩ => by
  unfold wSeqM mbndL at ev
  split at ev
  · rename_i d M1 q
    refine ⟨φ, c, ρ, M, F, W, G, _, _, r, q, fun v H1 φ1 F1 W1 G1 e1 s1 r1 => ?_⟩
    dsimp only at ev
    split at ev
    · cases ev
      cases r1 with
      | lst hq rr => exact ⟨_, rfl, ⟨_, (hq.ext s1.ext).sq⟩, th _ H1 φ1 F1 W1 G1 e1 s1 (yieldsM_list hq rr)⟩
    · cases ev
  · rename_i n M1 q
    cases ev
    exact ⟨φ, c, ρ, M, F, W, G, _, _, r, q, th⟩
  · cases ev⟩
theorem tMA_bindI {K : Frag} {k : List D → Option (List D)} {φ : List Addr} {c : Ent} {ρ : Rho} {M M' : Mem} {σ : L2.St} {H : Hp} {F : FS} {W : Own} {G : Hp} {out : OutL} {R : It → Hp → Prop} {Q : List V → Hp → Prop} (r : RM T K φ c ρ M σ H F W G) (ev : wArgM k fs ρ M = some (out, M')) (th : ThenMI T K E φ M' G F R out)
    (hv : ∀ ds xs vs H1 φ1 F1 W1 G1, Spl (T.wc φ1) K F1 W1 M' G1 H1 → Reps (T.wc φ1) K F1 G1 vs ds → k ds = some xs → (∀ J, YieldsM T K J xs φ1 G1 F1 → R J H1) → Q vs H1) : tMA T K E fs σ H Q := by
  unfold wArgM lmbndL at ev
  split at ev
  · rename_i d M1 q
    refine ⟨φ, c, ρ, M, F, W, G, _, _, r, q, fun vs H1 φ1 F1 W1 G1 e1 s1 r1 => ?_⟩
    dsimp only at ev
    cases qk : k d with
    | none => rw [qk] at ev; cases ev
    | some xs =>
      rw [qk] at ev
      cases ev
      exact hv d xs vs H1 φ1 F1 W1 G1 s1 r1 qk fun J y => th J H1 φ1 F1 W1 G1 e1 s1 y
  · rename_i n M1 q
    cases ev
    exact ⟨φ, c, ρ, M, F, W, G, _, _, r, q, th⟩
  · cases ev
theorem mi_range1 (hg : X.env.kindOf "range" = some .globalImplicit) (hm : X.mg "range" = none) (ha : JMA X T E [a] fs) (hs : starEach [a] X.env = [(false, eval a X.env)] := by kernel_rfl) : JMI X T E tg (.Call (.Name "range" p) [a] [] pos) (wArgM kRng1 fs) :=
  ⟨PI.imp (pi_range1 hg hm ha.h hs) fun σ H R ⟨φ, c, ρ, M, F, W, G, out, M', r, ev, th⟩ => by
    refine tMA_bindI r ev th fun ds xs vs H1 φ1 F1 W1 G1 s1 r1 ek k => ?_
    unfold kRng1 at ek
    split at ek
    · split at ek
      · rename_i hb
        cases ek
        cases r1 with
        | cons r1 t => cases t; cases r1; exact ⟨_, rfl, (big_ok hb).1, (big_ok hb).2, k _ yieldsM_range⟩
      · cases ek
    · cases ek⟩
end
def forM (g : Gv) (body : MSv) : List D → MSv
  | [], ρ, M => some (.nx ρ, M)
  | d :: ds, ρ, M => match g d ρ with
    | some ρ1 => if noOwn ρ1 = true then (match body ρ1 M with
      | some (.nx ρ2, M2) => forM g body ds ρ2 M2
      | some (.ct ρ2, M2) => forM g body ds ρ2 M2
      | some (.bk ρ2, M2) => some (.nx ρ2, M2)
      | r => r) else none
    | none => none
def mFor (f : MEvL) (g : Gv) (body : MSv) : MSv := fun ρ M => slM (f ρ M) fun ds M1 => forM g body ds ρ M1
section
variable {X : Cx} {T : Tab} {E : XK} {l tg c : Expr} {f : MEvL} {q : MEv} {fb : MSv} {body : List Stmt} {pos : Pos}
theorem RB.yld {K : Frag} {φ0 φ : List Addr} {cc : Ent} {ρ : Rho} {M : Mem} {σ : L2.St} {H H' : Hp} {F : FS} {W : Own} {G : Hp} {x : V} {d : D} (r : RB T K φ0 φ cc ρ M σ H F W G) (h : (H' = H ∧ Rep (T.wc φ) K F G x d) ∨ (∃ t u, H t = none ∧ H' = upd H t u ∧ ((∀ a, F a → G a ≠ none) → Rep (T.wc φ) K F (upd G t u) x d)) ∨ ∃ t1 u1 t2 u2, H t1 = none ∧ H t2 = none ∧ t1 ≠ t2 ∧ H' = upd (upd H t1 u1) t2 u2 ∧ ((∀ a, F a → G a ≠ none) → Rep (T.wc φ) K F (upd (upd G t1 u1) t2 u2) x d)) :
    ∃ G', Evo φ φ G G' F F ∧ RB T K φ0 φ cc ρ M σ H' F W G' ∧ Rep (T.wc φ) K F G' x d := by
  rcases h with ⟨rfl, rp⟩ | ⟨t, u, ht, rfl, rp⟩ | ⟨t1, u1, t2, u2, ht1, ht2, ne, rfl, rp⟩
  · exact ⟨G, .refl r.rm.rel.wf, r, rp⟩
  · obtain ⟨e, s⟩ := r.rm.upd (u := u) ht
    exact ⟨_, e, r.evo e s, rp r.rm.rel.wf⟩
  · obtain ⟨e, s⟩ := r.rm.upd (u := u1) ht1
    have r1 := r.evo e s
    obtain ⟨e2, s2⟩ := r1.rm.upd (u := u2) (show upd H t1 u1 t2 = none by rw [upd_ne ne.symm]; exact ht2)
    exact ⟨_, e.trans e2, r1.evo e2 s2, rp r.rm.rel.wf⟩
theorem js_forM {gg : Gv} {ss : List Nat} (hT : IsTab T) (hp : PassesOwn (model X.prog X.w) X.A X.env X.xe) (hc : X.calm = true) (hi : JMI X T E tg l f) (hg : ∀ φ, JG X (T.wc φ) tg gg ss) (hb : JMB X T E body fb) (hs : ∀ x, foldedSetIterable l X.env x = pure x := by intro _; kernel_rfl) :
    JMS X T E (.For tg l body [] pos) (mFor f gg fb) := ⟨PS.imp (ps_for hp hc hi.h (pg_all hg) hb.h hs) fun D σ H ⟨φ0, φ, cc, ρ, M, F, W, G, fl, M', r, ev, th⟩ => by
  unfold mFor slM at ev
  split at ev
  · rename_i ds M1 q
    refine ⟨φ, cc, ρ, M, F, W, G, _, _, r.rm, q, fun J H1 φ1 F1 W1 G1 e1 s1 ⟨P, p1, pl, py⟩ => ?_⟩
    refine ⟨fun i m σ' H' => m = ds.length - i ∧ i ≤ ds.length ∧ ∃ ρ' M2 φ2 F2 W2 G2, Evo φ φ2 G G2 F F2 ∧ RB T X.K φ0 φ2 cc ρ' M2 σ' H' F2 W2 G2 ∧ P φ2 G2 F2 ∧ forM gg fb (ds.drop i) ρ' M2 = some (fl, M'), ⟨ds.length, by simp, Nat.zero_le _, ρ, M1, φ1, F1, W1, G1, e1, r.evo e1 s1, p1, by simpa using ev⟩, ?_⟩
    rintro i m σ' H' ⟨rfl, hi, ρ', M2, φ2, F2, W2, G2, e2, r2, p2, ev2⟩
    obtain ⟨y1, y2⟩ := py φ2 G2 F2 H' i p2 r2.rm.spl.ext
    by_cases hlt : i < ds.length
    · obtain ⟨go, yl⟩ := y1 hlt
      refine .inr ⟨go, fun σ3 H3 => ∃ ρ' M2 φ2 F2 W2 G2, Evo φ φ2 G G2 F F2 ∧ RB T X.K φ0 φ2 cc ρ' M2 σ3 H3 F2 W2 G2 ∧ P φ2 G2 F2 ∧ forM gg fb (ds.drop (i + 1)) ρ' M2 = some (fl, M'), fun σ3 H3 h3 => ⟨ds.length - (i + 1), by omega, rfl, hlt, h3⟩, fun x H3 y => ?_⟩
      obtain ⟨d, hd, hy⟩ := yl x H3 y
      obtain ⟨G3, e3, r3, rp3⟩ := r2.yld hy
      rw [drop_cons hd] at ev2
      unfold forM at ev2
      split at ev2
      · rename_i ρ1 qg
        split at ev2
        · rename_i no
          refine ⟨φ2, cc, ρ', F2, d, ρ1, r3.rm.up (F1 := F2) (fun _ h => h) (fun _ h => .inl h), rp3.keep r3.rm.spl.ext.keep (fun _ h => h), qg, fun σ4 r4 _ => ?_⟩
          have r5 := r3.down hT r4 no
          have p3 := pl _ _ _ _ _ _ p2 e3.cl e3.gr.ext.keep e3.gr.more
          have e23 := e2.trans e3
          cases qb : fb ρ1 M2 with
          | none => rw [qb] at ev2; cases ev2
          | some res =>
            obtain ⟨fl1, M3⟩ := res
            rw [qb] at ev2
            refine ⟨φ0, φ2, cc, ρ1, M2, F2, W2, G3, fl1, M3, r5, qb, ?_⟩
            cases fl1 with
            | nx ρ2 => exact fun σ6 H6 φ6 F6 W6 G6 e6 r6 => ⟨ρ2, M3, φ6, F6, W6, G6, e23.trans e6, ⟨r2.pre.trans e6.cl, r6⟩, pl _ _ _ _ _ _ p3 e6.cl e6.gr.ext.keep e6.gr.more, ev2⟩
            | ct ρ2 => exact fun σ6 H6 φ6 F6 W6 G6 e6 r6 => ⟨ρ2, M3, φ6, F6, W6, G6, e23.trans e6, ⟨r2.pre.trans e6.cl, r6⟩, pl _ _ _ _ _ _ p3 e6.cl e6.gr.ext.keep e6.gr.more, ev2⟩
            | bk ρ2 => cases ev2; exact fun σ6 H6 φ6 F6 W6 G6 e6 r6 => th σ6 H6 φ6 F6 W6 G6 (e23.trans e6) r6
            | rt d => cases ev2; exact th
            | exc n => cases ev2; exact th
        · cases ev2
      · cases ev2
    · have hi' : i = ds.length := by omega
      subst hi'
      rw [List.drop_length] at ev2
      cases ev2
      exact .inl ⟨y2 (Nat.le_refl _), th σ' H' φ2 F2 W2 G2 e2 r2.rm⟩
  · rename_i n M1 q
    cases ev
    exact ⟨φ, cc, ρ, M, F, W, G, _, _, r.rm, q, fun H1 φ1 F1 W1 G1 ev s => th H1 φ1 F1 W1 G1 (r.ent.trans ev) s⟩
  · cases ev⟩
end
end BD
namespace BD
open PySem PySem.Spec L2 PySem.W PyProof.Rows
mutual
def pureD : D → Bool
  | .tup ds => pureDs ds
  | .lst ds => pureDs ds
  | .obj n ds => !mutN n && pureDs ds
  | .dic _ ds => pureDs ds
  | .cell _ => false
  | _ => true
def pureDs : List D → Bool
  | [] => true
  | d :: ds => pureD d && pureDs ds
end
section
variable {T T' : Tab} {K : Frag} {F : FS} {H : Hp}
mutual
theorem Rep.cv (h1 : T'.fnA = T.fnA) (h2 : T'.ex = T.ex) (h3 : T'.oc = T.oc) : ∀ {v : V} {d : D}, Rep T K F H v d → pureD d = true → Rep T' K F H v d
  | _, _, .non, _ => .non
  | _, _, .bl b, _ => .bl b
  | _, _, .int i, _ => .int i
  | _, _, .str x, _ => .str x
  | _, _, .tup h r, e => .tup h (Reps.cv h1 h2 h3 r (by simpa only [pureD] using e))
  | _, _, .lst h r, e => .lst h (Reps.cv h1 h2 h3 r (by simpa only [pureD] using e))
  | _, _, .dct h, _ => .dct h
  | _, _, .fn h, _ => .fn (by rw [h1]; exact h)
  | _, _, .exn h nl e, _ => .exn h nl (by rw [h2]; exact e)
  | _, _, .obj g h t r, e => by
    simp only [pureD, Bool.and_eq_true, Bool.not_eq_true'] at e
    exact .obj (.inl e.1) h (by rw [h3]; exact t) (Reps.cv h1 h2 h3 r e.2)
  | _, _, .cell h, e => by simp only [pureD] at e; cases e
  | _, _, .dic f h r, e => .dic f h (Reps.cv h1 h2 h3 r (by simpa only [pureD] using e))
theorem Reps.cv (h1 : T'.fnA = T.fnA) (h2 : T'.ex = T.ex) (h3 : T'.oc = T.oc) : ∀ {vs : List V} {ds : List D}, Reps T K F H vs ds → pureDs ds = true → Reps T' K F H vs ds
  | _, _, .nil, _ => .nil
  | _, _, .cons r t, e => by
    simp only [pureDs, Bool.and_eq_true] at e
    exact .cons (Rep.cv h1 h2 h3 r e.1) (Reps.cv h1 h2 h3 t e.2)
end
end
def pSem (g : List D → Mem → Option (Out × Mem)) : List D → Option Out := fun ds => if pureDs ds = true then (match g ds [] with
  | some (.val d, M) => if pureD (see0 M 4 d) = true then some (.val (see0 M 4 d)) else none
  | some (.exc n, _) => some (.exc n)
  | none => none) else none
theorem fnP_ok {P : Program} {w : World} {K : Frag} {mg : Str → Option Value} {base : Heap} {CX : CXT} {T : Tab} {k : Nat} {f : Addr} {fd : FuncData} {ps : List Str} {g : List D → Mem → Option (Out × Mem)} (hh : T.hd = none) (F : FnOk P w K mg base CX k f fd ps (spM T K g)) : FnOk P w K mg base CX k f fd ps (spD T K (pSem g)) :=
  F.imp fun vs H Q E ⟨F, ds, out, wf, r, e, th⟩ => by
    unfold pSem at e
    split at e
    · rename_i hp
      have sp : Spl (T.wc []) K F (fun _ => none) [] H H := ⟨rfl, fun n c q => by simp at q, fun a h => absurd rfl h, fun a _ => rfl, fun a h => absurd rfl h, fun a q => by
        have q : T.hd = some a := q
        rw [hh] at q
        cases q⟩
      have rr : Reps (T.wc []) K F H vs ds := Reps.cv (T := T) (T' := T.wc []) rfl rfl rfl r hp
      split at e
      · rename_i d M q
        split at e
        · rename_i hd
          cases e
          refine ⟨[], F, _, H, [], ds, _, M, wf, sp, rr, q, fun v H' φ' F' W' G' ev s rp => ?_⟩
          refine th v H' (fun a => F' a ∨ W' a ≠ none) ⟨ev.gr.ext.trans s.ext, fun a h => .inl (ev.gr.more a h), fun a h => ?_, fun a h => ?_⟩ (Rep.cv (T := (T.wc φ').up) (T' := T) rfl rfl rfl (see0_rep s 4 rp) hd)
          · rcases h with h | h
            · exact ev.gr.new a h
            · exact .inr (ev.gr.ext.none (s.off a h))
          · rcases h with h | h
            · cases z : G' a with
              | none => exact absurd z (ev.gr.wf a h)
              | some o => rw [s.ext a o z]; simp
            · exact s.there h
        · cases e
      · rename_i n M q
        cases e
        exact ⟨[], F, _, H, [], ds, _, M, wf, sp, rr, q, fun H' φ' F' W' G' ev s => th H' (ev.gr.ext.trans s.ext)⟩
      · cases e
    · cases e
structure JMX (X : Cx) (T : Tab) (e : Expr) (f : MEv) : Prop where h : PX X e (fun σ H Q EK => tM T X.K EK f σ H Q)
abbrev FnM := List (Nat × (List D → Mem → Option (Out × Mem)))
section
variable {P : Program} {w : World} {K : PySem.W.Frag} {mg : Str → Option Value} {base : Heap} {CX : CXT} {T : Tab} {k : Nat} {gl : FnM}
end
section
variable {X : Cx} {T : Tab} {E : XK} {k n : Nat} {e o : Expr} {es : List Expr} {fs : MEvL} {fo : MEv} {x m : Str} {p pos apos : Pos} {ps names : List Str} {C : Addr} {gg : List D → Mem → Option (Out × Mem)}
end
theorem noOwn_del : ∀ {ρ : Rho} {i : Nat}, noOwn ρ = true → noOwn (ρ.set i none) = true
  | [], i, h => by simpa using h
  | some (.own _) :: ρ, i, h => by simp [noOwn] at h
  | some (.mp _ _) :: ρ, i, h => by simp [noOwn] at h
  | none :: ρ, 0, h => by simpa [noOwn] using h
  | some (.sh _) :: ρ, 0, h => by simpa [noOwn] using h
  | none :: ρ, i + 1, h => by simpa [noOwn] using noOwn_del (ρ := ρ) (i := i) (by simpa [noOwn] using h)
  | some (.sh _) :: ρ, i + 1, h => by simpa [noOwn] using noOwn_del (ρ := ρ) (i := i) (by simpa [noOwn] using h)
section
variable {T : Tab} {K : Frag} {φ0 φ : List Addr} {c : Ent} {ρ : Rho} {M : Mem} {σ : L2.St} {H : Hp} {F : FS} {W : Own} {G : Hp} {a : Addr}
mutual
theorem Rep.hd {T T' : Tab} (h1 : T'.fnA = T.fnA) (h2 : T'.ex = T.ex) (h3 : T'.oc = T.oc) (h4 : T'.cl = T.cl) (h5 : T'.mt = T.mt) : ∀ {v : V} {d : D}, Rep T K F H v d → Rep T' K F H v d
  | _, _, .non => .non
  | _, _, .bl b => .bl b
  | _, _, .int i => .int i
  | _, _, .str x => .str x
  | _, _, .tup h r => .tup h (Reps.hd h1 h2 h3 h4 h5 r)
  | _, _, .lst h r => .lst h (Reps.hd h1 h2 h3 h4 h5 r)
  | _, _, .dct h => .dct h
  | _, _, .fn h => .fn (by rw [h1]; exact h)
  | _, _, .exn h nl e => .exn h nl (by rw [h2]; exact e)
  | _, _, .obj g h t r => .obj (by rw [h5]; exact g) h (by rw [h3]; exact t) (Reps.hd h1 h2 h3 h4 h5 r)
  | _, _, .cell h => .cell (by rw [h4]; exact h)
  | _, _, .dic f h r => .dic f h (Reps.hd h1 h2 h3 h4 h5 r)
theorem Reps.hd {T T' : Tab} (h1 : T'.fnA = T.fnA) (h2 : T'.ex = T.ex) (h3 : T'.oc = T.oc) (h4 : T'.cl = T.cl) (h5 : T'.mt = T.mt) : ∀ {vs : List V} {ds : List D}, Reps T K F H vs ds → Reps T' K F H vs ds
  | _, _, .nil => .nil
  | _, _, .cons r t => .cons (Rep.hd h1 h2 h3 h4 h5 r) (Reps.hd h1 h2 h3 h4 h5 t)
end
theorem FOk.hd {T T' : Tab} {n : Nat} {vs : List V} {fs : List Fd} (h1 : T'.fnA = T.fnA) (h2 : T'.ex = T.ex) (h3 : T'.oc = T.oc) (h4 : T'.cl = T.cl) (h5 : T'.mt = T.mt) (h : FOk T K F G H W n vs fs) : FOk T' K F G H W n vs fs := h.mv (fun _ _ r => r.hd h1 h2 h3 h4 h5) (fun _ _ r => r.hd h1 h2 h3 h4 h5) fun _ _ w _ => ⟨w, rfl⟩
theorem Rel.hd {T T' : Tab} (h1 : T'.fnA = T.fnA) (h2 : T'.ex = T.ex) (h3 : T'.oc = T.oc) (h4 : T'.cl = T.cl) (h5 : T'.mt = T.mt) (r : Rel T K c ρ σ G F) : Rel T' K c ρ σ G F where
  len := r.len
  sh := fun i d e => let ⟨v, z1, z2⟩ := r.sh i d e; ⟨v, z1, z2.hd h1 h2 h3 h4 h5⟩
  own := fun i ds e => let ⟨p, vs, z1, z2, z3, z4, z5, z6⟩ := r.own i ds e; ⟨p, vs, z1, z2, z3.hd h1 h2 h3 h4 h5, z4, z5, z6⟩
  mp := fun i ks ds e => let ⟨p, kvs, z1, z2, zk, z3, z4, z5, z6⟩ := r.mp i ks ds e; ⟨p, kvs, z1, z2, zk, z3.hd h1 h2 h3 h4 h5, z4, z5, z6⟩
  ext := r.ext
  f0 := r.f0
  f1 := r.f1
  wf := r.wf
end
section
variable {X : Cx} {T : Tab} {E : XK} {i : Nat} {c : Expr} {rest : List Stmt} {x n : Str} {cB : Value} {np hp ep pos : Pos} {fc : MEv} {fr su : MSv} {okn : Nat → Bool} {b0 : Stmt} {bs : List Stmt}
end
section
variable {X : Cx} {T : Tab} {E : XK} {e : Expr} {es : List Expr} {fs : MEvL} {y : Str} {ps : List Str} {jj : Nat} {al : List D → Option Out} {p pos : Pos} {a : Addr}
end
end BD
namespace BD
open PySem PySem.Spec L2 PySem.W PyProof.Rows
theorem noOwn_wipe {ρ : Rho} (h : noOwn ρ = true) : ∀ vs : List Nat, noOwn (wipeR ρ vs) = true
  | [] => h
  | v :: vs => noOwn_del (noOwn_wipe h vs)
section
variable {T : Tab} {K : Frag} {φ : List Addr} {c : Ent} {ρ : Rho} {M : Mem} {σ : L2.St} {H : Hp} {F : FS} {W : Own} {G : Hp} {p : Addr}
theorem RM.wipe (r : RM T K φ c ρ M σ H F W G) (vs : List Nat) : RM T K φ c (wipeR ρ vs) M (L2.wipe σ vs) H F W G := ⟨r.rel.wipe vs, noOwn_wipe r.no vs, r.spl⟩
theorem RM.yld {H' : Hp} {x : V} {d : D} (r : RM T K φ c ρ M σ H F W G) (h : (H' = H ∧ Rep (T.wc φ) K F G x d) ∨ (∃ t u, H t = none ∧ H' = L2.upd H t u ∧ ((∀ a, F a → G a ≠ none) → Rep (T.wc φ) K F (L2.upd G t u) x d)) ∨ ∃ t1 u1 t2 u2, H t1 = none ∧ H t2 = none ∧ t1 ≠ t2 ∧ H' = L2.upd (L2.upd H t1 u1) t2 u2 ∧ ((∀ a, F a → G a ≠ none) → Rep (T.wc φ) K F (L2.upd (L2.upd G t1 u1) t2 u2) x d)) :
    ∃ G', Evo φ φ G G' F F ∧ RM T K φ c ρ M σ H' F W G' ∧ Rep (T.wc φ) K F G' x d := by
  rcases h with ⟨rfl, rp⟩ | ⟨t, u, ht, rfl, rp⟩ | ⟨t1, u1, t2, u2, ht1, ht2, ne, rfl, rp⟩
  · exact ⟨G, .refl r.rel.wf, r, rp⟩
  · obtain ⟨e, s⟩ := r.upd (u := u) ht
    exact ⟨_, e, r.evo e s, rp r.rel.wf⟩
  · obtain ⟨e, s⟩ := r.upd (u := u1) ht1
    have r1 := r.evo e s
    obtain ⟨e2, s2⟩ := r1.upd (u := u2) (show L2.upd H t1 u1 t2 = none by rw [L2.upd_ne ne.symm]; exact ht2)
    exact ⟨_, e.trans e2, r1.evo e2 s2, rp r.rel.wf⟩
theorem RM.down {ρ' : Rho} {σ' : L2.St} (hT : IsTab T) (r : RM T K φ c ρ M σ H F W G) (r' : Rel (T.wc φ) K c ρ' σ' H F) (no : noOwn ρ' = true) : RM T K φ c ρ' M σ' H F W G := (RB.down (φ0 := φ) hT ⟨List.prefix_refl _, r⟩ r' no).rm
theorem keep_put {vs us : List V} (hp : G p = some (.lst vs)) (nf : ¬ F p) : Keep F G (upd G p (.lst us)) := fun a o e z => by
  by_cases h : a = p
  · subst h
    rcases z with z | z
    · exact absurd z nf
    · rw [hp] at e; cases e; exact absurd rfl (z.1 vs)
  · rw [upd_ne h]; exact e
theorem RM.put {vs us : List V} (r : RM T K φ c ρ M σ H F W G) (hp : G p = some (.lst vs)) (nf : ¬ F p) (n0 : c.H p = none) : RM T K φ c ρ M σ (L2.upd H p (.lst us)) F W (L2.upd G p (.lst us)) := by
  have k := keep_put (us := us) hp nf
  have wp := r.spl.wz (by rw [hp]; simp)
  refine ⟨⟨r.rel.len, fun i d e => let ⟨v, h1, h2⟩ := r.rel.sh i d e; ⟨v, h1, h2.keep k fun _ z => z⟩, fun i ds e => absurd e (noOwn_get r.no), fun i ks ds e => absurd e (noMp_get r.no), fun a o e => ?_, r.rel.f0, r.rel.f1, fun a h => ?_⟩, r.no, r.spl.keep k (fun _ z => z) (fun q w => upd_ne fun z => by subst z; exact w wp) (fun q w => ?_) fun q w => ?_⟩
  · by_cases h : a = p
    · subst h; rw [n0] at e; cases e
    · rw [upd_ne h]; exact r.rel.ext a o e
  · by_cases z : a = p
    · subst z; exact absurd h nf
    · rw [upd_ne z]; exact r.rel.wf a h
  · rw [upd_ne (fun z => by subst z; exact w wp)]; exact r.spl.off q w
  · by_cases z : q = p
    · subst z; rw [upd_same, upd_same]
    · rw [upd_ne z, upd_ne z]; exact r.spl.on q w
def only (p : Addr) : Own := fun a => if a = p then some (.cell 0) else none
theorem restr_only : restr (only p) G = rm G p := by
  funext a
  unfold restr only rm
  by_cases h : a = p
  · simp [h]
  · simp [h]
theorem out_only {vs : List V} (hT : IsTab T) (hp : G p = some (.lst vs)) (nf : ¬ F p) : Out0 (T.wc φ) F (only p) G := ⟨isTab_wc hT, rfl, fun a h => by
  unfold only
  rw [if_neg fun z => by subst z; exact nf h], fun a h => by
  unfold only at h
  split at h
  · rename_i z; subst z; exact .inl ⟨vs, hp⟩
  · exact absurd rfl h⟩
theorem Rep.without {vs : List V} {v : V} {d : D} (hT : IsTab T) (hp : G p = some (.lst vs)) (nf : ¬ F p) (r : Rep (T.wc φ) K F G v d) : Rep (T.wc φ) K F (rm G p) v d := by
  have := r.shrink (out_only hT hp nf)
  rwa [restr_only] at this
theorem Reps.without {vs : List V} {v : List V} {d : List D} (hT : IsTab T) (hp : G p = some (.lst vs)) (nf : ¬ F p) (r : Reps (T.wc φ) K F G v d) : Reps (T.wc φ) K F (rm G p) v d := by
  have := r.shrink (out_only hT hp nf)
  rwa [restr_only] at this
theorem upd_rm {o : HO} (h : H p = some o) : upd (rm H p) p o = H := rm_upd h
theorem Evo.rm {φ' : List Addr} {G' : Hp} {F' : FS} {o : HO} (e : Evo φ φ' G G' F F') (hp : G p = some o) (nf : ¬ F p) : Evo φ φ' (BD.rm G p) (BD.rm G' p) F F' := ⟨e.gr.rm hp nf, e.cl⟩
theorem Spl.take {vs : List V} {ds : List D} (hT : IsTab T) (s : Spl (T.wc φ) K F W M G H) (wf : ∀ a, F a → G a ≠ none) (hp : G p = some (.lst vs)) (nf : ¬ F p) (r : Reps (T.wc φ) K F G vs ds) : Spl (T.wc (φ ++ [p])) K F (setW W p (.cell M.length)) (M ++ [.lst ds]) (rm G p) H := by
  have wp := s.wz (by rw [hp]; simp)
  have hH : H p = some (.lst vs) := s.ext _ _ hp
  have sr : Spl (T.wc φ) K F W M (rm G p) (rm H p) := by
    refine ⟨s.len, fun n cl q => ?_, fun a h => ?_, fun a h => ?_, fun a h => ?_, fun a h => ?_⟩
    · obtain ⟨b, h1, h2⟩ := s.ok n cl q
      refine ⟨b, h1, h2.mv rfl (fun _ _ x => x.without hT hp nf) (fun _ _ x => x.without hT hp nf) fun q t w _ => ⟨w, rm_ne fun z => by subst z; rw [wp] at w; cases w⟩⟩
    · rw [rm_ne (fun z => by subst z; exact h wp)]; exact s.off a h
    · by_cases z : a = p
      · subst z; rw [rm_self, rm_self]
      · rw [rm_ne z, rm_ne z]; exact s.on a h
    · rw [rm_ne (fun z => by subst z; exact h wp)]; exact s.kind a h
    · obtain ⟨oe, us, h1, h2⟩ := s.hd a h
      exact ⟨oe, us, by rw [rm_ne (fun z => by subst z; rw [hp] at h1; cases h1)]; exact h1, h2⟩
  have z := sr.push (o := .lst vs) (c := .lst ds) rm_self (.inl ⟨_, rfl⟩) ⟨setW_self, vs, upd_same, (r.without hT hp nf).pre ⟨_, rfl⟩⟩
  rwa [upd_rm hH] at z
end
section
variable {X : Cx} {T : Tab} {E : XK} {elt iter tg a b : Expr} {ifs : List Expr} {scope : Scope} {own : List (Str × Nat)} {f : MEvL} {gg : Gv} {q fe fa fb : MEv} {ss : List Nat} {pos : Pos}
structure JMTs (X : Cx) (T : Tab) (E : XK) (es : List Expr) (f : MEv) : Prop where h : PTs X es (tMT T X.K E f)
def mIx (fa fb : MEv) : MEv := fun ρ M => mbnd (fa ρ M) fun x M1 => mbnd (fb ρ M1) fun y M2 => match x, y with
  | .cell n, .int i => (match M2[n]? with
    | some (.lst ds) => (atI ds i).map fun d => (.val d, M2)
    | _ => none)
  | _, _ => none
theorem jm_ix (ha : JM X T E a fa) (hb : JM X T E b fb) (hs : PlainIx b := by intro _ _; rfl) : JM X T E (.Subscript a b pos) (mIx fa fb) := ⟨PE.imp (pe_ix ix_list ha.h hb.h hs) fun σ H Q ⟨φ, c, ρ, M, F, W, G, out, M', r, ev, th⟩ => by
  refine tM_bind r ev th.exc fun x M1 v H1 φ1 F1 W1 G1 e1 r1 rp ek => ?_
  refine tM_bind r1 ek (th.exc.evo e1) fun y M2 v2 H2 φ2 F2 W2 G2 e2 r2 rp2 ek2 => ?_
  split at ek2
  · rename_i n i
    split at ek2
    · rename_i ds q
      cases qa : atI ds i with
      | none => rw [qa] at ek2; cases ek2
      | some d =>
        rw [qa] at ek2
        cases ek2
        cases rp2
        cases rp.evo e2 with
        | cell ha' =>
          obtain ⟨a', h1, w1, vs, h2, h3⟩ := r2.spl.ok n _ q
          rw [ha'] at h1
          cases h1
          obtain ⟨z, z1, z2⟩ := h3.at qa
          exact ⟨_, vs, i, z, rfl, rfl, SqL.of h2, z1, th z H2 φ2 F2 W2 G2 (e1.trans e2) r2.spl z2⟩
    · cases ek2
  · cases ek2⟩
end
end BD
namespace BD
open PySem PySem.Spec L2 PySem.W PyProof.Rows
def forC (n : Nat) (g : Gv) (body : MSv) : Nat → Nat → MSv
  | 0, _, _, _ => none
  | k + 1, i, ρ, M => match M[n]? with
    | some (.lst ds) => (match ds[i]? with
      | some d => (match g d ρ with
        | some ρ1 => if noOwn ρ1 = true then (match body ρ1 M with
          | some (.nx ρ2, M2) => forC n g body k (i + 1) ρ2 M2
          | some (.ct ρ2, M2) => forC n g body k (i + 1) ρ2 M2
          | some (.bk ρ2, M2) => some (.nx ρ2, M2)
          | r => r) else none
        | none => none)
      | none => some (.nx ρ, M))
    | _ => none
def mForC (fo : MEv) (g : Gv) (body : MSv) : MSv := fun ρ M => sbM (fo ρ M) fun x M1 => match x with
  | .cell n => forC n g body 1000 0 ρ M1
  | _ => none
section
variable {X : Cx} {T : Tab} {E : XK} {l tg : Expr} {fo : MEv} {fb : MSv} {body : List Stmt} {pos : Pos}
theorem js_forC {gg : Gv} {ss : List Nat} (hT : IsTab T) (hp : PassesOwn (model X.prog X.w) X.A X.env X.xe) (hc : X.calm = true) (hi : JM X T E l fo) (hg : ∀ φ, JG X (T.wc φ) tg gg ss) (hb : JMB X T E body fb) (hs : ∀ x, foldedSetIterable l X.env x = pure x := by intro _; kernel_rfl) :
    JMS X T E (.For tg l body [] pos) (mForC fo gg fb) := ⟨PS.imp (ps_for hp hc (pi_list hi.h) (pg_all hg) hb.h hs) fun D σ H ⟨φ0, φ, cc, ρ, M, F, W, G, fl, M', r, ev, th⟩ => by
  refine tM_bindS r ev th fun x M1 v H1 φ1 F1 W1 G1 e1 r1 rp ek => ?_
  split at ek
  · rename_i n
    cases rp with
    | @cell a _ ha =>
      have look : ∀ {φ2 : List Addr} {ρ2 : Rho} {M2 : Mem} {σ2 : L2.St} {H2 : Hp} {F2 : FS} {W2 : Own} {G2 : Hp} {ds : List BD.D}, RB T X.K φ0 φ2 cc ρ2 M2 σ2 H2 F2 W2 G2 → φ1 <+: φ2 → M2[n]? = some (.lst ds) → ∃ vs, H2 a = some (.lst vs) ∧ Reps (T.wc φ2) X.K F2 G2 vs ds := fun r2 pf q => by
        obtain ⟨a', h1, w1, vs, h2, h3⟩ := r2.rm.spl.ok n _ q
        have ha2 : Rep (T.wc _) X.K F1 G1 (.ref a) (.cell n) := (Rep.cell (T := T.wc φ1) (F := F1) (H := G1) (K := X.K) ha).pre pf
        cases ha2 with
        | cell h => rw [h] at h1; cases h1; exact ⟨vs, h2, h3⟩
      have ex0 : ∃ ds, M1[n]? = some (.lst ds) := by
        unfold forC at ek
        split at ek
        · exact ⟨_, by assumption⟩
        · cases ek
      obtain ⟨ds0, q0⟩ := ex0
      obtain ⟨vs0, h0, _⟩ := look r1 (List.prefix_refl _) q0
      refine ⟨a, rfl, ⟨vs0, SqL.of h0⟩, ?_⟩
      refine ⟨fun i m σ' H' => ∃ ρ' M2 φ2 F2 W2 G2, Evo φ φ2 G G2 F F2 ∧ φ1 <+: φ2 ∧ RB T X.K φ0 φ2 cc ρ' M2 σ' H' F2 W2 G2 ∧ forC n gg fb m i ρ' M2 = some (fl, M'), ⟨1000, ρ, M1, φ1, F1, W1, G1, e1, List.prefix_refl _, r1, ek⟩, ?_⟩
      rintro i m σ' H' ⟨ρ', M2, φ2, F2, W2, G2, e2, pf, r2, ev2⟩
      cases m with
      | zero => cases ev2
      | succ m =>
        unfold forC at ev2
        split at ev2
        · rename_i ds q
          obtain ⟨vs, h1, h2⟩ := look r2 pf q
          split at ev2
          · rename_i d hd
            obtain ⟨x, hx, rx⟩ := h2.get hd
            refine .inr ⟨⟨vs, x, SqL.of h1, hx⟩, fun σ3 H3 => ∃ ρ' M2 φ2 F2 W2 G2, Evo φ φ2 G G2 F F2 ∧ φ1 <+: φ2 ∧ RB T X.K φ0 φ2 cc ρ' M2 σ3 H3 F2 W2 G2 ∧ forC n gg fb m (i + 1) ρ' M2 = some (fl, M'), fun σ3 H3 h3 => ⟨m, Nat.lt_succ_self _, h3⟩, fun y H3 hy => ?_⟩
            obtain ⟨rfl, hy⟩ := hy
            have hy := hy vs (SqL.of h1)
            rw [hx] at hy
            cases hy
            split at ev2
            · rename_i ρ1 qg
              split at ev2
              · rename_i no
                refine ⟨φ2, cc, ρ', F2, d, ρ1, r2.rm.up (F1 := F2) (fun _ h => h) (fun _ h => .inl h), rx.keep r2.rm.spl.ext.keep (fun _ h => h), qg, fun σ4 r4 _ => ?_⟩
                have r5 := r2.down hT r4 no
                cases qb : fb ρ1 M2 with
                | none => rw [qb] at ev2; cases ev2
                | some res =>
                  obtain ⟨fl1, M3⟩ := res
                  rw [qb] at ev2
                  refine ⟨φ0, φ2, cc, ρ1, M2, F2, W2, G2, fl1, M3, r5, qb, ?_⟩
                  cases fl1 with
                  | nx ρ2 => exact fun σ6 H6 φ6 F6 W6 G6 e6 r6 => ⟨ρ2, M3, φ6, F6, W6, G6, e2.trans e6, pf.trans e6.cl, ⟨r2.pre.trans e6.cl, r6⟩, ev2⟩
                  | ct ρ2 => exact fun σ6 H6 φ6 F6 W6 G6 e6 r6 => ⟨ρ2, M3, φ6, F6, W6, G6, e2.trans e6, pf.trans e6.cl, ⟨r2.pre.trans e6.cl, r6⟩, ev2⟩
                  | bk ρ2 => cases ev2; exact fun σ6 H6 φ6 F6 W6 G6 e6 r6 => th σ6 H6 φ6 F6 W6 G6 (e2.trans e6) r6
                  | rt d => cases ev2; exact th
                  | exc k => cases ev2; exact th
              · cases ev2
            · cases ev2
          · rename_i hd
            cases ev2
            refine .inl ⟨⟨vs, SqL.of h1, ?_⟩, th σ' H' φ2 F2 W2 G2 e2 r2.rm⟩
            rw [h2.length]
            exact List.getElem?_eq_none_iff.mp hd
        · cases ev2
  · cases ek⟩
end
open Att in
theorem walk_M {l : PySem.W.OpenLaw} {n k : Nat} {q : Program} {loose : List Str} {XP : (Str → Option Value) → Heap → Prop} {YP : World → Heap → Prop} {d : DefRec} {K : Params → PySem.W.Frag} {x : Str} {g : List D → Mem → Option (Out × Mem)}
    (hn : l.most = some n) (hn2 : n ≤ sizeLine) (hdf : d.params.defaults = []) (hr : Room k callerA) (hY : ∀ (w : World) (h : Heap), YP w h → (K w.params).In h) (hL : LawT n (pSem g))
    (F : ∀ (w : World) (mg : Str → Option Value) (fa : Addr) (h : Heap), (K w.params).In h → h.Ns mainGlobals mg → mg d.name = some (.ref fa) →
      ∃ (fd : FuncData) (T : Tab), T.hd = none ∧ (∀ (s : Shared) (u : Value), BindsTo s fd ⟨[u], []⟩ [(x, u)]) ∧ ∀ base : Heap, (K w.params).In base → base.Ns mainGlobals mg → FnOk l.prog w (K w.params) mg base (CXf l.prog w) k fa fd [x] (spM T (K w.params) g)) :
    PySem.W.WalkO q loose XP YP l.row.toRowW d [] (fun f vs => PySem.call f vs) :=
  walk_Dx hn hn2 hdf hr hY hL fun w mg fa h KX G hmg => by
    obtain ⟨fd, T, hh, hb, hF⟩ := F w mg fa h KX G hmg
    exact ⟨fd, T, hb, fun base b1 b2 => fnP_ok hh (hF base b1 b2)⟩
end BD
namespace BD
open PySem PySem.Spec L2 PySem.W PyProof.Rows
section
variable {X : Cx} {T : Tab} {E : XK} {CX : CXT} {k n : Nat} {C : Addr} {ps names : List Str} {x m : Str} {p pos apos : Pos} {o : Expr} {fo : Ev}
end
def flO : D → Option V
  | .non => some .non
  | .bl b => some (.bl b)
  | .int i => some (.int i)
  | .str x => some (.str x)
  | _ => none
def flOs : List D → Option (List V)
  | [] => some []
  | d :: ds => match flO d, flOs ds with
    | some v, some vs => some (v :: vs)
    | _, _ => none
def seqO : D → Option (List D)
  | .tup ds => some ds
  | .lst ds => some ds
  | _ => none
def inD (neg : Bool) (x y : D) : Option D := match flO x, (seqO y).bind flOs with
  | some v, some vs => some (.bl (if neg then !inV v vs else inV v vs))
  | _, _ => none
section
variable {X : Cx} {T : Tab} {K : Frag} {F : FS} {H : Hp}
theorem flO_ok {v u : V} {d : D} (r : Rep T K F H v d) (h : flO d = some u) : v = u ∧ flatV u = true := by
  cases r <;> first | (cases h; exact ⟨rfl, rfl⟩) | cases h
theorem flOs_ok : ∀ {vs us : List V} {ds : List D}, Reps T K F H vs ds → flOs ds = some us → vs = us ∧ us.all flatV = true
  | _, _, _, .nil, h => by cases h; exact ⟨rfl, rfl⟩
  | _, _, _, .cons (d := d) (ds := ds) r t, h => by
    unfold flOs at h
    split at h
    · rename_i u us h1 h2
      cases h
      obtain ⟨rfl, f1⟩ := flO_ok r h1
      obtain ⟨rfl, f2⟩ := flOs_ok t h2
      exact ⟨rfl, by simp [f1, f2]⟩
    · cases h
theorem rIn_of {neg : Bool} {x y : V} {Q : VK} (h : rD T K (inD neg) x y H Q) : rIn K neg x y H Q := by
  obtain ⟨F, dx, dy, d, wf, r1, r2, e, k⟩ := h
  unfold inD at e
  split at e
  · rename_i v vs h1 h2
    cases e
    obtain ⟨rfl, f1⟩ := flO_ok r1 h1
    cases hd : seqO dy with
    | none => rw [hd] at h2; cases h2
    | some ds =>
      rw [hd] at h2
      have h2 : flOs ds = some vs := h2
      unfold seqO at hd
      split at hd
      · cases hd
        cases r2 with
        | tup hq rr =>
          obtain ⟨rfl, f2⟩ := flOs_ok rr h2
          exact ⟨_, _, rfl, .inr hq, f1, f2, k _ H F (.refl wf) (.bl _)⟩
      · cases hd
        cases r2 with
        | lst hq rr =>
          obtain ⟨rfl, f2⟩ := flOs_ok rr h2
          exact ⟨_, _, rfl, .inl hq.sq, f1, f2, k _ H F (.refl wf) (.bl _)⟩
      · cases hd
  · cases e
theorem jp_in : JCmp X T .In (inD false) := ⟨OpR.imp op_in_seq fun x y H Q h => rIn_of h⟩
end
section
variable {P : Program} {w : World} {K : Frag} {mg : Str → Option Value} {base : Heap} {CX : CXT}
end
abbrev AllT (T : Tab) (p : Tab → Prop) : Prop := ∀ (φ : List Addr) (b : Bool), p { T with cl := φ, mt := b }
theorem ObC.tr {K : Frag} {mg : Str → Option Value} {T : Tab} {x : Str} {n : Nat} {names : List Str} {C : Addr} (h : ObC K mg T x n names C) (φ : List Addr) (b : Bool) (a : Option Addr) : ObC K mg { T with cl := φ, mt := b, hd := a } x n names C := ⟨h.mg, h.oc, h.cl, h.no, h.nd⟩
theorem IsExc.tr {K : Frag} {mg : Str → Option Value} {T : Tab} {x : Str} {n : Nat} (h : IsExc K mg T x n) (φ : List Addr) (b : Bool) (a : Option Addr) : IsExc K mg { T with cl := φ, mt := b, hd := a } x n := ⟨h.ex⟩
theorem IsTab.tr {T : Tab} (h : IsTab T) (φ : List Addr) (b : Bool) (a : Option Addr) : IsTab { T with cl := φ, mt := b, hd := a } := ⟨h.ex⟩
end BD
namespace BD
open PySem PySem.Spec L2 PySem.W PyProof.Rows
section
variable {P : Program} {w : World} {K : Frag} {mg : Str → Option Value} {base : Heap} {CX : CXT} {T : Tab} {x : Str} {ps : List Str} {k : Nat} {g : List D → Mem → Option (Out × Mem)}
theorem ClS.pure (hh : T.hd = none) (C : ClS P w K mg base CX T x ps k g) : AllT T fun T => Cl P w K mg base CX T x ps k (pSem g) := fun φ b => by
  obtain ⟨f, fd, G, h1, h2, h3⟩ := C
  have G' : FnOk P w K mg base CX k f fd ps (spM { T with cl := φ, mt := b } K g) := G
  exact ⟨f, fd, fnP_ok hh G', h1, h2, h3⟩
theorem ClSM.pure {C : Addr} {m : Str} (hh : T.hd = none) (M : ClSM P w K mg base CX T C m ps k g) : AllT T fun T => ClM P w K mg base CX T C m ps k (pSem g) := fun φ b => by
  obtain ⟨f, fd, G, h1, h2⟩ := M.ex
  have G' : FnOk P w K mg base CX k f fd ps (spM { T with cl := φ, mt := b } K g) := G
  exact ⟨f, fd, fnP_ok hh G', h1, h2⟩
end
end BD
namespace BD
open PySem PySem.Spec L2 PySem.W PyProof.Rows
end BD
namespace BD
open PySem PySem.Spec L2 PySem.W PyProof.Rows
section
variable {X : Cx} {T : Tab} {E : XK} {a : Expr} {fs : EvL} {p pos : Pos}
end
section
variable {prog : Program} {w : World} {A : Around} {E : Value → Shared → Prop} {s : Shared}
end
open AutoSeq1 (wpAny_loadPart') in
theorem new_enumZ (z TI TO : Addr) : Meets (Builtin.«enumerate.__new__» ⟨[.type "enumerate", .ref z], []⟩) (fun _ R s => IsZip s.heap z TI TO .none ∧ R (.ok (.ret (.ref s.heap.objs.size))) { s with heap := s.heap.push { cls := .type "enumerate", data := .fields #[.none, .bool false, .ref z, rawInt 0, .none, .none] } }) :=
  .of_wp fun prog w A R s h => by
    obtain ⟨hp, g, d, tk, os⟩ := s; obtain ⟨hz, h⟩ := h; have hsub := sub_enumerate
    have hZ : IsZip (Shared.heap ⟨hp, g, d, tk, os⟩) z TI TO .none := hz
    wp_walk using wpAny_loadPart' hz
    refine wpAny_stack_any fun st => wpAny_pure ?_
    split
    · rename_i c _ _ _ _ _
      cases (c == Value.type "enumerate")
      · wp_walk using wpAny_loadPart' hz, wpAny_pyIter_zip hZ
        exact ⟨_, rfl, h⟩
      · wp_walk using wpAny_loadPart' hz, wpAny_pyIter_zip hZ
        exact ⟨_, rfl, h⟩
    · wp_walk using wpAny_loadPart' hz, wpAny_pyIter_zip hZ
      exact ⟨_, rfl, h⟩
end BD
namespace L2
open PySem PySem.Spec PyProof.Rows
end L2
namespace BD
open PySem PySem.Spec L2 PySem.W PyProof.Rows
section
variable {X : Cx} {T : Tab} {E : XK} {a b : Expr} {fs : MEvL} {p pos p2 pos2 tpos : Pos} {elts : List Expr} {kk : Nat}
end
end BD
namespace BD
open PySem PySem.Spec L2 PySem.W PyProof.Rows
section
variable {X : Cx} {pins : List (Addr × Obj)} {σ : L2.St} {H : Hp} {s s' : Shared} {er cB : Value} {ts : Addr → TS} {i : Nat} {D : Ends} {x y : Str} {np hp : Pos} {b0 : Stmt} {su : List Stmt}
end
section
variable {X : Cx} {T : Tab} {E : XK} {i : Nat} {c : Expr} {x y : Str} {cB : Value} {np hp py ap pos : Pos} {fc : MEv} {su : MSv} {okn : Nat → Bool} {b0 : Stmt} {bs : List Stmt}
end
end BD
namespace BD
open PySem PySem.Spec L2 PySem.W PyProof.Rows
section
variable {T : Tab} {K : Frag} {F : FS} {H : Hp}
end
section
variable {X : Cx} {T : Tab} {E : XK} {a b e o tg : Expr} {fa fb f fo fe : Ev} {fs : EvL} {p p2 pos apos : Pos}
end
section
variable {X : Cx} {T : Tab} {E : XK}
inductive JEs (X : Cx) (T : Tab) (E : XK) : List Expr → List Ev → Prop
  | nil : JEs X T E [] []
  | cons {e : Expr} {f : Ev} {es : List Expr} {fs : List Ev} (h : JE X T E e f) (t : JEs X T E es fs) : JEs X T E (e :: es) (f :: fs)
end
end BD
namespace BD
open PySem PySem.Spec L2 PySem.W PyProof.Rows
section
variable {X : Cx} {T : Tab} {E : XK} {a b e o tg : Expr} {fa fb f fo fe : Ev} {fs : EvL} {p p2 pos px apos : Pos}
end
section
variable {X : Cx} {pins : List (Addr × Obj)} {σ : L2.St} {H : Hp} {s s' : Shared} {er cB : Value} {ts : Addr → TS} {i j : Nat} {D : Ends} {x y n : Str} {np hp : Pos} {b0 : Stmt} {su : List Stmt}
end
section
variable {X : Cx} {T : Tab} {E : XK} {i j : Nat} {c : Expr} {x y n : Str} {cB : Value} {np hp py ap pos : Pos} {fc : MEv} {su : MSv} {okn : Nat → Bool} {b0 : Stmt} {bs : List Stmt}
end
end BD
namespace BD
open PySem PySem.Spec L2 PySem.W PyProof.Rows
section
variable {X : Cx} {T : Tab} {E : XK} {pos px apos cpos pos' : Pos}
end
end BD
namespace BD
open PySem PySem.Spec L2 PySem.W PyProof.Rows
theorem ints_are : ∀ {ns : List Int} {its : List Value}, Vals (ns.map V.int) its → IntsAre its ns
  | [], _, .nil => .nil
  | n :: ns, _, .cons r t => by
    obtain ⟨tk, e⟩ := r
    subst e
    exact .cons n tk (ints_are t)
section
variable {X : Cx} {T : Tab} {E : XK} {a : Expr} {f : Ev} {p p2 pos pos2 : Pos}
end
end BD
namespace BD
open PySem PySem.Spec L2 PySem.W PyProof.Rows
section
variable {X : Cx} {T : Tab} {E : XK} {a b c : Expr} {x y z : Str} {pos : Pos}
variable {fs : MEvL}
variable {d : Expr} {u : Str}
variable {p : Pos}
end
end BD
namespace BD
open PySem PySem.Spec L2 PySem.W PyProof.Rows
section
variable {X : Cx} {T : Tab} {E E0 : XK} {elt iter iter1 tg1 : Expr} {ifs ifs1 : List Expr} {scope : Scope} {own : List (Str × Nat)} {pos spos tpos py : Pos} {fs fs1 : EvL} {gg : Gv} {q q1 fe : Ev} {vs1 ss : List Nat} {i i0 : Nat} {x0 y : Str}
end
end BD
namespace BD
open PySem PySem.Spec L2 PySem.W PyProof.Rows
section
variable {X : Cx}
end
section
variable {X : Cx} {T : Tab} {E : XK} {o e : Expr} {apos pos : Pos} {fo fe : Ev}
end
end BD
namespace BD
open PySem PySem.Spec L2 PySem.W PyProof.Rows
section
variable {T : Tab} {K : Frag}
end
section
variable {X : Cx} {T : Tab} {E : XK} {o i e : Expr} {es : List Expr} {pos pos' ppos : Pos} {fo fi fe : Ev} {fk : EvL}
end
end BD
namespace BD
open PySem PySem.Spec L2 PySem.W PyProof.Rows
section
variable {X : Cx} {T : Tab} {E : XK} {pos px apos cpos pos' spos kpos : Pos}
end
end BD
namespace BD
open PySem PySem.Spec L2 PySem.W PyProof.Rows
section
variable {X : Cx} {T : Tab} {E : XK} {l tg : Expr} {fo : MEv} {fb : MSv} {body : List Stmt} {pos p epos tpos : Pos} {elts : List Expr} {kk : Nat}
end
end BD
namespace BD
open PySem PySem.Spec L2 PySem.W PyProof.Rows
def mF0 (is : List Nat) (f : EvL) : MEv := fun ρ M => match f (seeR (see0 M 4) is 0 ρ) with
  | some (.vals ds) => if flatDs ds = true then some (.val (.lst ds), M) else none
  | some (.exc n) => some (.exc n, M)
  | none => none
theorem jm_fr0 {X : Cx} {T : Tab} {E : XK} {e : Expr} {f : EvL} {is : List Nat} (hT : IsTab T) (h : ∀ φ, JF X (T.ws φ) E e f) : JM X T E e (mF0 is f) := ⟨PE.imp (pf_ws h) fun σ H Q ⟨φ, c, ρ, M, F, W, G, out, M', r, ev, th⟩ => by
  have r1 := r.up (F1 := fun a => F a ∨ W a ≠ none) (fun _ h => .inl h) (fun _ h => h)
  have r2 := r1.upT.seeR (is := is) r.rel fun v d h => see0_rep (M := M) r.spl 4 h
  unfold mF0 at ev
  split at ev
  · rename_i ds q
    split at ev
    · rename_i hok
      cases ev
      refine ⟨φ, c, _, _, _, r2, q, fun p vs H1 H' F2 gr hp eH rp kd => ?_⟩
      subst eH
      have z := r.seen (fun _ h => .inl h) (fun _ h => h) gr
      have wp := fresh_w z.2 hp
      have kk : ∀ b, W b ≠ none → (∃ xs, (upd H1 p (.lst vs)) b = some (.lst xs)) ∨ ∃ C dx fs, (upd H1 p (.lst vs)) b = some (.ins C dx fs) := fun b w => by
        rw [upd_ne (fun y => by subst y; exact w wp)]
        exact kk_of r gr.ext b w
      have rp2 : Reps (T.wc φ) X.K (fun a => F2 a ∧ W a = none) (restr W (upd H1 p (.lst vs))) vs ds := Reps.flat (T := T.wc φ) kk rp hok
      have eG : restr W (upd H1 p (.lst vs)) = upd (restr W H1) p (.lst vs) := by
        funext b
        by_cases y : b = p
        · subst y; rw [restr_on wp, upd_same, upd_same]
        · rw [upd_ne y]; unfold restr; cases W b with
          | none => exact upd_ne y
          | some t => rfl
      rw [eG] at rp2
      have gn : restr W H1 p = none := by rw [restr_on wp]; exact hp
      have g2 : Grow (restr W H1) (upd (restr W H1) p (.lst vs)) (fun a => F2 a ∧ W a = none) (fun a => (F2 a ∧ W a = none) ∨ a = p) := Grow.updF z.1.gr.wf gn
      have s2 : Spl (T.wc φ) X.K (fun a => (F2 a ∧ W a = none) ∨ a = p) W M (upd (restr W H1) p (.lst vs)) (upd H1 p (.lst vs)) := z.2.keep g2.ext.keep g2.more (fun b w => upd_ne fun y => by subst y; exact w wp) (fun b w => by rw [upd_ne (fun y => by subst y; exact w wp)]; exact restr_off w) (fun b w => by
        by_cases y : b = p
        · subst y; rw [upd_same, upd_same]
        · rw [upd_ne y, upd_ne y]; exact restr_on w)
      exact th _ _ φ _ W _ (z.1.trans ⟨g2, List.prefix_refl _⟩) s2 (.lst (.inl ⟨.inr rfl, .inl upd_same⟩) (rp2.keep (fun _ _ e _ => e) g2.more))
    · cases ev
  · rename_i n q
    cases ev
    refine ⟨φ, c, _, _, _, r2, q, fun H' ex => ?_⟩
    obtain ⟨ev, sp⟩ := r.exc ex
    exact th H' φ F W _ ev sp
  · cases ev⟩
end BD
namespace BD
open PySem PySem.Spec L2 PySem.W PyProof.Rows
section
variable {X : Cx} {T : Tab} {E : XK} {o : Expr} {fo : MEv} {apos cpos kpos spos : Pos}
end
end BD
namespace BD
open PySem PySem.Spec L2 PySem.W PyProof.Rows
def insAt {α : Type} (xs : List α) (k : Nat) (y : α) : List α := xs.take k ++ y :: xs.drop k
theorem Reps.ins {T : Tab} {K : Frag} {F : Addr → Prop} {H : Hp} {vs : List V} {ds : List D} {v : V} {d : D} (h : Reps T K F H vs ds) (r : Rep T K F H v d) (k : Nat) : Reps T K F H (insAt vs k v) (insAt ds k d) := (h.take k).append (.cons r (h.drop k))
theorem Reps.eraseIdx {T : Tab} {K : Frag} {F : Addr → Prop} {H : Hp} {vs : List V} {ds : List D} (h : Reps T K F H vs ds) (k : Nat) : Reps T K F H (vs.eraseIdx k) (ds.eraseIdx k) := by
  rw [List.eraseIdx_eq_take_drop_succ, List.eraseIdx_eq_take_drop_succ]
  exact (h.take k).append (h.drop (k + 1))
section
variable {X : Cx} {T : Tab} {E : XK} {pos px apos cpos : Pos} {ek e : Expr} {fk fe : Ev}
end
end BD
namespace BD
open PySem PySem.Spec L2 PySem.W PyProof.Rows
section
variable {prog : Program} {w : World} {A : Around} {E : Value → Shared → Prop} {s : Shared}
end
end BD
namespace L2
open PySem PySem.Spec PyProof.Rows
section
variable {X : Cx} {pins : List (Addr × Obj)} {σ : St} {H : Hp} {s : Shared} {h' : Heap}
end
end L2
namespace L2
open PySem PySem.Spec PyProof.Rows
end L2
namespace BD
open PySem PySem.Spec L2 PySem.W PyProof.Rows
section
variable {X : Cx} {T : Tab} {E : XK} {a b : Expr} {fs : MEvL} {p pos p2 pos2 tpos : Pos} {elts : List Expr} {kk : Nat}
end
end BD
namespace BD
open PySem PySem.Spec L2 PySem.W PyProof.Rows
section
variable {X : Cx} {T : Tab} {E : XK} {CX : CXT} {k : Nat} {x m : Str} {names ps : List Str} {pos apos : Pos} {o e : Expr} {es : List Expr} {fo : MEv} {fs : MEvL}
theorem RM.updF {K : Frag} {φ : List Addr} {c : Ent} {ρ : Rho} {M : Mem} {σ : L2.St} {H : Hp} {F : FS} {W : Own} {G : Hp} {q : Addr} {u : HO} (r : RM T K φ c ρ M σ H F W G) (hp : H q = none) : Evo φ φ G (L2.upd G q u) F (fun a => F a ∨ a = q) ∧ Spl (T.wc φ) K (fun a => F a ∨ a = q) W M (L2.upd G q u) (L2.upd H q u) := by
  have wp := fresh_w r.spl hp
  have gn := r.spl.ext.none hp
  have gr : Grow G (L2.upd G q u) F (fun a => F a ∨ a = q) := Grow.updF r.rel.wf gn
  refine ⟨⟨gr, List.prefix_refl _⟩, r.spl.keep gr.ext.keep gr.more (fun a h => ?_) (fun a h => ?_) fun a h => ?_⟩
  · rw [upd_ne (fun z => by subst z; exact h wp)]
  · rw [upd_ne (fun z => by subst z; exact h wp)]; exact r.spl.off a h
  · by_cases z : a = q
    · subst z; rw [upd_same, upd_same]
    · rw [upd_ne z, upd_ne z]; exact r.spl.on a h
end
end BD
namespace BD
open PySem PySem.Spec L2 PySem.W PyProof.Rows
section
variable {X : Cx} {T : Tab} {E : XK} {px pos : Pos}
end
end BD
namespace BD
open PySem PySem.Spec L2 PySem.W PyProof.Rows
abbrev FnLM := List (Nat × (List D → Mem → Option (Out × Mem)))
section
variable {P : Program} {w : World} {K : Frag} {mg : Str → Option Value} {base : Heap} {CX : CXT} {T : Tab} {m : Str} {k : Nat} {gl : FnLM}
end
section
variable {X : Cx} {T : Tab} {E : XK} {CX : CXT} {k : Nat} {x m : Str} {names ps : List Str} {p p2 pos apos : Pos} {o e a : Expr} {es : List Expr} {f fo : MEv} {fs : MEvL}
end
end BD
namespace BD
open PySem PySem.Spec L2 PySem.W PyProof.Rows
section
variable {X : Cx} {T : Tab} {E : XK} {a b : Expr} {pos : Pos} {fa fb : MEv}
end
end BD
namespace BD
open PySem PySem.Spec L2 PySem.W PyProof.Rows
section
variable {X : Cx} {T : Tab} {E : XK} {pos px apos cpos p : Pos} {e : Expr} {f : EvL} {k : Nat} {ps : List Str} {CX : CXT}
end
end BD
namespace BD
open PySem PySem.Spec L2 PySem.W PyProof.Rows
section
variable {X : Cx} {T : Tab} {E : XK} {e ek o : Expr} {fo fk fe : MEv} {pos apos cpos : Pos}
end
end BD
namespace BD
open PySem PySem.Spec L2 PySem.W PyProof.Rows
abbrev TX := L2.St → Hp → (Hp → Prop) → XK → Prop
def PXs (X : Cx) (b : List Stmt) (t : TX) : Prop :=
  ∀ (pins : List (Addr × Obj)) (s : Shared) (σ : L2.St) (H : Hp) (Q : Hp → Prop) (EK : XK) (E' : Value → Shared → Prop), Inv X pins σ H s → t σ H Q EK →
    (∀ H1 s1 er s', Inv X pins σ H1 s1 → CXf X.prog X.w X.stack H1 s1 EK er s' → E' er s') → wpAny (model X.prog X.w) X.A (execs b X.env) (fun f s' => f = .next ∧ ∃ H', Inv X pins σ H' s' ∧ Q H') E' s
section
variable {X : Cx} {c : Expr} {b rest : List Stmt} {t t' tb tr : TX}
theorem PXs.imp (h : PXs X b t) (k : ∀ σ H Q EK, t' σ H Q EK → t σ H Q EK) : PXs X b t' := fun pins s σ H Q EK E' I z he => h pins s σ H Q EK E' I (k _ _ _ _ z) he
end
abbrev XSv := Rho → Mem → Option (Option Nat × Mem)
def ThenX (T : Tab) (K : Frag) (φ : List Addr) (M' : Mem) (G : Hp) (F : FS) (Q : Hp → Prop) (EK : XK) : Option Nat → Prop
  | none => ∀ H' φ' F' W' G', Evo φ φ' G G' F F' → Spl (T.wc φ') K F' W' M' G' H' → Q H'
  | some n => ∀ H' φ' F' W' G', Evo φ φ' G G' F F' → Spl (T.wc φ') K F' W' M' G' H' → EK (T.clsV n) none H'
theorem ThenX.evo {T : Tab} {K : Frag} {φ φ' : List Addr} {M' : Mem} {G G' : Hp} {F F' : FS} {Q : Hp → Prop} {EK : XK} {o : Option Nat} (e : Evo φ φ' G G' F F') (h : ThenX T K φ M' G F Q EK o) : ThenX T K φ' M' G' F' Q EK o := by
  cases o with
  | none => exact fun H' φ2 F2 W2 G2 e2 s => h H' φ2 F2 W2 G2 (e.trans e2) s
  | some n => exact fun H' φ2 F2 W2 G2 e2 s => h H' φ2 F2 W2 G2 (e.trans e2) s
def tX (T : Tab) (K : Frag) (f : XSv) : TX := fun σ H Q EK => ∃ φ c ρ M F W G o M', RM T K φ c ρ M σ H F W G ∧ f ρ M = some (o, M') ∧ ThenX T K φ M' G F Q EK o
structure JXs (X : Cx) (T : Tab) (b : List Stmt) (f : XSv) : Prop where h : PXs X b (tX T X.K f)
section
variable {X : Cx} {T : Tab} {c : Expr} {b rest : List Stmt} {fc q : MEv} {fb fr : XSv}
end
section
variable {X : Cx} {T : Tab} {E : XK} {b : List Stmt} {x : Str} {cB : Value} {np hp pos : Pos} {fb : XSv} {su : MSv} {okn : Nat → Bool} {b0 : Stmt} {bs : List Stmt}
end
end BD
namespace BD
open PySem PySem.Spec L2 PySem.W PyProof.Rows
section
variable {O : KeyOrd} {f : Nat → O.α} {n : Nat}
structure PB (n : Nat) (p : Array Nat) : Prop where
  pm : p.Perm (List.toArray (List.range n))
  pos : 0 < n
theorem PB.size {p : Array Nat} (h : PB n p) : p.size = n := by rw [h.pm.size_eq]; simp
theorem PB.lt {p : Array Nat} (h : PB n p) (i : Nat) : p.getD i 0 < n := by
  by_cases hi : i < p.size
  · have e : p.getD i 0 = p[i] := by simp [Array.getD, hi]
    rw [e]
    have : p[i] ∈ p.toList := by simp
    have := (Array.perm_iff_toList_perm.mp h.pm).mem_iff.mp this
    simpa using this
  · have e : p.getD i 0 = 0 := by simp [Array.getD, hi]
    rw [e]
    exact h.pos
end
end BD
namespace BD
open PySem PySem.Spec L2 PySem.W PyProof.Rows
theorem lexLt_irr : ∀ a : List Int, HT.lexLt a a = false
  | [] => rfl
  | x :: l => by rw [HT.lexLt_cons, if_pos rfl]; exact lexLt_irr l
theorem lexLt_tot : ∀ a b : List Int, HT.lexLt a b = false → HT.lexLt b a = false → a = b
  | [], [], _, _ => rfl
  | [], _ :: _, h, _ => by rw [HT.lexLt_nil_cons] at h; cases h
  | _ :: _, [], _, h => by rw [HT.lexLt_nil_cons] at h; cases h
  | x :: l, y :: m, h, k => by
    rw [HT.lexLt_cons] at h k
    by_cases e : x = y
    · subst e
      rw [if_pos rfl] at h k
      rw [lexLt_tot l m h k]
    · rw [if_neg e] at h
      rw [if_neg (fun z => e z.symm)] at k
      have h := of_decide_eq_false h
      have k := of_decide_eq_false k
      exact absurd (by omega) e
theorem lexLt_neg : ∀ a b c : List Int, HT.lexLt a c = true → HT.lexLt a b = true ∨ HT.lexLt b c = true
  | [], [], _, h => .inr h
  | [], _ :: _, _, _ => .inl rfl
  | _ :: _, _, [], h => by rw [HT.lexLt_cons_nil] at h; cases h
  | _ :: _, [], _ :: _, _ => .inr rfl
  | x :: l, y :: m, z :: n, h => by
    rw [HT.lexLt_cons] at h ⊢
    rw [HT.lexLt_cons]
    by_cases e : x = y
    · subst e
      rw [if_pos rfl]
      by_cases e2 : x = z
      · rw [if_pos e2] at h ⊢
        exact lexLt_neg l m n h
      · rw [if_neg e2] at h ⊢
        exact .inr h
    · rw [if_neg e]
      by_cases e1 : y = z
      · subst e1
        rw [if_neg e] at h
        exact .inl h
      · rw [if_neg e1]
        by_cases e2 : x = z
        · subst e2
          by_cases lt : x < y
          · exact .inl (decide_eq_true lt)
          · exact .inr (decide_eq_true (by omega))
        · rw [if_neg e2] at h
          have h := of_decide_eq_true h
          by_cases lt : x < y
          · exact .inl (decide_eq_true lt)
          · exact .inr (decide_eq_true (by omega))
theorem lexLt_tr : ∀ a b c : List Int, HT.lexLt a b = true → HT.lexLt b c = true → HT.lexLt a c = true
  | [], [], _, h, _ => by cases h
  | [], _ :: _, [], _, h => by cases h
  | [], _ :: _, _ :: _, _, _ => rfl
  | _ :: _, [], _, h, _ => by cases h
  | _ :: _, _ :: _, [], _, h => by cases h
  | x :: l, y :: m, z :: n, h, k => by
    rw [HT.lexLt_cons] at h k ⊢
    by_cases e : x = y
    · subst e
      rw [if_pos rfl] at h
      by_cases e2 : x = z
      · rw [if_pos e2] at k ⊢
        exact lexLt_tr l m n h k
      · rw [if_neg e2] at k ⊢
        exact k
    · rw [if_neg e] at h
      have h := of_decide_eq_true h
      by_cases e1 : y = z
      · subst e1
        rw [if_neg e]
        exact decide_eq_true h
      · rw [if_neg e1] at k
        have k := of_decide_eq_true k
        rw [if_neg (by omega)]
        exact decide_eq_true (by omega)
abbrev PK := List Int × List Int
def pLt (a b : PK) : Bool := if a.1 = b.1 then (if a.2 = b.2 then false else HT.lexLt a.2 b.2) else HT.lexLt a.1 b.1
theorem pLt_eq (a b : PK) : pLt a b = if a.1 = b.1 then HT.lexLt a.2 b.2 else HT.lexLt a.1 b.1 := by
  unfold pLt
  by_cases h : a.2 = b.2
  · rw [if_pos h, h, lexLt_irr]
  · rw [if_neg h]
def PO : KeyOrd where
  α := PK
  blt := pLt
  irrefl := fun a => by rw [pLt_eq, if_pos rfl]; exact lexLt_irr _
  trans := fun a b c h k => by
    rw [pLt_eq] at h k ⊢
    by_cases e : a.1 = b.1
    · rw [if_pos e] at h
      by_cases e2 : b.1 = c.1
      · rw [if_pos e2] at k
        rw [if_pos (e.trans e2)]
        exact lexLt_tr _ _ _ h k
      · rw [if_neg e2] at k
        rw [if_neg (fun z => e2 (e.symm.trans z)), e]
        exact k
    · rw [if_neg e] at h
      by_cases e2 : b.1 = c.1
      · rw [if_neg (fun z => e (z.trans e2.symm)), ← e2]
        exact h
      · rw [if_neg e2] at k
        have t := lexLt_tr _ _ _ h k
        by_cases e3 : a.1 = c.1
        · rw [e3, lexLt_irr] at t
          cases t
        · rw [if_neg e3]
          exact t
  negTrans := fun a b c h => by
    rw [pLt_eq] at h ⊢
    rw [pLt_eq]
    by_cases e : a.1 = b.1
    · rw [if_pos e]
      by_cases e2 : b.1 = c.1
      · rw [if_pos e2]
        rw [if_pos (e.trans e2)] at h
        exact lexLt_neg _ _ _ h
      · rw [if_neg e2]
        rw [if_neg (fun z => e2 (e.symm.trans z)), e] at h
        exact .inr h
    · rw [if_neg e]
      by_cases e2 : b.1 = c.1
      · rw [if_pos e2]
        rw [if_neg (fun z => e (z.trans e2.symm)), ← e2] at h
        exact .inl h
      · rw [if_neg e2]
        by_cases e3 : a.1 = c.1
        · cases q : HT.lexLt a.1 b.1 with
          | true => exact .inl rfl
          | false =>
            cases q2 : HT.lexLt b.1 c.1 with
            | true => exact .inr rfl
            | false =>
              rw [← e3] at q2
              exact absurd (lexLt_tot _ _ q q2) e
        · rw [if_neg e3] at h
          exact lexLt_neg _ _ _ h
  total := fun a b h k => by
    rw [pLt_eq] at h k
    by_cases e : a.1 = b.1
    · rw [if_pos e] at h
      rw [if_pos e.symm] at k
      exact Prod.ext e (lexLt_tot _ _ h k)
    · rw [if_neg e] at h
      rw [if_neg (fun z => e z.symm)] at k
      exact absurd (lexLt_tot _ _ h k) e
section
variable {prog : Program} {w : World} {A : Around} {E : Value → Shared → Prop} {s : Shared}
end
def pyP (k : PK) : PyData := .tuple [.tuple (k.1.map .int), .tuple (k.2.map .int)]
structure PPv (h : Heap) (v : Value) (k : PK) : Prop where
  r : ∃ (t x y : Addr) (o ox oy : Obj) (xs ys : Array Value) (n nx ny : Nat) (as bs : List Addr), v = .ref t ∧ h.get? t = some o ∧ o.cls = .type "tuple" ∧ o.data = .seq #[.ref x, .ref y] n ∧
    h.get? x = some ox ∧ ox.cls = .type "tuple" ∧ ox.data = .seq xs nx ∧ ReadsAll h xs.toList (k.1.map .int) as ∧ h.get? y = some oy ∧ oy.cls = .type "tuple" ∧ oy.data = .seq ys ny ∧ ReadsAll h ys.toList (k.2.map .int) bs
theorem PPv.of {h : Heap} {v : Value} {k : PK} {as : List Addr} (r : Reads h v (pyP k) as) : PPv h v k := by
  cases r with
  | tuple ho hc hd r =>
    rename_i t o vs n
    obtain ⟨vs⟩ := vs
    change ReadsAll h vs _ _ at r
    cases r with
    | cons r1 r2 =>
      cases r2 with
      | cons r2 r3 =>
        cases r3
        cases r1 with
        | tuple a1 a2 a3 a4 =>
          cases r2 with
          | tuple b1 b2 b3 b4 => exact ⟨_, _, _, _, _, _, _, _, _, _, _, _, _, rfl, ho, hc, hd, a1, a2, a3, a4, b1, b2, b3, b4⟩
theorem PPv.keeps {h h' : Heap} {v : Value} {k : PK} (hk : ∀ b o, h.get? b = some o → h'.get? b = some o) (p : PPv h v k) : PPv h' v k := by
  obtain ⟨t, x, y, o, ox, oy, xs, ys, n, nx, ny, as, bs, e, h1, h2, h3, h4, h5, h6, h7, h8, h9, h10, h11⟩ := p.r
  exact ⟨t, x, y, o, ox, oy, xs, ys, n, nx, ny, as, bs, e, hk _ _ h1, h2, h3, hk _ _ h4, h5, h6, ReadsAll.keeps hk h7, hk _ _ h8, h9, h10, ReadsAll.keeps hk h11⟩
def PPs (h : Heap) : List Value → List PK → Prop
  | [], [] => True
  | v :: vs, k :: ks => PPv h v k ∧ PPs h vs ks
  | _, _ => False
theorem PPs.length {h : Heap} : ∀ {vs : List Value} {ks : List PK}, PPs h vs ks → vs.length = ks.length
  | [], [], _ => rfl
  | [], _ :: _, h => h.elim
  | _ :: _, [], h => h.elim
  | _ :: _, _ :: _, h => by rw [List.length_cons, List.length_cons, PPs.length h.2]
theorem PPs.keeps {h h' : Heap} (hk : ∀ b o, h.get? b = some o → h'.get? b = some o) : ∀ {vs : List Value} {ks : List PK}, PPs h vs ks → PPs h' vs ks
  | [], [], _ => trivial
  | [], _ :: _, h => h.elim
  | _ :: _, [], h => h.elim
  | _ :: _, _ :: _, h => ⟨h.1.keeps hk, PPs.keeps hk h.2⟩
theorem PPs.at {h : Heap} : ∀ {vs : List Value} {ks : List PK}, PPs h vs ks → ∀ i, i < vs.length → PPv h (vs.getD i .none) (ks.getD i ([], []))
  | [], [], _, i, hi => absurd hi (Nat.not_lt_zero _)
  | [], _ :: _, h, _, _ => h.elim
  | _ :: _, [], h, _, _ => h.elim
  | v :: vs, k :: ks, h, 0, _ => h.1
  | v :: vs, k :: ks, h, i + 1, hi => PPs.at h.2 i (Nat.lt_of_succ_lt_succ hi)
theorem PPs.of {h : Heap} : ∀ {vs : List Value} {ks : List PK} {as : List Addr}, ReadsAll h vs (ks.map pyP) as → PPs h vs ks
  | [], [], _, _ => trivial
  | [], _ :: _, _, r => by cases r
  | _ :: _, [], _, r => by cases r
  | v :: vs, k :: ks, _, .cons r t => ⟨.of r, PPs.of t⟩
theorem PPs.tups {h : Heap} : ∀ {vs : List Value} {ks : List PK}, PPs h vs ks → ∃ fs, KatTups h vs fs ∧ fs.length = vs.length ∧ ∀ f ∈ fs, ∃ x o, f = .ref x ∧ h.get? x = some o ∧ o.cls = .type "tuple"
  | [], [], _ => ⟨[], trivial, rfl, fun _ h => by cases h⟩
  | [], _ :: _, h => h.elim
  | _ :: _, [], h => h.elim
  | v :: vs, k :: ks, h => by
    obtain ⟨fs, h1, h2, h3⟩ := PPs.tups h.2
    obtain ⟨t, x, y, o, ox, oy, xs, ys, n, nx, ny, as, bs, e, g1, g2, g3, g4, g5, _⟩ := h.1.r
    subst e
    refine ⟨.ref x :: fs, ⟨⟨t, o, _, n, rfl, g1, g2, g3, rfl⟩, h1⟩, by rw [List.length_cons, List.length_cons, h2], fun f hf => ?_⟩
    rcases List.mem_cons.mp hf with rfl | hf
    · exact ⟨x, ox, rfl, g4, g5⟩
    · exact h3 f hf
section
variable {prog : Program} {w : World} {A : Around} {E : Value → Shared → Prop} {s : Shared}
end
section
variable {X : Cx}
end
section
variable {X : Cx} {T : Tab} {E : XK} {a : Expr} {f : Ev} {p pos : Pos}
theorem Reps.atD {F : Addr → Prop} {H : Hp} : ∀ {vs : List V} {ds : List D}, Reps T X.K F H vs ds → ∀ i, i < vs.length → Rep T X.K F H (vs.getD i .non) (ds.getD i .non)
  | _, _, .nil, i, hi => absurd hi (Nat.not_lt_zero _)
  | _, _, .cons r t, 0, _ => r
  | _, _, .cons r t, i + 1, hi => Reps.atD t i (Nat.lt_of_succ_lt_succ hi)
theorem Reps.ix {F : Addr → Prop} {H : Hp} {vs : List V} {ds : List D} (r : Reps T X.K F H vs ds) : ∀ {L : List Nat}, (∀ i ∈ L, i < vs.length) → Reps T X.K F H (L.map fun i => vs.getD i .non) (L.map fun i => ds.getD i .non)
  | [], _ => .nil
  | i :: L, h => .cons (r.atD i (h i (List.mem_cons_self ..))) (r.ix fun j hj => h j (List.mem_cons_of_mem _ hj))
end
end BD
namespace BD
open PySem PySem.Spec L2 PySem.W PyProof.Rows
section
variable {X : Cx} {T : Tab} {E : XK} {a b : Expr} {fs : MEvL} {fb : MSv} {body : List Stmt} {pos p zpos tpos : Pos} {elts : List Expr} {kk : Nat}
end
end BD
namespace BD
open PySem PySem.Spec L2 PySem.W PyProof.Rows
section
variable {prog : Program} {w : World} {A : Around} {E : Value → Shared → Prop} {s : Shared}
end
section
variable {X : Cx} {tg : Expr}
end
section
variable {X : Cx}
end
section
variable {T : Tab} {K : PySem.W.Frag} {X : Cx} {E : XK} {a b c e l tg : Expr} {es rest : List Expr} {pos : Pos}
end
section
variable {X : Cx} {T : Tab} {E : XK} {a tg elt iter l : Expr} {ifs : List Expr} {pos p : Pos} {fs : EvL} {f q fe : Ev}
end
section
variable {X : Cx} {T : Tab} {E : XK} {k n : Nat} {C f : Addr} {fd : FuncData} {ps names : List Str} {sp : Sp} {x m : Str} {p pos apos : Pos} {e o : Expr} {es : List Expr} {t : TA} {ta : TE} {fo : Ev} {fs : EvL}
structure ClMQ (P : Program) (w : World) (K : Frag) (mg : Str → Option Value) (base : Heap) (T : Tab) (C : Addr) (m : Str) (ps : List Str) (k : Nat) (g : List D → Option Out) : Prop where
  ex : ∃ f fd, FnOkQ P w K mg base k f fd ps (spD T K g) ∧ Meth K C m f ∧ Binds K fd ps []
end
theorem QuietH.ext {A : Around} {H H' : Hp} (q : QuietH A H) (e : Ext H H') : QuietH A H' := by
  obtain ⟨a, oe, u, vs, h1, h2, h3, h4⟩ := q
  exact ⟨a, oe, u, vs, h1, e _ _ h2, h3, h4⟩
section
variable {X : Cx} {T : Tab} {E : XK} {k n : Nat} {C : Addr} {ps names : List Str} {x m : Str} {p pos apos : Pos} {o : Expr} {fo : Ev} {is : List Nat} {a : Addr}
end
section
variable {prog : Program} {w : World} {A : Around} {E : Value → Shared → Prop} {s : Shared}
theorem Quiet.lt {A : Around} {h : Heap} (q : Quiet A h) : ∀ e, A.handled = some (.ref e) → e < h.objs.size := fun e he => by
  rcases q with q | ⟨a, o, vs, q1, q2, _⟩
  · rw [q] at he; cases he
  · rw [q1] at he
    cases he
    exact Heap.lt_size q2
end
section
variable {X : Cx} {pos : Pos}
end
section
variable {X : Cx} {T : Tab} {E : XK} {a b : Expr} {fa fb : Ev} {es : List Expr} {pos : Pos}
end
end BD
namespace BD
open PySem PySem.Spec L2 PySem.W PyProof.Rows
section
variable {X : Cx} {T : Tab} {E : XK} {elt iter tg : Expr} {ifs : List Expr} {scope : Scope} {own : List (Str × Nat)} {f q fe : MEv} {gg : Gv} {ss : List Nat} {pos : Pos}
end
end BD
namespace BD
open PySem PySem.Spec L2 PySem.W PyProof.Rows PySem.Calls
theorem slot_setit_next : Slot "set_iterator" "__next__" "set_iterator.__next__" :=
  .of (owner := "set_iterator") (n := "__next__") (by rw [typeLookup_type, builtinLookup_eq_fast]; kernel_rfl) (by decide +kernel) (by decide +kernel) (by decide +kernel)
    (by first | exact .inl (by decide +kernel) | exact .inr (by decide +kernel)) (by rw [isSubtype_type]; kernel_rfl)
theorem slot_setit_iter : Slot "set_iterator" "__iter__" "set_iterator.__iter__" :=
  .of (owner := "set_iterator") (n := "__iter__") (by rw [typeLookup_type, builtinLookup_eq_fast]; kernel_rfl) (by decide +kernel) (by decide +kernel) (by decide +kernel)
    (by first | exact .inl (by decide +kernel) | exact .inr (by decide +kernel)) (by rw [isSubtype_type]; kernel_rfl)
theorem entry_setit_next : entryFor table "set_iterator.__next__" = some Builtin.«set_iterator.__next__» := entryFor_of_tree (by kernel_rfl)
theorem owner_setit : Manifest.owners.lookup (String.ofList ['r', 'o', 't', 'a', 'r', 'e', 't', 'i', '_', 't', 'e', 's'].reverse) = some Manifest.sig_set_iterator := by kernel_rfl
theorem args_setit_next (a : Value) : argsOk "set_iterator.__next__" ⟨[a], []⟩ := by
  unfold argsOk; rw [signature?_of (id := "set_iterator.__next__") (n := ['_', '_', 't', 'x', 'e', 'n', '_', '_']) (o := ['r', 'o', 't', 'a', 'r', 'e', 't', 'i', '_', 't', 'e', 's']) (by kernel_rfl) owner_setit]; kernel_rfl
theorem args_setit_iter (a : Value) : argsOk "set_iterator.__iter__" ⟨[a], []⟩ := by
  unfold argsOk; rw [signature?_of (id := "set_iterator.__iter__") (n := ['_', '_', 'r', 'e', 't', 'i', '_', '_']) (o := ['r', 'o', 't', 'a', 'r', 'e', 't', 'i', '_', 't', 'e', 's']) (by kernel_rfl) owner_setit]; kernel_rfl
theorem entry_set_iter' : entryFor table "set.__iter__" = some Builtin.«frozenset.__iter__» :=
  entryFor_alias (id' := "frozenset.__iter__") (by kernel_rfl) rfl (by decide +kernel) (by kernel_rfl)
end BD
namespace BD
open PySem PySem.Spec L2 PySem.W PyProof.Rows PySem.Calls
theorem entry_setit_iter : entryFor table "set_iterator.__iter__" = some Builtin.«dict_keyiterator.__iter__» :=
  entryFor_alias (id' := "dict_keyiterator.__iter__") (by kernel_rfl) rfl (by decide +kernel) (by kernel_rfl)
def SetY (h : Heap) (a : Addr) (es : Array (Int × Value)) (ep : Nat) (t : SetTable) : Prop := ∃ o, h.get? a = some o ∧ o.ExactSet ∧ o.data = .set es ep t ∧ t.fits es.size = true
def IsSetIter (h : Heap) (it a : Addr) (slot i n ep : Nat) : Prop := ∃ o, h.get? it = some o ∧ o.cls = .type "set_iterator" ∧ o.data = .fields #[.int slot 0, .int i 0, .ref a, .int n 0, .int ep 0]
theorem IsSetIter.typeIs {s : Shared} {it a : Addr} {slot i n ep : Nat} (x : IsSetIter s.heap it a slot i n ep) : s.TypeIs (.ref it) "set_iterator" := let ⟨o, ho, hc, _⟩ := x; ⟨o, ho, hc⟩
theorem IsSetIter.at' {h h' : Heap} {it a : Addr} {slot i n ep : Nat} (x : IsSetIter h it a slot i n ep) (e : ∀ o, h.get? it = some o → h'.get? it = some o) : IsSetIter h' it a slot i n ep := let ⟨o, ho, r⟩ := x; ⟨o, e _ ho, r⟩
theorem SetY.at' {h h' : Heap} {a : Addr} {es : Array (Int × Value)} {ep : Nat} {t : SetTable} (x : SetY h a es ep t) (e : ∀ o, h.get? a = some o → h'.get? a = some o) : SetY h' a es ep t := let ⟨o, ho, r⟩ := x; ⟨o, e _ ho, r⟩
theorem SetY.typeIs {s : Shared} {a : Addr} {es : Array (Int × Value)} {ep : Nat} {t : SetTable} (x : SetY s.heap a es ep t) : s.TypeIs (.ref a) "set" := let ⟨o, ho, hc, _⟩ := x; ⟨o, ho, hc.1⟩
section
variable {prog : Program} {w : World} {A : Around} {E : Value → Shared → Prop} {s : Shared}
theorem pyIter_setit {it a : Addr} {slot i n ep : Nat} {Q : Value → Shared → Prop} (hit : IsSetIter s.heap it a slot i n ep) (h : Q (.ref it) s) : wpAny (model prog w) A (pyIter (.ref it)) Q E s := by
  refine wpAny_pyIter_slot hit.typeIs slot_setit_iter (wpAny_call_entry slot_setit_iter hit.typeIs entry_setit_iter ?_ (args_setit_iter _))
  show wpAny _ _ (ret (.ref it)) _ _ s
  exact wpAny_pure ⟨_, rfl, "set_iterator", _, hit.typeIs, slot_setit_next.lookup, h⟩
theorem byText_at {Q : Bool → Shared → Prop} (h : Q (w.params.followText "set-order") s) : wpAny (model prog w) A setsByText Q E s := by
  unfold setsByText
  exact wpAny_bind (wpAny_askSetting (wpAny_pure h))
def nextE (w : World) (a : Addr) (es : Array (Int × Value)) (ep : Nat) (t : SetTable) (slot i : Nat) : Option (Value × Nat) :=
  if w.params.followText "set-order" then ((pickOrder (w.params.setOrder a ep) es)[i]?).map fun e => (e.2, slot)
  else match es[SetTable.below t.place slot]?, t.place[SetTable.below t.place slot]? with
    | some (_, x), some j => some (x, j + 1)
    | _, _ => none
theorem setWalk_text {a : Addr} {es : Array (Int × Value)} {ep : Nat} {t : SetTable} {Q : Array (Int × Value) → Shared → Prop} (hS : SetY s.heap a es ep t) (ht : w.params.followText "set-order" = true) (h : Q (pickOrder (w.params.setOrder a ep) es) s) : wpAny (model prog w) A (setWalk a) Q E s := by
  obtain ⟨o, ho, _, hd, hf⟩ := hS
  unfold setWalk
  refine wpAny_bind (wpAny_setState_of ho hd hf ?_)
  dsimp only
  refine wpAny_bind (byText_at ?_)
  rw [ht]
  simp only [if_true]
  exact wpAny_bind (wpAny_askSetting (wpAny_pure h))
theorem setNext_at {a : Addr} {es : Array (Int × Value)} {ep slot i : Nat} {t : SetTable} {Q : Option (Value × Nat) → Shared → Prop} (hS : SetY s.heap a es ep t) (hp : t.plain = true) (hl : t.led = !w.params.followText "set-order")
    (h : Q (nextE w a es ep t slot i) s) : wpAny (model prog w) A (setNext a slot i ep) Q E s := by
  obtain ⟨o, ho, _, hd, hf⟩ := id hS
  unfold setNext
  refine wpAny_bind (wpAny_setState_of ho hd hf ?_)
  dsimp only
  refine wpAny_bind (byText_at ?_)
  unfold nextE at h
  cases ht : w.params.followText "set-order" with
  | true =>
    rw [ht] at h
    simp only [if_true] at h ⊢
    rw [if_neg (by simp)]
    refine wpAny_bind (setWalk_text hS ht ?_)
    exact wpAny_pure h
  | false =>
    rw [ht] at h hl
    simp only [Bool.false_eq_true, if_false] at h ⊢
    have hdr : (!t.plain && decide (es.size > 1)) = false := by rw [hp]; rfl
    refine wpAny_ite_split (fun h' => absurd (show (!t.plain && decide (es.size > 1)) = true from h') (by rw [hdr]; decide)) (fun _ => ?_)
    refine wpAny_bind ?_
    show wpAny _ _ (if (!t.led && !es.isEmpty) = true then unsupported "set:maker-not-led" else pure ()) _ _ s
    rw [if_neg (by rw [hl]; simp)]
    refine wpAny_pure ?_
    refine wpAny_pure ?_
    exact h
theorem next_setit {it a : Addr} {es : Array (Int × Value)} {ep slot i slot' : Nat} {t : SetTable} {v : Value} {Q : Option Value → Shared → Prop} (hit : IsSetIter s.heap it a slot i es.size ep) (hS : SetY s.heap a es ep t) (hp : t.plain = true) (hl : t.led = !w.params.followText "set-order")
    (hx : nextE w a es ep t slot i = some (v, slot')) (hQ : ∀ h', IsSetIter h' it a slot' (i + 1) es.size ep → Heap.SameBut it s.heap h' → Q (some v) { s with heap := h' }) : wpAny (model prog w) A (pyNext (.ref it)) Q E s := by
  obtain ⟨o, ho, hc, hd⟩ := id hit
  obtain ⟨od, hod, hcd, hdd, hf⟩ := id hS
  unfold pyNext
  refine wpAny_bind (wpAny_attempt (wpAny_callSpecial?_slot (name := Str.ofString "__next__") hit.typeIs slot_setit_next
    (wpAny_call_entry slot_setit_next hit.typeIs entry_setit_next ?_ (args_setit_next _))))
  unfold Builtin.«set_iterator.__next__»
  refine wpAny_bind (m := slotArgs _ _ _) (wpAny_pure ?_)
  dsimp only
  refine wpAny_bind (wpAny_fieldsOf ho hd ?_)
  dsimp only
  refine wpAny_bind (wpAny_setEntries_of hod hdd hf ?_)
  rw [if_neg (by simp)]
  show wpAny _ _ (setNext a ((slot : Nat) : Int).toNat ((i : Nat) : Int).toNat ((ep : Nat) : Int).toNat >>= _) _ _ s
  rw [Int.toNat_natCast, Int.toNat_natCast, Int.toNat_natCast]
  refine wpAny_bind (setNext_at hS hp hl ?_)
  rw [hx]
  dsimp only
  refine wpAny_bind (wpAny_setField ho hd (by simp) ?_)
  have ho1 : (s.heap.update it (Obj.mapFields (·.setIfInBounds 0 (rawInt slot')))).get? it = some (o.mapFields (·.setIfInBounds 0 (rawInt slot'))) := Heap.get?_update_self _ ho (Obj.isFreed_of_fields (Obj.data_mapFields hd _))
  have hd1 := Obj.data_mapFields hd (·.setIfInBounds 0 (rawInt slot'))
  refine wpAny_bind (wpAny_setField ho1 hd1 (by simp) ?_)
  have ho2 : ((s.heap.update it (Obj.mapFields (·.setIfInBounds 0 (rawInt slot')))).update it (Obj.mapFields (·.setIfInBounds 1 (rawInt ((i : Int) + 1))))).get? it = some ((o.mapFields (·.setIfInBounds 0 (rawInt slot'))).mapFields (·.setIfInBounds 1 (rawInt ((i : Int) + 1)))) := Heap.get?_update_self _ ho1 (Obj.isFreed_of_fields (Obj.data_mapFields hd1 _))
  have hit' : IsSetIter ((s.heap.update it (Obj.mapFields (·.setIfInBounds 0 (rawInt slot')))).update it (Obj.mapFields (·.setIfInBounds 1 (rawInt ((i : Int) + 1))))) it a slot' (i + 1) es.size ep :=
    ⟨_, ho2, (Obj.cls_mapFields ..).trans ((Obj.cls_mapFields ..).trans hc), by rw [Obj.data_mapFields hd1]; simp [rawInt]⟩
  exact wpAny_pure ⟨_, rfl, wpAny_pure (hQ _ hit' ((Heap.SameBut.update ..).trans (Heap.SameBut.update ..)))⟩
theorem end_setit {it a : Addr} {es : Array (Int × Value)} {ep slot i : Nat} {t : SetTable} {Q : Option Value → Shared → Prop} (hh : A.handled = none) (hit : IsSetIter s.heap it a slot i es.size ep) (hS : SetY s.heap a es ep t) (hp : t.plain = true) (hl : t.led = !w.params.followText "set-order")
    (hx : nextE w a es ep t slot i = none) (hQ : ∀ h', Heap.ExtBut it s.heap h' → Q none { s with heap := h' }) : wpAny (model prog w) A (pyNext (.ref it)) Q E s := by
  obtain ⟨o, ho, hc, hd⟩ := id hit
  obtain ⟨od, hod, hcd, hdd, hf⟩ := id hS
  unfold pyNext
  refine wpAny_bind (wpAny_attempt (wpAny_callSpecial?_slot (name := Str.ofString "__next__") hit.typeIs slot_setit_next
    (wpAny_call_entry slot_setit_next hit.typeIs entry_setit_next ?_ (args_setit_next _))))
  unfold Builtin.«set_iterator.__next__»
  refine wpAny_bind (m := slotArgs _ _ _) (wpAny_pure ?_)
  dsimp only
  refine wpAny_bind (wpAny_fieldsOf ho hd ?_)
  dsimp only
  refine wpAny_bind (wpAny_setEntries_of hod hdd hf ?_)
  rw [if_neg (by simp)]
  show wpAny _ _ (setNext a ((slot : Nat) : Int).toNat ((i : Nat) : Int).toNat ((ep : Nat) : Int).toNat >>= _) _ _ s
  rw [Int.toNat_natCast, Int.toNat_natCast, Int.toNat_natCast]
  refine wpAny_bind (setNext_at hS hp hl ?_)
  rw [hx]
  dsimp only
  refine wpAny_bind (wpAny_setField ho hd (by simp) ?_)
  show wpAny _ _ (newExc (.type "StopIteration") [] >>= _) _ _ _
  refine wpAny_bind ?_
  simp only [newExc, newTuple]
  refine wpAny_bind (wpAny_newObj_type ?_ (by size_fits))
  refine wpAny_bind (m := firstArgMember _ _) (wpAny_of_eq (a := Value.none) (by first | rfl | (simp only [firstArgMember]; rfl)) ?_)
  refine wpAny_newObj_type ?_ (by size_fits)
  simp only [raiseNew]
  refine wpAny_bind (wpAny_handled ?_)
  rw [show A.in1.handled = none from hh]
  refine wpAny_bind (wpAny_pure (wpAny_throw ?_))
  refine wpAny_bind (wpAny_isInstance (T := "StopIteration") (b := true) ⟨_, Heap.get?_push_size _ rfl, rfl⟩ isSubtype_stop ?_)
  exact wpAny_pure (hQ _ (((Heap.SameBut.update ..).extBut.push _).push _))
structure WalkE (w : World) (a : Addr) (es : Array (Int × Value)) (ep : Nat) (t : SetTable) (order : List Value) (slotOf : Nat → Nat) : Prop where
  plain : t.plain = true
  led : t.led = !w.params.followText "set-order"
  len : order.length = es.size
  zero : slotOf 0 = 0
  step : ∀ i v, order[i]? = some v → nextE w a es ep t (slotOf i) i = some (v, slotOf (i + 1))
  stop : nextE w a es ep t (slotOf es.size) es.size = none
theorem walks_set (hh : A.handled = none) (I a : Addr) (hne : a ≠ I) {es : Array (Int × Value)} {ep : Nat} {t : SetTable} {order : List Value} {slotOf : Nat → Nat} (W : WalkE w a es ep t order slotOf) :
    Walks prog w A I [I, a] [I] es.size (fun i v => order[i]? = some v) (fun i h => IsSetIter h I a (slotOf i) i es.size ep ∧ SetY h a es ep t) where
  sub := fun b hb => by simp at hb; simp [hb]
  frame := fun _ _ _ st hk => ⟨st.1.at' fun o e => hk I (by simp) o e, st.2.at' fun o e => hk a (by simp) o e⟩
  item := fun i s Q E hi st hQ => by
    obtain ⟨v, hv⟩ : ∃ v, order[i]? = some v := ⟨order[i]'(by rw [W.len]; exact hi), by simp [W.len, hi]⟩
    refine next_setit st.1 st.2 W.plain W.led (W.step i v hv) fun h' hit' hs' => ?_
    exact hQ v h' s.toks hv ⟨hit', st.2.at' fun o e => by rw [hs'.2 a hne]; exact e⟩ fun b o hb e => by rw [hs'.2 b (fun h => hb (by simp [h]))]; exact e
  done := fun s Q E st hQ => end_setit hh st.1 st.2 W.plain W.led W.stop fun h' he' => hQ h' s.toks fun b o hb e => he' b o (fun h => hb (by simp [h])) e
  self := fun _ _ _ _ st hQ => pyIter_setit st.1 hQ
theorem pyIter_set {a : Addr} {es : Array (Int × Value)} {ep : Nat} {t : SetTable} {Q : Value → Shared → Prop} (hS : SetY s.heap a es ep t) (hp : t.plain = true)
    (hQ : Q (.ref s.heap.objs.size) { s with heap := s.heap.push { cls := .type "set_iterator", data := .fields #[.int 0 0, .int 0 0, .ref a, .int es.size 0, .int ep 0] } }) : wpAny (model prog w) A (pyIter (.ref a)) Q E s := by
  obtain ⟨o, ho, hc, hd, hf⟩ := id hS
  refine wpAny_pyIter_slot hS.typeIs PySem.F.slot_set_iter (wpAny_call_entry PySem.F.slot_set_iter hS.typeIs entry_set_iter' ?_ (PySem.F.args_set_iter_1 _))
  unfold Builtin.«frozenset.__iter__»
  refine wpAny_bind (m := Builtin.Frozenset.slot0 _ _) (wpAny_pure ?_)
  dsimp only
  refine wpAny_bind ?_
  unfold Builtin.Frozenset.sizeOf
  refine wpAny_bind (wpAny_setEntries_of ho hd hf (wpAny_pure ?_))
  refine wpAny_bind ?_
  unfold setDrawn
  refine wpAny_bind (wpAny_setState_of ho hd hf ?_)
  dsimp only
  refine wpAny_bind (byText_at (wpAny_pure ?_))
  have dr : (!t.plain && decide (es.size > 1)) = false := by rw [hp]; rfl
  refine wpAny_ite_split (fun h' => absurd (show (!w.params.followText "set-order" && (!t.plain && decide (es.size > 1))) = true from h') (by rw [dr, Bool.and_false]; decide)) fun _ => ?_
  refine wpAny_bind (wpAny_pure ?_)
  refine wpAny_bind (wpAny_setEpoch_of ho hd hf ?_)
  refine wpAny_bind ?_
  unfold newFields
  refine wpAny_newObj_type (wpAny_pure ⟨_, rfl, "set_iterator", _, ⟨_, Heap.get?_push_size _ rfl, rfl⟩, slot_setit_next.lookup, ?_⟩)
  simpa [rawInt] using hQ
theorem hint_set {r : Addr} {Q : Bool → Shared → Prop} (hT : s.TypeIs (.ref r) "set") (h : Q false s) : wpAny (model prog w) A (Builtin.List.listLengthHint (.ref r)) Q E s := by
  unfold Builtin.List.listLengthHint
  refine wpAny_bind (wpAny_specialOf hT PySem.F.slot_set_len.lookup ?_)
  generalize hid : ("set.__len__" : String) = id0
  wp_delta
  rw [show splitId id0 = some ("set", "__len__") from by subst hid; decide +kernel]
  subst hid
  refine wpAny_bind (wpAny_isInstance (T := "set") (b := true) hT (by rw [isSubtype_type]; kernel_rfl) ?_)
  refine wpAny_ite_split (fun hab => absurd hab (by decide)) (fun _ => ?_)
  refine wpAny_ite_split (fun _ => ?_) (fun hab => absurd (by decide +kernel) hab)
  refine wpAny_bind (wpAny_typeOf hT ?_)
  exact wpAny_pure h
end
theorem src_set {prog : Program} {w : World} {a : Addr} {es : Array (Int × Value)} {ep : Nat} {t : SetTable} {order : List Value} {slotOf : Nat → Nat} (W : WalkE w a es ep t order slotOf) :
    KdlSrc prog w "set" a a es.size (fun i v => order[i]? = some v) (fun h => SetY h a es ep t) where
  type := fun _ hm => hm.typeIs
  there := fun _ hm => ⟨let ⟨_, ho, _⟩ := hm; Heap.lt_size ho, let ⟨_, ho, _⟩ := hm; Heap.lt_size ho⟩
  keep := fun _ _ hm hk => hm.at' fun o e => hk a (.inl rfl) o e
  notList := by decide
  notTuple := by decide
  hint := fun _ _ _ _ hm hq => hint_set hm.typeIs hq
  iter := fun _ s hh hm => ⟨_, _, (fun _ _ hq => pyIter_set hm W.plain hq), walks_set hh _ a (let ⟨_, ho, _⟩ := hm; Nat.ne_of_lt (Heap.lt_size ho)) W, ⟨⟨_, Heap.get?_push_size _ rfl, rfl, by rw [W.zero]; rfl⟩, hm.at' fun o e => Heap.get?_push_of_some _ e⟩⟩
end BD
namespace BD
open PySem PySem.Spec L2 PySem.W PyProof.Rows PySem.Calls
def intV : Value → Option Int
  | .int n _ => some n
  | _ => none
def setF (e : Int × Value) : Int × Option Int := (e.1, intV e.2)
def keyF (k : Int) : Int × Option Int := (hashInt k, some k)
def EsOf (es : Array (Int × Value)) (ks : Array Int) : Prop := es.map setF = ks.map keyF
theorem EsOf.size {es : Array (Int × Value)} {ks : Array Int} (h : EsOf es ks) : es.size = ks.size := by
  have := congrArg Array.size h
  simpa using this
theorem EsOf.hashes {es : Array (Int × Value)} {ks : Array Int} (h : EsOf es ks) : es.map (·.1) = ks.map hashInt := by
  have := congrArg (Array.map Prod.fst) h
  simpa [setF, keyF, Function.comp_def] using this
theorem EsOf.mem {es : Array (Int × Value)} {ks : Array Int} (h : EsOf es ks) : ∀ e ∈ es.toList, ∃ k tk, k ∈ ks.toList ∧ e = (hashInt k, .int k tk) := fun e he => by
  have hm : setF e ∈ (es.map setF).toList := by rw [Array.toList_map]; exact List.mem_map_of_mem he
  rw [h, Array.toList_map] at hm
  obtain ⟨k, hk, e2⟩ := List.mem_map.mp hm
  obtain ⟨e1, v⟩ := e
  simp only [setF, keyF, Prod.mk.injEq] at e2
  obtain ⟨h1, h2⟩ := e2
  cases v with
  | int n tk =>
    simp only [intV, Option.some.injEq] at h2
    subst h2
    exact ⟨k, tk, hk, by rw [h1]⟩
  | _ => simp [intV] at h2
theorem EsOf.has {es : Array (Int × Value)} {ks : Array Int} (h : EsOf es ks) {k : Int} (hk : k ∈ ks.toList) : ∃ tk, (hashInt k, Value.int k tk) ∈ es.toList := by
  have hm : keyF k ∈ (ks.map keyF).toList := by rw [Array.toList_map]; exact List.mem_map_of_mem hk
  rw [← h, Array.toList_map] at hm
  obtain ⟨e, he, e2⟩ := List.mem_map.mp hm
  obtain ⟨k', tk, _, rfl⟩ := h.mem e he
  simp only [setF, keyF, intV, Prod.mk.injEq, Option.some.injEq] at e2
  obtain ⟨_, rfl⟩ := e2
  exact ⟨tk, he⟩
theorem EsOf.elems {prog : Program} {w : World} {es : Array (Int × Value)} {ks : Array Int} (h : EsOf es ks) : ElemsOf (intKind prog w) es.toList := fun e he => by
  obtain ⟨k, tk, _, rfl⟩ := h.mem e he
  exact ⟨⟨k, intKind_is _ _ _ _, rfl⟩, rfl⟩
theorem insertAt_map {α β : Type} (f : α → β) (xs : Array α) (p : Nat) (x : α) : (SetTable.insertAt xs p x).map f = SetTable.insertAt (xs.map f) p (f x) := by
  unfold SetTable.insertAt
  simp
theorem pick_map {α β : Type} (f : α → β) (xs : Array α) (order : Array Nat) : (order.filterMap (xs[·]?)).map f = order.filterMap ((xs.map f)[·]?) := by
  rw [Array.map_filterMap]
  congr 1
  funext i
  simp
def tsAdd (s : Array Int × SetTable) (k : Int) : Option (Array Int × SetTable) :=
  if s.1.toList.any (· == k) then some s else
  match s.2.freeSlot (hashInt k) with
  | none => none
  | some (slot, wd) =>
    if (s.2.put slot).1.fits (SetTable.insertAt s.1 (s.2.put slot).2 k).size && (s.2.put slot).1.plain then
      if !wd && (s.2.put slot).1.tooFull then
        match (s.2.put slot).1.relaid ((SetTable.insertAt s.1 (s.2.put slot).2 k).map hashInt) (SetTable.grown (SetTable.insertAt s.1 (s.2.put slot).2 k).size) with
        | some (t2, order) => if coversAll order (SetTable.insertAt s.1 (s.2.put slot).2 k).size && t2.fits (order.filterMap ((SetTable.insertAt s.1 (s.2.put slot).2 k)[·]?)).size && t2.plain then some (order.filterMap ((SetTable.insertAt s.1 (s.2.put slot).2 k)[·]?), t2) else none
        | none => none
      else some (SetTable.insertAt s.1 (s.2.put slot).2 k, (s.2.put slot).1)
    else none
theorem storeY {h : Heap} {a : Addr} {es es' : Array (Int × Value)} {ep : Nat} {t t' : SetTable} (hS : SetY h a es ep t) (hf : t'.fits es'.size = true) : SetY (h.update a (Obj.putSet es' t')) a es' (ep + 1) t' := by
  obtain ⟨o, ho, hex, hd, _⟩ := hS
  have := Heap.get?_update_self (Obj.putSet es' t') ho (by rw [putSet_of es' t' hd]; rfl)
  rw [putSet_of es' t' hd] at this
  exact ⟨_, this, hex, rfl, hf⟩
section
variable {prog : Program} {w : World} {A : Around} {E : Value → Shared → Prop} {s : Shared}
theorem addX {a : Addr} {es : Array (Int × Value)} {ep : Nat} {t : SetTable} {ks : Array Int} (hS : SetY s.heap a es ep t) (he : EsOf es ks) (hp : t.plain = true) (hb : es.size + 1 < scanBound) {k : Int} {tk : Tok} {ks' : Array Int} {t' : SetTable} (sim : tsAdd (ks, t) k = some (ks', t')) {Q : Bool → Shared → Prop}
    (h : ∀ (b : Bool) (h' : Heap) (es' : Array (Int × Value)) (ep' : Nat), Heap.SameBut a s.heap h' → SetY h' a es' ep' t' → EsOf es' ks' → t'.plain = true → es'.size ≤ es.size + 1 → Q b { s with heap := h' }) :
    wpAny (model prog w) A (setAddHashed a (.int k tk) (hashInt k)) Q E s := by
  obtain ⟨o, ho, hex, hd, hf⟩ := id hS
  have hel : ElemsOf (intKind prog w) es.toList := he.elems
  unfold setAddHashed setAddHashedIn
  refine wpAny_holding (wpAny_bind (wpAny_setState_of ho hd hf ?_))
  dsimp only
  rw [byScan_of (knd := intKind prog w) (x := .int k tk) rfl (by omega) hel]
  simp only [↓reduceIte]
  unfold setAddByScan
  refine wpAny_bind ?_
  refine wpAny_bind (wpAny_rule ?_)
  refine wpAny_bind (wpAny_setScan_of (knd := intKind prog w) (k := k) (intKind_is _ _ _ _) ho hd hf hel ?_)
  cases hr : List.findIdx? (fun e => (intKind prog w).is k e.2) es.toList with
  | some j =>
    dsimp only
    obtain ⟨hj, hpj, _⟩ := List.findIdx?_eq_some_iff_getElem.mp hr
    obtain ⟨k', tk', mk, e2⟩ := he.mem _ (List.getElem_mem hj)
    have ek : k' = k := by
      rw [e2] at hpj
      exact ((intKind prog w).inj _ _ _ hpj (intKind_is _ _ _ _)).symm
    have any : ks.toList.any (· == k) = true := List.any_eq_true.mpr ⟨k', mk, by simp [ek]⟩
    unfold tsAdd at sim
    rw [if_pos any] at sim
    cases sim
    refine wpAny_pure (wpAny_pure ?_)
    have := h false s.heap es ep (Heap.SameBut.refl a s.heap) hS he hp (by omega)
    exact this
  | none =>
    dsimp only
    have any : ks.toList.any (· == k) = false := by
      cases c : ks.toList.any (· == k) with
      | false => rfl
      | true =>
        obtain ⟨k', mk, e2⟩ := List.any_eq_true.mp c
        rw [beq_iff_eq] at e2
        subst e2
        obtain ⟨tk', me⟩ := he.has mk
        have := List.findIdx?_eq_none_iff.mp hr _ me
        rw [show (intKind prog w).is k' (Value.int k' tk') = true from intKind_is _ _ _ _] at this
        cases this
    unfold tsAdd at sim
    rw [any] at sim
    simp only [Bool.false_eq_true, if_false] at sim
    cases hfs : t.freeSlot (hashInt k) with
    | none => rw [hfs] at sim; cases sim
    | some sw =>
      obtain ⟨slot, wd⟩ := sw
      rw [hfs] at sim
      dsimp only at sim
      generalize hpt : t.put slot = tp at sim
      obtain ⟨t1, p⟩ := tp
      dsimp only at sim
      have he1 : EsOf (SetTable.insertAt es p (hashInt k, Value.int k tk)) (SetTable.insertAt ks p k) := by
        unfold EsOf at he ⊢
        rw [insertAt_map, insertAt_map, he]
        rfl
      have hsz1 := he1.size
      by_cases hg : (t1.fits (SetTable.insertAt ks p k).size && t1.plain) = true
      · rw [if_pos hg] at sim
        rw [Bool.and_eq_true] at hg
        have hf1 : t1.fits (SetTable.insertAt es p (hashInt k, Value.int k tk)).size = true := by rw [hsz1]; exact hg.1
        have hL : layNew t es (hashInt k) (Value.int k tk) = (SetTable.insertAt es p (hashInt k, Value.int k tk), t1, wd, false) := by
          unfold layNew
          rw [hfs]
          dsimp only
          rw [hpt]
          dsimp only
          unfold SetTable.orStandIn
          rw [if_pos hf1, hf1]
          rfl
        have hle : (SetTable.insertAt es p (hashInt k, Value.int k tk)).size ≤ es.size + 1 := by
          have := layNew_perm t es (hashInt k) (Value.int k tk)
          rw [hL] at this
          have := this.length_eq
          simp at this
          omega
        generalize hes1 : SetTable.insertAt es p (hashInt k, Value.int k tk) = es1 at *
        generalize hks1 : SetTable.insertAt ks p k = ks1 at *
        rw [hL]
        dsimp only
        refine wpAny_bind (wpAny_pure ?_)
        rw [hg.2]
        simp only [↓reduceIte]
        refine wpAny_bind ?_
        rw [hashByValue_scannable 8 (x := Value.int k tk) rfl]
        refine wpAny_pure ?_
        simp only [plainKind, ↓reduceIte]
        refine wpAny_bind (wpAny_storeSet_of ho hd ?_ (fits_of_scanBound (by omega)))
        have hS1 := storeY (es' := es1) hS hf1
        have hsb1 := Heap.SameBut.update s.heap a (Obj.putSet es1 t1)
        by_cases hw : (!wd && t1.tooFull) = true
        · rw [if_pos hw] at sim ⊢
          rw [← he1.hashes, ← hsz1] at sim
          cases hrl : t1.relaid (es1.map (·.1)) (SetTable.grown es1.size) with
          | none => rw [hrl] at sim; cases sim
          | some to =>
            obtain ⟨t2, order⟩ := to
            rw [hrl] at sim
            dsimp only at sim
            by_cases hg2 : (coversAll order es1.size && t2.fits (order.filterMap (ks1[·]?)).size && t2.plain) = true
            · rw [if_pos hg2] at sim
              cases sim
              rw [Bool.and_eq_true, Bool.and_eq_true] at hg2
              have he2 : EsOf (order.filterMap (es1[·]?)) (order.filterMap (ks1[·]?)) := by
                unfold EsOf at he1 ⊢
                rw [pick_map, pick_map, he1]
              have hf2 : t'.fits (order.filterMap (es1[·]?)).size = true := by rw [he2.size]; exact hg2.1.2
              have hR : relayAll t1 es1 (SetTable.grown es1.size) = (order.filterMap (es1[·]?), t', false) := by
                unfold relayAll
                rw [hrl]
                dsimp only
                rw [if_pos (by rw [Bool.and_eq_true]; exact ⟨hg2.1.1, hf2⟩)]
              have hle2 : (order.filterMap (es1[·]?)).size ≤ es1.size := by
                have := relayAll_perm t1 es1 (SetTable.grown es1.size)
                rw [hR] at this
                have := this.length_eq
                rw [Array.length_toList, Array.length_toList] at this
                exact Nat.le_of_eq this
              rw [hR]
              dsimp only
              refine wpAny_bind (wpAny_pure ?_)
              obtain ⟨o1, ho1, _, hd1, _⟩ := id hS1
              refine wpAny_bind (wpAny_storeSet_of ho1 hd1 ?_ (fits_of_scanBound (by omega)))
              refine wpAny_pure ?_
              dsimp only
              exact wpAny_pure (h true _ _ (ep + 1 + 1) (hsb1.trans (Heap.SameBut.update _ a _)) (storeY hS1 hf2) he2 hg2.2 (by omega))
            · rw [if_neg hg2] at sim
              cases sim
        · rw [if_neg hw] at sim ⊢
          cases sim
          refine wpAny_pure ?_
          dsimp only
          exact wpAny_pure (h true _ es1 (ep + 1) hsb1 hS1 he1 hg.2 hle)
      · rw [if_neg hg] at sim
        cases sim
end
end BD
namespace BD
open PySem PySem.Spec L2 PySem.W PyProof.Rows PySem.Calls
def tsFold : List Int → Array Int × SetTable → Option (Array Int × SetTable)
  | [], s => some s
  | k :: ks, s => match tsAdd s k with
    | some s' => tsFold ks s'
    | none => none
section
variable {prog : Program} {w : World} {A : Around} {R : Result → Shared → Prop} {I : Addr} {fp wr : List Addr} {G : Array GenState → Array GenState → Prop} {n : Nat} {P : Nat → Value → Prop} {St : Nat → Shared → Prop}
theorem set_loopX (W : WalksS prog w A.in1 I fp wr G n P St) (S : Addr) (hSf : S ∉ fp) (val : Nat → Int) (hval : ∀ i v, P i v → ∃ t, v = .int (val i) t) (hb : n + 1 < scanBound) {ks' : Array Int} {t' : SetTable} :
    ∀ (k i : Nat) (s : Shared) (es : Array (Int × Value)) (ep : Nat) (ks : Array Int) (t : SetTable), n - i = k → i ≤ n → St i s → SetY s.heap S es ep t → EsOf es ks → t.plain = true → es.size ≤ i →
      tsFold ((List.range' i (n - i)).map val) (ks, t) = some (ks', t') →
      (∀ s' es' ep', Moved (S :: wr) G s s' → SetY s'.heap S es' ep' t' → EsOf es' ks' → t'.plain = true → R (.ok (.ret .none)) s') →
      codeAny (model prog w) A (.builtin "set.update.loop" ⟨[.ref S, .ref I], []⟩) R s := by
  have hSw : S ∉ wr := fun h => hSf (W.sub _ h)
  have hsub : ∀ b ∈ wr, b ∈ S :: wr := fun b hb => List.mem_cons_of_mem _ hb
  intro k
  induction k with
  | zero =>
    intro i s es ep ks t hk hi hst hS he hp hz sim hR
    have hin : i = n := by omega
    subst hin
    rw [Nat.sub_self] at sim
    cases sim
    refine codeAny_builtin PyProof.Rows.F.entry_set_update_loop ?_
    rw [Around.under_plainId PyProof.Rows.F.plain_set_update_loop _]
    show wpAny _ A.in1 (pyNext (.ref I) >>= _) _ _ s
    refine wpAny_bind (W.done s _ _ hst fun s' hm => ?_)
    show wpAny _ A.in1 (ret Value.none) _ _ s'
    exact wpAny_pure (hR s' es ep (hm.mono hsub) (hS.at' fun o e => hm.heap S _ hSw e) he hp)
  | succ k ih =>
    intro i s es ep ks t hk hi hst hS he hp hz sim hR
    have hlt : i < n := by omega
    rw [show n - i = (n - (i + 1)) + 1 by omega, List.range'_succ, List.map_cons] at sim
    unfold tsFold at sim
    cases hadd : tsAdd (ks, t) (val i) with
    | none => rw [hadd] at sim; cases sim
    | some s1 =>
      obtain ⟨ks1, t1⟩ := s1
      rw [hadd] at sim
      dsimp only at sim
      refine codeAny_builtin PyProof.Rows.F.entry_set_update_loop ?_
      rw [Around.under_plainId PyProof.Rows.F.plain_set_update_loop _]
      show wpAny _ A.in1 (pyNext (.ref I) >>= _) _ _ s
      refine wpAny_bind (W.item i s _ _ hlt hst fun v s' hP hst' hm => ?_)
      obtain ⟨tk, rfl⟩ := hval i v hP
      have hS' : SetY s'.heap S es ep t := hS.at' fun o e => hm.heap S _ hSw e
      show wpAny _ A.in1 (holding [Value.int (val i) tk] (setAdd S (.int (val i) tk)) >>= _) _ _ s'
      refine wpAny_bind (wpAny_holding ?_)
      unfold setAdd
      refine wpAny_holding ?_
      refine wpAny_bind ((intKind prog w).pyHash (k := val i) (intKind_is _ _ _ _) ?_)
      refine addX (s := { s' with toks := s'.toks + 1 }) hS' he hp (by omega) hadd fun b h' es' ep' hsb hY hE hpl hle => ?_
      refine wpAny_pure ⟨plainId_quiet PyProof.Rows.F.plain_set_update_loop _, ih (i + 1) _ es' ep' ks1 t1 (by omega) hlt (W.frame _ s' _ _ hst' (Nat.le_succ _) fun b hb o e => ?_) hY hE hpl (by omega) sim fun s'' es'' ep'' hm'' hY'' hE'' hp'' => ?_⟩
      · rw [hsb.2 b (fun h : b = S => hSf (by rw [← h]; exact hb))]; exact e
      · refine hR s'' es'' ep'' (Moved.trans W.gtrans ((hm.mono hsub).then_heap (Nat.le_succ _) fun b o hb e => ?_) hm'') hY'' hE'' hp''
        rw [hsb.2 b (fun h : b = S => hb (by rw [h]; exact List.mem_cons_self))]; exact e
end
section
variable {prog : Program} {w : World} {A : Around} {E : Value → Shared → Prop} {s : Shared}
theorem set_newX (a : Value) {Q₁ : Value → Shared → Prop}
    (h : Q₁ (.ref s.heap.objs.size) { s with heap := s.heap.push { cls := .type "set", dict := none, data := .set #[] 0 (.fresh 0 0 (!w.params.followText "set-order")) } }) :
    codeAny (model prog w) A (.call (.builtin "set.__new__") ⟨[.type "set", a], []⟩) (wants Q₁ E) s := by
  refine codeAny_of_tree ?_
  show wpAny _ A.in1 (do checkBuiltinCall "set.__new__" ⟨[.type "set", a], []⟩; again (.builtin "set.__new__" ⟨[.type "set", a], []⟩)) _ _ s
  refine wpAny_bind (wpAny_of_eq (PySem.F.newCall_set_1 a) (wpAny_pure ⟨plainId_quiet PySem.F.plain_set_new _, codeAny_builtin PySem.F.entry_set_new ?_⟩))
  rw [Around.under_plainId PySem.F.plain_set_new _]
  unfold Builtin.«set.__new__» Builtin.Frozenset.newClass
  have hsub := sub_set_self
  obtain ⟨hp, g, d, tk, os⟩ := s
  dsimp only
  wp_walk
  refine wpAny_askSetting (wpAny_pure ?_)
  dsimp only
  simp only [newObj]
  refine wpAny_bind (wpAny_alloc (wpAny_pure ?_))
  exact wpAny_pure h
set_option maxHeartbeats 3200000 in
theorem call_setX {l : Addr} {items : Array Value} {ns : List Int} {ks' : Array Int} {t' : SetTable} {Q : Value → Shared → Prop} (hh : A.handled = none) (hl : s.heap.IsList l items) (hi : IntsAre items.toList ns) (hb : items.size + 1 < scanBound)
    (sim : tsFold ns (#[], .fresh 0 0 (!w.params.followText "set-order")) = some (ks', t'))
    (h : ∀ (h' : Heap) (tk : Nat) (es' : Array (Int × Value)) (ep' : Nat), SetY h' s.heap.objs.size es' ep' t' → EsOf es' ks' → t'.plain = true → (∀ b o, b < s.heap.objs.size → s.heap.get? b = some o → h'.get? b = some o) → Q (.ref s.heap.objs.size) { s with heap := h', toks := tk }) :
    wpAny (model prog w) A (call (.type "set") [.ref l]) Q E s := by
  generalize hled : (!w.params.followText "set-order") = led at sim
  obtain ⟨c, tl, hmro⟩ := PySem.F.called_set.mro
  have hmade := PySem.F.called_set.made
  have hsub := PySem.F.called_set.sub
  refine wpAny_call (codeAny_of_tree ?_)
  show wpAny _ _ (callAny (.type "set") _) _ _ _
  refine wpAny_pure ⟨Code.quiet_builtin _ (by decide +kernel), codeAny_builtin PySem.F.entry_type_call ?_⟩
  rw [Around.under_plain (weight_type_call_type "set" [.ref l] []) rfl]
  have h1 := PySem.F.called_set.notType
  have h2 := PySem.F.called_set.canCreate
  have hct := PySem.F.typeCall_set_1 (.ref l)
  repeat (any_goals (first | assumption | wp_step))
  refine codeAny_mono (set_newX (.ref l) (E := E) (Q₁ := fun obj s₁ => obj = .ref s.heap.objs.size ∧ s₁ = { s with heap := s.heap.push { cls := .type "set", dict := none, data := .set #[] 0 (.fresh 0 0 led) } }) (by rw [hled]; exact ⟨rfl, rfl⟩)) fun r s₁ hr => ?_
  cases r with
  | error e => exact hr
  | ok fl =>
    cases fl with
    | ret obj =>
      obtain ⟨rfl, rfl⟩ := hr
      have hS : (s.heap.push { cls := .type "set", dict := none, data := .set #[] 0 (.fresh 0 0 led) }).get? s.heap.objs.size = some { cls := .type "set", dict := none, data := .set #[] 0 (.fresh 0 0 led) } := Heap.get?_push_size _ rfl
      have hT : Shared.TypeIs { s with heap := s.heap.push { cls := .type "set", dict := none, data := .set #[] 0 (.fresh 0 0 led) } } (.ref s.heap.objs.size) "set" := ⟨_, hS, rfl⟩
      have hli := PySem.F.called_set.init.lookup
      have hbi := PySem.F.called_set.init.bind (.ref s.heap.objs.size)
      repeat (any_goals (first | assumption | wp_step))
      refine codeAny_mono (codeAny_call_builtin (R := wants (fun r s₂ => r = .none ∧ ∃ h' tk es' ep', s₂ = { s with heap := h', toks := tk } ∧ SetY h' s.heap.objs.size es' ep' t' ∧ EsOf es' ks' ∧ t'.plain = true ∧
          (∀ b o, b < s.heap.objs.size → s.heap.get? b = some o → h'.get? b = some o)) E) PySem.F.called_set.init.plain PySem.F.entry_set_init (check_set_init_1 hT ?_)) fun r₂ s₂ hr₂ => ?_
      · obtain ⟨ol, hol, hcl, nl, hdl⟩ := hl
        obtain ⟨ocls, odict, odata, oslots⟩ := ol
        simp only at hcl hdl
        subst hcl; subst hdl
        have hol' : (s.heap.push { cls := .type "set", dict := none, data := .set #[] 0 (.fresh 0 0 led) }).get? l = some { cls := .type "list", dict := odict, data := .seq items nl, slots := oslots } := Heap.get?_push_of_some _ hol
        have hsls := PySem.F.sub_list_set
        have hslf := PySem.F.sub_list_frozenset
        have hne : (Value.type "list" == Value.type "dict") = false := by decide
        have hl1 : (s.heap.push { cls := .type "set", dict := none, data := .set #[] 0 (.fresh 0 0 led) }).IsList l items := ⟨_, hol', rfl, nl, rfl⟩
        unfold Builtin.«set.__init__» noKeywords Builtin.Frozenset.updateFrom
        generalize hPI : pyIter = PI
        wp_walk
        subst hPI
        refine wpAny_pyIter_list hl1 ?_
        refine wpAny_bind (wpAny_runValue ?_)
        have hlS : l < s.heap.objs.size := Heap.lt_size hol
        have hh3 : A.in1.in1.in1.handled = none := by simp [hh]
        have hneI : l ≠ (s.heap.push { cls := .type "set", dict := none, data := .set #[] 0 (.fresh 0 0 led) }).objs.size := by
          rw [Heap.size_push]; exact Nat.ne_of_lt (Nat.lt_succ_of_lt hlS)
        have hSf : s.heap.objs.size ∉ [(s.heap.push { cls := .type "set", dict := none, data := .set #[] 0 (.fresh 0 0 led) }).objs.size, l] := by
          rw [Heap.size_push]; simp only [List.mem_cons, List.mem_singleton, List.not_mem_nil, or_false, not_or]
          exact ⟨Nat.ne_of_lt (Nat.lt_succ_self _), Nat.ne_of_gt hlS⟩
        have hval : ∀ (i : Nat) (v : Value), items[i]? = some v → ∃ t, v = .int ((fun i => ns.getD i 0) i) t := fun i v hv =>
          PyProof.Rows.IntsAre.int_at hi i v (by rw [Array.getElem?_toList]; exact hv)
        have hln : items.size = ns.length := by rw [← Array.length_toList]; exact IntsAre.length hi
        have sim' : tsFold ((List.range' 0 (items.size - 0)).map fun i => ns.getD i 0) (#[], .fresh 0 0 led) = some (ks', t') := by
          have e : ((List.range' 0 (items.size - 0)).map fun i => ns.getD i 0) = ns := by
            refine List.ext_getElem? fun i => ?_
            rw [List.getElem?_map, hln, Nat.sub_zero]
            by_cases c : i < ns.length
            · rw [List.getElem?_range' c, Option.map_some, List.getD_eq_getElem?_getD, show 0 + 1 * i = i by omega, List.getElem?_eq_getElem c]
              rfl
            · rw [List.getElem?_eq_none (by simp; omega), List.getElem?_eq_none (by omega)]
              rfl
          rw [e]
          exact sim
        refine set_loopX ((Walks.list hh3 _ l hneI items).toS) s.heap.objs.size hSf (fun i => ns.getD i 0) hval hb (items.size - 0) 0 _ #[] 0 #[] (.fresh 0 0 led) (by omega) (Nat.zero_le _)
          ⟨⟨_, Heap.get?_push_size _ rfl, rfl, rfl⟩, (hl1.push _)⟩ ?hS0 (by unfold EsOf; simp) rfl (Nat.zero_le _) sim' ?hR
        case hS0 =>
          exact ⟨_, Heap.get?_push_of_some _ hS, ⟨rfl, rfl, rfl⟩, rfl, rfl⟩
        case hR =>
          intro s' es' ep' hm hY hE hpl
          obtain ⟨h', g', d', tk', os'⟩ := s'
          have eg : g' = s.gens := hm.gens
          have ed : d' = s.drawn := hm.drawn
          have eo : os' = s.os := hm.os
          subst eg; subst ed; subst eo
          show wpAny _ _ _ _ _ _
          refine wpAny_pure ?_
          show wpAny _ _ (ret Value.none) _ _ _
          refine wpAny_pure ⟨rfl, h', tk', es', ep', rfl, hY, hE, hpl, fun b o hb e => ?_⟩
          have hb1 : b ≠ s.heap.objs.size := Nat.ne_of_lt hb
          have hb2 : b ≠ (s.heap.push { cls := .type "set", dict := none, data := .set #[] 0 (.fresh 0 0 led) }).objs.size := by
            rw [Heap.size_push]; exact Nat.ne_of_lt (Nat.lt_succ_of_lt hb)
          exact hm.heap b o (by simp only [List.mem_cons, List.mem_singleton, List.not_mem_nil, or_false, not_or]; exact ⟨hb1, hb2⟩) (Heap.get?_push_of_some _ (Heap.get?_push_of_some _ e))
      · cases r₂ with
        | error e => exact hr₂
        | ok fl₂ =>
          cases fl₂ with
          | ret r =>
            obtain ⟨rfl, h', tk, es', ep', rfl, hY, hE, hpl, hk'⟩ := hr₂
            repeat (any_goals (first | assumption | wp_step))
            exact h _ _ _ _ hY hE hpl hk'
          | _ => exact hr₂.elim
    | _ => exact hr.elim
end
end BD
namespace BD
open PySem PySem.Spec L2 PySem.W PyProof.Rows PySem.Calls
def insI (k : Int) : List Int → List Int
  | [] => [k]
  | x :: l => if k ≤ x then k :: x :: l else x :: insI k l
def sortI : List Int → List Int
  | [] => []
  | k :: l => insI k (sortI l)
theorem insI_perm (k : Int) : ∀ l : List Int, (insI k l).Perm (k :: l)
  | [] => .refl _
  | x :: l => by
    unfold insI
    split
    · exact .refl _
    · exact ((insI_perm k l).cons x).trans (.swap k x l)
theorem sortI_perm : ∀ l : List Int, (sortI l).Perm l
  | [] => .refl _
  | k :: l => (insI_perm k (sortI l)).trans ((sortI_perm l).cons k)
theorem insI_up {k : Int} : ∀ {l : List Int}, l.Pairwise (· ≤ ·) → (insI k l).Pairwise (· ≤ ·)
  | [], _ => by simp [insI]
  | x :: l, h => by
    rw [List.pairwise_cons] at h
    unfold insI
    split
    · rename_i c
      rw [List.pairwise_cons]
      refine ⟨fun y hy => ?_, List.pairwise_cons.mpr h⟩
      rcases List.mem_cons.mp hy with rfl | hy
      · exact c
      · have := h.1 y hy; omega
    · rename_i c
      rw [List.pairwise_cons]
      refine ⟨fun y hy => ?_, insI_up h.2⟩
      rcases List.mem_cons.mp ((insI_perm k l).mem_iff.mp hy) with rfl | hy
      · omega
      · exact h.1 y hy
theorem sortI_up : ∀ l : List Int, (sortI l).Pairwise (· ≤ ·)
  | [] => .nil
  | k :: l => insI_up (sortI_up l)
theorem up_unique : ∀ {l m : List Int}, l.Perm m → l.Pairwise (· ≤ ·) → m.Pairwise (· ≤ ·) → l = m
  | [], m, p, _, _ => by rw [p.nil_eq]
  | x :: l, m, p, hl, hm => by
    cases m with
    | nil => exact absurd p.length_eq (by simp)
    | cons y m =>
      have hx := List.pairwise_cons.mp hl
      have hy := List.pairwise_cons.mp hm
      have e : x = y := by
        have h1 : x ∈ y :: m := p.mem_iff.mp (List.mem_cons_self ..)
        have h2 : y ∈ x :: l := p.mem_iff.mpr (List.mem_cons_self ..)
        rcases List.mem_cons.mp h1 with e | h1
        · exact e
        · rcases List.mem_cons.mp h2 with e | h2
          · exact e.symm
          · have := hy.1 x h1
            have := hx.1 y h2
            omega
      subst e
      rw [up_unique ((List.perm_cons x).mp p) hx.2 hy.2]
theorem sortI_eq {l m : List Int} (p : l.Perm m) (h : l.Pairwise (· ≤ ·)) : l = sortI m := up_unique (p.trans (sortI_perm m).symm) h (sortI_up m)
def slotN (t : SetTable) (i : Nat) : Nat := if i = 0 then 0 else t.place.getD (i - 1) 0 + 1
def walkB (t : SetTable) (n : Nat) : Bool := t.place.size == n && (List.range (n + 1)).all fun i => SetTable.below t.place (slotN t i) == i
def setSort (led : Bool) (ns : List Int) : Option (List Int) := match tsFold ns (#[], .fresh 0 0 led) with
  | some (ks, t) => if t.led == led && (!led || walkB t ks.size) then some (sortI ks.toList) else none
  | none => none
theorem erase_perm {α : Type} : ∀ (l : List α) (i : Nat) (h : i < l.length), (l[i] :: l.eraseIdx i).Perm l
  | a :: l, 0, _ => .refl _
  | a :: l, i + 1, h => by
    have := erase_perm l i (by simp at h; omega)
    simp only [List.getElem_cons_succ, List.eraseIdx_cons_succ]
    exact (List.Perm.swap a _ _).trans (this.cons a)
theorem go_perm {α : Type} (next : Nat → Nat) : ∀ (f k : Nat) (left : List α) (out : Array α), left.length ≤ f → (pickOrder.go next f k left out).toList.Perm (out.toList ++ left)
  | 0, k, left, out, h => by
    have : left = [] := List.eq_nil_of_length_eq_zero (by omega)
    subst this
    unfold pickOrder.go
    simp
  | f + 1, k, left, out, h => by
    unfold pickOrder.go
    cases left with
    | nil => simp
    | cons a l =>
      have lt : next k % (a :: l).length < (a :: l).length := Nat.mod_lt _ (by simp)
      rw [List.getElem?_eq_getElem lt]
      dsimp only
      have len : ((a :: l).eraseIdx (next k % (a :: l).length)).length ≤ f := by
        rw [List.length_eraseIdx, if_pos lt]
        simp at h ⊢
        omega
      refine (go_perm next f (k + 1) _ _ len).trans ?_
      rw [Array.toList_push, List.append_assoc]
      refine List.Perm.append_left _ ?_
      exact erase_perm _ (next k % (a :: l).length) lt
theorem pick_perm {α : Type} (next : Nat → Nat) (xs : Array α) : (pickOrder next xs).toList.Perm xs.toList := by
  unfold pickOrder
  exact (go_perm next xs.size 0 xs.toList #[] (by simp)).trans (by simp)
theorem intv_ints : ∀ {vs : List Value} {ns : List Int}, vs.map intV = ns.map some → IntsAre vs ns
  | [], [], _ => .nil
  | [], n :: ns, h => by simp at h
  | v :: vs, [], h => by simp at h
  | v :: vs, n :: ns, h => by
    simp only [List.map_cons, List.cons.injEq] at h
    cases v with
    | int m tk =>
      have e : m = n := Option.some.inj h.1
      subst e
      exact .cons m tk (intv_ints h.2)
    | _ => simp [intV] at h
theorem ints_of {vs : List Value} (h : ∀ v ∈ vs, ∃ k tk, v = Value.int k tk) : vs.map intV = (vs.map fun v => (intV v).getD 0).map some := by
  rw [List.map_map]
  refine List.map_congr_left fun v hv => ?_
  obtain ⟨k, tk, rfl⟩ := h v hv
  rfl
theorem EsOf.vals {es : Array (Int × Value)} {ks : Array Int} (h : EsOf es ks) : (es.toList.map fun e => (intV e.2).getD 0) = ks.toList := by
  have := congrArg (fun x => x.toList.map fun (e : Int × Option Int) => e.2.getD 0) h
  simp only [Array.toList_map, List.map_map] at this
  simpa [Function.comp_def, setF, keyF] using this
section
variable {prog : Program} {w : World} {A : Around} {E : Value → Shared → Prop} {s : Shared}
theorem walk_is {a : Addr} {es : Array (Int × Value)} {ep : Nat} {t : SetTable} (hp : t.plain = true) (hl : t.led = !w.params.followText "set-order") (hw : w.params.followText "set-order" = false → walkB t es.size = true) :
    ∃ order slotOf, WalkE w a es ep t order slotOf ∧ order.Perm (es.toList.map (·.2)) := by
  cases ht : w.params.followText "set-order" with
  | true =>
    refine ⟨(pickOrder (w.params.setOrder a ep) es).toList.map (·.2), fun _ => 0, ⟨hp, hl, ?_, rfl, fun i v hv => ?_, ?_⟩, (pick_perm _ _).map _⟩
    · rw [List.length_map, (pick_perm _ _).length_eq, Array.length_toList]
    · unfold nextE
      rw [if_pos ht]
      rw [List.getElem?_map, Array.getElem?_toList] at hv
      cases c : (pickOrder (w.params.setOrder a ep) es)[i]? with
      | none => rw [c] at hv; cases hv
      | some e => rw [c] at hv; cases hv; rfl
    · unfold nextE
      rw [if_pos ht]
      have : (pickOrder (w.params.setOrder a ep) es).size = es.size := by rw [← Array.length_toList, (pick_perm _ _).length_eq, Array.length_toList]
      rw [Array.getElem?_eq_none (by omega)]
      rfl
  | false =>
    have hw := hw ht
    unfold walkB at hw
    rw [Bool.and_eq_true, beq_iff_eq, List.all_eq_true] at hw
    obtain ⟨h1, h2⟩ := hw
    have at' : ∀ i, i ≤ es.size → SetTable.below t.place (slotN t i) = i := fun i hi => by
      have := h2 i (List.mem_range.mpr (by omega))
      exact beq_iff_eq.mp this
    refine ⟨es.toList.map (·.2), slotN t, ⟨hp, hl, by rw [List.length_map, Array.length_toList], rfl, fun i v hv => ?_, ?_⟩, .refl _⟩
    · rw [List.getElem?_map, Array.getElem?_toList] at hv
      have hi : i < es.size := by
        apply Classical.byContradiction
        intro z
        rw [Array.getElem?_eq_none (by omega)] at hv
        cases hv
      unfold nextE
      rw [if_neg (by rw [ht]; decide), at' i (by omega)]
      rw [Array.getElem?_eq_getElem hi] at hv ⊢
      rw [Array.getElem?_eq_getElem (show i < t.place.size by omega)]
      cases hv
      simp [slotN, Array.getD_eq_getD_getElem?, show i < t.place.size by omega]
    · unfold nextE
      rw [if_neg (by rw [ht]; decide), at' es.size (Nat.le_refl _), Array.getElem?_eq_none (Nat.le_refl _)]
theorem collect_src {T : String} {r d : Addr} {n : Nat} {P : Nat → Value → Prop} {OK : Heap → Prop} {R : List Value → Shared → Prop} (K : KdlSrc prog w T r d n P OK) (hh : A.handled = none) (hok : OK s.heap) (hn : n ≤ sizeLine)
    (h : ∀ (h' : Heap) (tk : Nat) (acc : Array Value), s.heap.objs.size ≤ h'.objs.size → (∀ b o, s.heap.get? b = some o → h'.get? b = some o) → ItemsOf P acc n → R acc.toList { s with heap := h', toks := tk }) :
    wpAny (model prog w) A (collect (.ref r)) R E s := by
  have there := K.there _ hok
  unfold collect
  refine wpAny_bind (wpAny_runValue (codeAny_builtin entry_proto_collect' ?_))
  rw [Around.under_plainId PySem.F.plain_proto_collect _]
  show wpAny _ A.in1 (newList [] >>= fun l => again (.builtin "list.__iadd__" ⟨[l, .ref r], []⟩)) _ _ s
  refine wpAny_bind (wpAny_newObj_type (wpAny_pure ⟨plainId_quiet PySem.F.plain_list_iadd _, codeAny_builtin entry_list_iadd' ?_⟩))
  rw [Around.under_plainId PySem.F.plain_list_iadd _]
  have hS : (s.heap.push { cls := .type "list", data := .seq ([] : List Value).toArray }).get? s.heap.objs.size = some { cls := .type "list", data := .seq #[] } := Heap.get?_push_size _ rfl
  show wpAny _ A.in1 (Builtin.List.listExtendWith (.ref s.heap.objs.size) (.ref r) (.ref s.heap.objs.size)) _ _ _
  have ext := kdl_extend (A := A) (s := { s with heap := s.heap.push { cls := .type "list", data := .seq ([] : List Value).toArray } })
    (R := fun (q : Result) (s' : Shared) => ∃ (h' : Heap) (tk : Nat) (acc : Array Value) (c : Nat), q = .ok (.ret (.ref s.heap.objs.size)) ∧ s' = { s with heap := h', toks := tk } ∧ (∀ b o, s.heap.get? b = some o → h'.get? b = some o) ∧ h'.get? s.heap.objs.size = some { cls := .type "list", dict := none, data := .seq acc c, slots := #[] } ∧ ItemsOf P acc n)
    K hh (K.keep _ _ hok fun b _ o e => Heap.get?_push_of_some _ e) s.heap.objs.size (Nat.ne_of_gt there.1) (Nat.ne_of_gt there.2) (.ref s.heap.objs.size) 0 hS
    (fun h' tk acc c keep at' items => ⟨h', tk, acc, c, rfl, rfl, fun b o e => keep b o (Nat.ne_of_lt (Heap.lt_size e)) (Heap.get?_push_of_some _ e), at', items⟩) hn
  refine wpAny_mono ext (fun fin s' x => ?_) fun e s' x => by obtain ⟨_, _, _, _, z, _⟩ := x; cases z
  cases fin with
  | done f =>
    obtain ⟨h', tk, acc, c, z, rfl, keep, at', items⟩ := x
    cases z
    show wpAny _ A (load s.heap.objs.size >>= _) _ _ _
    exact wpAny_bind (wpAny_load at' (wpAny_pure (h h' tk acc (Nat.le_of_lt (Heap.lt_size at')) keep items)))
  | again c1 =>
    refine ⟨x.1, codeAny_mono x.2 fun q s2 y => ?_⟩
    obtain ⟨h', tk, acc, c, rfl, rfl, keep, at', items⟩ := y
    show wpAny _ A (load s.heap.objs.size >>= _) _ _ _
    exact wpAny_bind (wpAny_load at' (wpAny_pure (h h' tk acc (Nat.le_of_lt (Heap.lt_size at')) keep items)))
theorem sorted_src {T : String} {r d : Addr} {order : List Value} {ms : List Int} {OK : Heap → Prop} {Q : Value → Shared → Prop} (K : KdlSrc prog w T r d order.length (fun i v => order[i]? = some v) OK) (hh : A.handled = none) (hok : OK s.heap) (hi : IntsAre order ms) (h64 : order.length < 64)
    (h : ∀ (l : Addr) (h' : Heap) (tk : Nat) (out : List Value) (ns' : List Int) (e : Nat), (∀ b o, s.heap.get? b = some o → h'.get? b = some o) → s.heap.objs.size ≤ l → h'.get? l = some (seqObj "list" out.toArray e) → IntsAre out ns' → ns'.Perm ms → ns'.Pairwise (· ≤ ·) → Q (.ref l) { s with heap := h', toks := tk }) :
    wpAny (model prog w) A (call (.builtin "sorted") [.ref r]) Q E s := by
  refine call_function_entry kind_sorted plain_sorted entry_sorted (args_sorted1 _) ?_
  unfold Builtin.«sorted»
  refine wpAny_bind (m := checkCount "sorted" 1 1 _) (wpAny_pure ?_)
  refine wpAny_bind (collect_src (A := A.in1) K hh hok (by rw [sizeLine_eq]; omega) fun h' tk acc hle hk hacc => ?_)
  have eo : acc.toList = order := by
    refine List.ext_getElem? fun i => ?_
    by_cases c : i < order.length
    · have ci : i < acc.toList.length := by rw [Array.length_toList, hacc.1]; exact c
      have := hacc.2 i acc.toList[i] (by rw [← Array.getElem?_toList]; exact List.getElem?_eq_getElem ci)
      rw [List.getElem?_eq_getElem ci, this]
    · rw [List.getElem?_eq_none (by rw [Array.length_toList, hacc.1]; omega), List.getElem?_eq_none (by omega)]
  rw [eo]
  refine wpAny_bind (wpAny_newList ?_ (by rw [sizeLine_eq]; omega))
  have hoL : (h'.push (seqObj "list" order.toArray 0)).get? h'.objs.size = some (seqObj "list" order.toArray 0) := Heap.get?_push_size _ rfl
  show wpAny _ _ _ _ _ { s with heap := h'.push (seqObj "list" order.toArray 0), toks := tk }
  refine wpAny_bind (wpAny_holding (wpAny_call_entry slot_list_sort ⟨_, hoL, rfl⟩ entry_list_sort (list_sort_tree hoL hi h64 fun out ns' a1 a2 a3 => ⟨_, rfl, ?_⟩) (args_list_sort _)))
  obtain ⟨e, he⟩ := sortedHeap_at (vs := order) (out := out) hoL
  refine wpAny_pure ⟨_, rfl, h h'.objs.size _ tk out.toList ns' e (fun b o hb => ?_) hle he a1 a2 a3⟩
  have hb' := hk b o hb
  rw [sortedHeap_old (Nat.ne_of_lt (Heap.lt_size hb')) (Heap.lt_size (Heap.get?_push_of_some _ hb'))]
  exact Heap.get?_push_of_some _ hb'
end
end BD
namespace BD
open PySem PySem.Spec L2 PySem.W PyProof.Rows PySem.Calls
theorem ints_vals : ∀ {vs : List Value} {ns : List Int}, IntsAre vs ns → Vals (ns.map V.int) vs
  | _, _, .nil => .nil
  | _, _, .cons n t h => .cons ⟨t, rfl⟩ (ints_vals h)
def SetP (a : Addr) (ks : Array Int) (t : SetTable) (h : Heap) : Prop := ∃ es ep, SetY h a es ep t ∧ EsOf es ks ∧ t.plain = true
theorem SetP.ok {P : Program} {w : World} {H : Hp} {h : Heap} {a : Addr} {ks : Array Int} {t : SetTable} (x : SetP a ks t h) : ObjOk P w H h a (.ext (SetP a ks t)) := by
  refine ⟨x, ?_, fun h1 h2 y k => ?_⟩
  · obtain ⟨es, ep, ⟨o, ho, _⟩, _⟩ := x
    exact ⟨o, ho⟩
  · obtain ⟨es, ep, hY, r⟩ := y
    exact ⟨es, ep, hY.at' k, r⟩
section
variable {X : Cx} {T : Tab} {E : XK} {a : Expr} {f : Ev} {p p2 pos pos2 : Pos}
theorem call_setP (hc : X.calm = true) : CallR X (.type "set") (fun xs H Q => ∃ p ns ks t, xs = [.ref p] ∧ SqL X.K H p (ns.map V.int) ∧ ns.length ≤ 4000 ∧ tsFold ns (#[], .fresh 0 0 (!X.w.params.followText "set-order")) = some (ks, t) ∧ ∀ l, H l = none → Q (.ref l) (upd H l (.ext (SetP l ks t)))) := by
  intro pins s σ H xs us Q I r h
  obtain ⟨p, ns, ks, t, rfl, hq, hb, sim, q⟩ := h
  obtain ⟨u, rfl, rx⟩ := vals1 r
  cases rx
  obtain ⟨its, r', pl, hz⟩ := I.list hq
  have hi := ints_are r'
  have hlen := r'.length
  rw [List.length_map] at hlen
  have sz : its.toArray.size = ns.length := by rw [List.size_toArray, ← hlen]
  refine call_setX (I.ok.hd hc) pl.isList hi (by rw [sz]; unfold scanBound; omega) sim fun h' tk es' ep' hY hE hp hk => ?_
  have hS : SetP s.heap.objs.size ks t h' := ⟨es', ep', hY, hE, hp⟩
  exact ⟨.ref s.heap.objs.size, _, I.laid (t' := tk) (o := .ext (SetP s.heap.objs.size ks t)) (fun b o e => hk b o (Heap.lt_size e) e) (Nat.le_refl _) hS.ok, rfl, q _ (I.hok.fresh (Nat.le_refl _))⟩
theorem call_sortSet (hc : X.calm = true) : CallR X (.builtin "sorted") (fun xs H Q => ∃ p ks t, xs = [.ref p] ∧ H p = some (.ext (SetP p ks t)) ∧ t.led = (!X.w.params.followText "set-order") ∧ (X.w.params.followText "set-order" = false → walkB t ks.size = true) ∧ ks.size < 64 ∧ ∀ l, H l = none → Q (.ref l) (upd H l (.lst ((sortI ks.toList).map V.int)))) := by
  intro pins s σ H xs us Q I r h
  obtain ⟨p, ks, t, rfl, hq, hl, hw, h64, q⟩ := h
  obtain ⟨u, rfl, rx⟩ := vals1 r
  cases rx
  have ok := I.hok p _ hq
  obtain ⟨⟨es, ep, hY, hE, hp⟩, _, _⟩ := ok
  obtain ⟨order, slotOf, W, perm⟩ := walk_is (a := p) (es := es) (ep := ep) hp hl (fun z => by rw [hE.size]; exact hw z)
  have isI : ∀ v ∈ order, ∃ k tk, v = Value.int k tk := fun v hv => by
    obtain ⟨e, he, rfl⟩ := List.mem_map.mp (perm.mem_iff.mp hv)
    obtain ⟨k, tk, _, rfl⟩ := hE.mem e he
    exact ⟨k, tk, rfl⟩
  have hi := intv_ints (ints_of isI)
  have pk : (order.map fun v => (intV v).getD 0).Perm ks.toList := by
    have := perm.map (fun v => (intV v).getD 0)
    rw [List.map_map] at this
    rw [← hE.vals]
    exact this
  have src := src_set (prog := X.prog) W
  rw [← W.len] at src
  have hsz : order.length = ks.size := by rw [W.len, hE.size]
  refine sorted_src src (I.ok.hd hc) hY hi (by omega) fun l h' tk out ns' e hk hle hat hO hP hU => ?_
  have en : ns' = sortI ks.toList := sortI_eq (hP.trans pk) hU
  subst en
  have hlen : ((sortI ks.toList).map V.int).length ≤ sizeLine := by
    rw [List.length_map, (sortI_perm _).length_eq, Array.length_toList, sizeLine_eq]
    omega
  exact ⟨.ref l, _, I.laid (t' := tk) (o := .lst ((sortI ks.toList).map V.int)) hk hle ⟨hlen, out, e, ints_vals hO, hat⟩, rfl, q _ (I.hok.fresh hle)⟩
def lSortSet (f : Ev) : EvL := fun ρ => obndL (f ρ) fun x => match x with
  | .lst ds => match intsO ds with
    | some ns => if ns.length < 64 then (match setSort true ns, setSort false ns with
      | some a, some b => if a = b ∧ a.length < 64 then some (.vals (a.map D.int)) else none
      | _, _ => none) else none
    | none => none
  | _ => none
theorem setSort_of {led : Bool} {ns a : List Int} (h : setSort led ns = some a) : ∃ ks t, tsFold ns (#[], .fresh 0 0 led) = some (ks, t) ∧ t.led = led ∧ (led = true → walkB t ks.size = true) ∧ a = sortI ks.toList := by
  unfold setSort at h
  cases e : tsFold ns (#[], .fresh 0 0 led) with
  | none => rw [e] at h; cases h
  | some s =>
    obtain ⟨ks, t⟩ := s
    rw [e] at h
    dsimp only at h
    split at h
    · rename_i c
      cases h
      rw [Bool.and_eq_true, beq_iff_eq] at c
      refine ⟨ks, t, rfl, c.1, fun z => ?_, rfl⟩
      subst z
      simpa using c.2
    · cases h
theorem jf_sortSet (hc : X.calm = true) (hg : X.env.kindOf "sorted" = some .globalImplicit) (hm : X.mg "sorted" = none) (hg2 : X.env.kindOf "set" = some .globalImplicit) (hm2 : X.mg "set" = none) (ha : JE X T E a f)
    (he : starEach [Expr.Call (.Name "set" p2) [a] [] pos2] X.env = (false, eval (.Call (.Name "set" p2) [a] [] pos2) X.env) :: starEach [] X.env := by kernel_rfl) (hpl : (backTo pos (starEach [] X.env)).any (·.1) = false := by kernel_rfl)
    (he2 : starEach [a] X.env = (false, eval a X.env) :: starEach [] X.env := by kernel_rfl) (hpl2 : (backTo pos2 (starEach [] X.env)).any (·.1) = false := by kernel_rfl) :
    JF X T E (.Call (.Name "sorted" p) [.Call (.Name "set" p2) [a] [] pos2] [] pos) (lSortSet f) := ⟨by
  refine PE.imp (pe_callB (call_sortSet hc) hg hm (by decide +kernel) (pa_cons (pe_callTy (call_setP hc) hg2 hm2 (by decide +kernel) (pa_cons ha.h pa_nil he2) (by decide) (by decide) he2 hpl2) pa_nil he) (by decide) (by decide) he hpl) fun σ H Q ⟨c, ρ, F, out, r, e, th⟩ => ?_
  unfold lSortSet obndL at e
  split at e
  · rename_i d q
    refine ⟨c, ρ, F, _, r, q, fun v H1 F1 g1 r1 => ?_⟩
    dsimp only at e
    split at e
    · rename_i ds
      split at e
      · rename_i ns hq
        split at e
        · rename_i h64
          split at e
          · rename_i x y ex ey
            split at e
            · rename_i hxy
              obtain ⟨rfl, hx⟩ := hxy
              cases e
              have ⟨ks, t, hs, hl, hw, ea⟩ : ∃ ks t, tsFold ns (#[], .fresh 0 0 (!X.w.params.followText "set-order")) = some (ks, t) ∧ t.led = (!X.w.params.followText "set-order") ∧ (X.w.params.followText "set-order" = false → walkB t ks.size = true) ∧ x = sortI ks.toList := by
                cases c : X.w.params.followText "set-order" with
                | true =>
                  obtain ⟨ks, t, a1, a2, a3, a4⟩ := setSort_of ey
                  exact ⟨ks, t, a1, a2, (fun z => by cases z), a4⟩
                | false =>
                  obtain ⟨ks, t, a1, a2, a3, a4⟩ := setSort_of ex
                  exact ⟨ks, t, a1, a2, fun _ => a3 rfl, a4⟩
              cases r1 with
              | lst hq1 rr =>
                refine ⟨_, ns, ks, t, rfl, ?_, by omega, hs, fun l1 hn1 => ?_⟩
                · rw [← intsO_ok rr hq]; exact hq1.sq
                · have hk : ks.size < 64 := by
                    rw [ea, (sortI_perm _).length_eq, Array.length_toList] at hx
                    exact hx
                  refine ⟨l1, ks, t, rfl, upd_same, hl, hw, hk, fun l hn => ?_⟩
                  rw [← ea]
                  exact th l _ _ _ F1 (g1.trans (Grow.upd g1.wf hn1)) hn rfl (Reps.ints x)
            · cases e
          · cases e
        · cases e
      · cases e
    · cases e
  · rename_i n q
    cases e
    exact ⟨c, ρ, F, _, r, q, th⟩
  · cases e⟩
end
end BD
namespace BD
open PySem PySem.Spec L2 PySem.W PyProof.Rows PySem.Calls
def rngV (lo : Int) (n : Nat) : List Int := (List.range n).map fun k : Nat => lo + ((k : Nat) : Int) * 1
theorem rngD_ints (lo : Int) (n : Nat) : rngD lo 1 n = (rngV lo n).map D.int := by
  unfold rngD rngV
  rw [List.map_map]
  rfl
theorem items_ints {lo : Int} : ∀ {n : Nat} {acc : Array Value}, ItemsOf (fun i v => ∃ t, v = .int (lo + (i : Int) * 1) t) acc n → IntsAre acc.toList (rngV lo n) := fun {n acc} h => by
  refine intv_ints (List.ext_getElem? fun i => ?_)
  rw [List.getElem?_map, List.getElem?_map]
  unfold rngV
  rw [List.getElem?_map, Array.getElem?_toList]
  by_cases c : i < n
  · rw [List.getElem?_range c]
    have ci : i < acc.size := by rw [h.1]; exact c
    obtain ⟨t, e⟩ := h.2 i acc[i] (Array.getElem?_eq_getElem ci)
    rw [Array.getElem?_eq_getElem ci, e]
    rfl
  · rw [Array.getElem?_eq_none (by rw [h.1]; omega), List.getElem?_eq_none (by simp; omega)]
    rfl
section
variable {X : Cx} {T : Tab} {E : XK} {a b : Expr} {fs : EvL} {p p2 pos pos2 : Pos}
theorem call_rangeR : CallR X (.type "range") (fun xs H Q => ∃ i j, xs = [.int i, .int j] ∧ ∀ l, H l = none → Q (.ref l) (upd H l (.rng i j))) := by
  intro pins s σ H xs us Q I r h
  obtain ⟨i, j, rfl, q⟩ := h
  cases r with
  | cons r rr =>
    cases rr with
    | cons r' rr =>
      cases rr
      obtain ⟨t, rfl⟩ := r
      obtain ⟨t', rfl⟩ := r'
      refine call_range_2 ?_
      exact ⟨.ref s.heap.objs.size, _, I.laid (t' := s.toks + 1) (o := .rng i j) (fun b o e => Heap.get?_push_of_some _ e) (Nat.le_refl _) ⟨_, _, _, Heap.get?_push_size _ rfl⟩, rfl, q _ (I.hok.fresh (Nat.le_refl _))⟩
theorem call_listR (hc : X.calm = true) : CallR X (.type "list") (fun xs H Q => ∃ p i j, xs = [.ref p] ∧ H p = some (.rng i j) ∧ -(2 ^ 62) ≤ i ∧ i < 2 ^ 62 ∧ -(2 ^ 62) ≤ j ∧ j < 2 ^ 62 ∧ (j - i).toNat ≤ 1000 ∧ ∀ l, H l = none → Q (.ref l) (upd H l (.lst ((rngV i (j - i).toNat).map V.int)))) := by
  intro pins s σ H xs us Q I r h
  obtain ⟨p, i, j, rfl, hq, h1, h2, h3, h4, hs, q⟩ := h
  obtain ⟨u, rfl, rx⟩ := vals1 r
  cases rx
  obtain ⟨t, u, v, ho⟩ := I.hok p _ hq
  have sz : Builtin.Range.rangeSize i j 1 = (((j - i).toNat : Nat) : Int) := by rw [rangeSize_one]; split <;> omega
  refine call_list_range (I.ok.hd hc) ho (small_one h1 h2 h3 h4) sz (by omega) fun h' tk acc c hk hat items => ?_
  have hi := items_ints items
  have hlen : ((rngV i (j - i).toNat).map V.int).length ≤ sizeLine := by
    rw [List.length_map, sizeLine_eq]
    unfold rngV
    rw [List.length_map, List.length_range]
    omega
  exact ⟨.ref s.heap.objs.size, _, I.laid (t' := tk) (o := .lst ((rngV i (j - i).toNat).map V.int)) hk (Nat.le_refl _) ⟨hlen, acc.toList, c, ints_vals hi, hat⟩, rfl, q _ (I.hok.fresh (Nat.le_refl _))⟩
def lRngL (f : EvL) : EvL := fun ρ => lbndL (f ρ) fun ds => match ds with
  | [.int i, .int j] => if big62 i && big62 j && decide ((j - i).toNat ≤ 1000) then some (.vals (rngD i 1 (j - i).toNat)) else none
  | _ => none
theorem jf_rngL (hc : X.calm = true) (hg : X.env.kindOf "list" = some .globalImplicit) (hm : X.mg "list" = none) (hg2 : X.env.kindOf "range" = some .globalImplicit) (hm2 : X.mg "range" = none) (ha : JA X T E [a, b] fs)
    (he : starEach [Expr.Call (.Name "range" p2) [a, b] [] pos2] X.env = (false, eval (.Call (.Name "range" p2) [a, b] [] pos2) X.env) :: starEach [] X.env := by kernel_rfl) (hpl : (backTo pos (starEach [] X.env)).any (·.1) = false := by kernel_rfl)
    (he2 : starEach [a, b] X.env = (false, eval a X.env) :: starEach [b] X.env := by kernel_rfl) (hpl2 : (backTo pos2 (starEach [b] X.env)).any (·.1) = false := by kernel_rfl) :
    JF X T E (.Call (.Name "list" p) [.Call (.Name "range" p2) [a, b] [] pos2] [] pos) (lRngL fs) := ⟨by
  refine PE.imp (pe_callTy (call_listR hc) hg hm (by decide +kernel) (pa_cons (pe_callTy call_rangeR hg2 hm2 (by decide +kernel) ha.h (by decide) (by decide) he2 hpl2) pa_nil he) (by decide) (by decide) he hpl) fun σ H Q ⟨c, ρ, F, out, r, e, th⟩ => ?_
  unfold lRngL lbndL at e
  split at e
  · rename_i ds q
    refine ⟨c, ρ, F, _, r, q, fun vs H1 F1 g1 r1 => ?_⟩
    dsimp only at e
    split at e
    · rename_i i j
      split at e
      · rename_i hb
        rw [Bool.and_eq_true, Bool.and_eq_true] at hb
        cases e
        cases r1 with
        | cons ra t1 =>
          cases t1 with
          | cons rb t2 =>
            cases t2
            cases ra
            cases rb
            refine ⟨_, _, rfl, fun l1 hn1 => ⟨l1, _, _, rfl, upd_same, (big_ok hb.1.1).1, (big_ok hb.1.1).2, (big_ok hb.1.2).1, (big_ok hb.1.2).2, of_decide_eq_true hb.2, fun l hn => ?_⟩⟩
            refine th l _ _ _ F1 (g1.trans (Grow.upd g1.wf hn1)) hn rfl ?_
            rw [rngD_ints]
            exact Reps.ints _
      · cases e
    · cases e
  · rename_i n q
    cases e
    exact ⟨c, ρ, F, _, r, q, th⟩
  · cases e⟩
end
end BD
namespace BD
open PySem PySem.Spec L2 PySem.W PyProof.Rows
theorem fr0_sem {X : Cx} {T : Tab} {E : XK} {f : EvL} {is : List Nat} {σ : L2.St} {H : Hp} {Q : VK} (hT : IsTab T) (h : tM T X.K E (mF0 is f) σ H Q) : ∃ φ, tDF (T.ws φ) X.K E f σ H (fun v H' => KD X.K H' → Q v H') := by
  obtain ⟨φ, c, ρ, M, F, W, G, out, M', r, ev, th⟩ := h
  have r1 := r.up (F1 := fun a => F a ∨ W a ≠ none) (fun _ h => .inl h) (fun _ h => h)
  have r2 := r1.upT.seeR (is := is) r.rel fun v d h => see0_rep (M := M) r.spl 4 h
  unfold mF0 at ev
  split at ev
  · rename_i ds q
    split at ev
    · rename_i hok
      cases ev
      refine ⟨φ, c, _, _, _, r2, q, fun p vs H1 H' F2 gr hp eH rp kd => ?_⟩
      subst eH
      have z := r.seen (fun _ h => .inl h) (fun _ h => h) gr
      have wp := fresh_w z.2 hp
      have kk : ∀ b, W b ≠ none → (∃ xs, (upd H1 p (.lst vs)) b = some (.lst xs)) ∨ ∃ C dx fs, (upd H1 p (.lst vs)) b = some (.ins C dx fs) := fun b w => by
        rw [upd_ne (fun y => by subst y; exact w wp)]
        exact kk_of r gr.ext b w
      have rp2 : Reps (T.wc φ) X.K (fun a => F2 a ∧ W a = none) (restr W (upd H1 p (.lst vs))) vs ds := Reps.flat (T := T.wc φ) kk rp hok
      have eG : restr W (upd H1 p (.lst vs)) = upd (restr W H1) p (.lst vs) := by
        funext b
        by_cases y : b = p
        · subst y; rw [restr_on wp, upd_same, upd_same]
        · rw [upd_ne y]; unfold restr; cases W b with
          | none => exact upd_ne y
          | some t => rfl
      rw [eG] at rp2
      have gn : restr W H1 p = none := by rw [restr_on wp]; exact hp
      have g2 : Grow (restr W H1) (upd (restr W H1) p (.lst vs)) (fun a => F2 a ∧ W a = none) (fun a => (F2 a ∧ W a = none) ∨ a = p) := Grow.updF z.1.gr.wf gn
      have s2 : Spl (T.wc φ) X.K (fun a => (F2 a ∧ W a = none) ∨ a = p) W M (upd (restr W H1) p (.lst vs)) (upd H1 p (.lst vs)) := z.2.keep g2.ext.keep g2.more (fun b w => upd_ne fun y => by subst y; exact w wp) (fun b w => by rw [upd_ne (fun y => by subst y; exact w wp)]; exact restr_off w) (fun b w => by
        by_cases y : b = p
        · subst y; rw [upd_same, upd_same]
        · rw [upd_ne y, upd_ne y]; exact restr_on w)
      exact th _ _ φ _ W _ (z.1.trans ⟨g2, List.prefix_refl _⟩) s2 (.lst (.inl ⟨.inr rfl, .inl upd_same⟩) (rp2.keep (fun _ _ e _ => e) g2.more))
    · cases ev
  · rename_i n q
    cases ev
    refine ⟨φ, c, _, _, _, r2, q, fun H' ex => ?_⟩
    obtain ⟨ev, sp⟩ := r.exc ex
    exact th H' φ F W _ ev sp
  · cases ev
theorem js_f0s {X : Cx} {T : Tab} {E : XK} {st : Stmt} {i : Nat} {fs : EvL} {is : List Nat} (hT : IsTab T) (h : ∀ φ, JAF X (T.ws φ) E st i fs) : JMS X T E st (mSet (mF0 is fs) i) := ⟨fun pins s σ H D I q => by
  obtain ⟨φ, q⟩ := fr0_sem hT (set_sem q)
  refine wpAny_mono ((h φ).h pins s σ H { D with nx := fun σ' H' => KD X.K H' → D.nx σ' H' } I q) (fun fl s' z => ?_) fun _ _ z => z
  cases fl with
  | next => obtain ⟨σ', H', I', z⟩ := z; exact ⟨σ', H', I', z (Inv.kd I')⟩
  | brk => exact z
  | cont => exact z
  | ret u => exact z⟩
end BD
namespace BD
open PySem PySem.Spec L2 PySem.W PyProof.Rows
def mFrzE (i : Nat) : MEv := fun ρ M => match ρ[i]? with
  | some (some (.sh (.cell n))) => (match M[n]? with
    | some (.lst ds) => some (.val (.lst ds), M.set n .dead)
    | _ => none)
  | _ => none
theorem COk.off {T : Tab} {K : Frag} {F : FS} {G H : Hp} {W W' : Own} {n : Nat} {b : Addr} {c : Cell} (h : COk T K F G H W n b c) (k : ∀ p t, W p = some t → (t = .cell n ∨ ∃ i, t = .fld n i) → W' p = some t) : COk T K F G H W' n b c := by
  cases c with
  | dead => trivial
  | lst ds => obtain ⟨h1, r⟩ := h; exact ⟨k _ _ h1 (.inl rfl), r⟩
  | ins m kk fs =>
    obtain ⟨h1, C, dx, fvs, names, h2, h3, h4, h5, h6, h7⟩ := h
    exact ⟨k _ _ h1 (.inl rfl), C, dx, fvs, names, h2, h3, h4, h5, h6, ⟨h7.len, h7.sh, fun i ds q => by
      obtain ⟨p, us, a1, a2, a3, a4⟩ := h7.own i ds q
      exact ⟨p, us, a1, k _ _ a2 (.inr ⟨i, rfl⟩), a3, a4⟩⟩⟩
theorem jm_frzE {X : Cx} {T : Tab} {E : XK} {e : Expr} {i : Nat} (hp : PE X e (tVar i)) : JM X T E e (mFrzE i) := ⟨PE.imp hp fun σ H Q ⟨φ, c, ρ, M, F, W, G, out, M', r, ev, th⟩ => by
  unfold mFrzE at ev
  split at ev
  · rename_i n hn
    split at ev
    · rename_i ds hM
      cases ev
      obtain ⟨v, hv, rv⟩ := r.rel.sh i _ hn
      refine ⟨v, hv, ?_⟩
      cases rv with
      | @cell a _ ha =>
      obtain ⟨a', h1, h2, vs, h3, h4⟩ := r.spl.ok n _ hM
      have ha : φ[n]? = some a := ha
      have h1 : φ[n]? = some a' := h1
      rw [ha] at h1
      cases h1
      have ga : G a = none := r.spl.off a (by rw [h2]; simp)
      have gr : Grow G (upd G a (.lst vs)) F (fun b => F b ∨ b = a) := Grow.updF r.rel.wf ga
      have hk : Keep F G (upd G a (.lst vs)) := gr.ext.keep
      let W' : Own := fun b => if b = a then none else W b
      have wa : ∀ b, b ≠ a → W' b = W b := fun b hb => if_neg hb
      have s2 : Spl (T.wc φ) X.K (fun b => F b ∨ b = a) W' (M.set n .dead) (upd G a (.lst vs)) H := by
        refine ⟨by rw [List.length_set]; exact r.spl.len, fun m c q => ?_, fun b hb => ?_, fun b hb => ?_, fun b hb => ?_, fun b q => (r.spl.hd b q).keep hk⟩
        · by_cases e : m = n
          · subst e
            have lt : m < M.length := (List.getElem?_eq_some_iff.mp hM).1
            rw [List.getElem?_set_self lt] at q
            cases q
            exact ⟨a, ha, trivial⟩
          · rw [List.getElem?_set_ne (fun z => e z.symm)] at q
            obtain ⟨b, k1, k2⟩ := r.spl.ok m c q
            refine ⟨b, k1, (k2.keep hk (fun _ z => .inl z) fun _ _ => rfl).off fun p t hp ht => ?_⟩
            have : p ≠ a := fun z => by
              subst z
              rw [h2] at hp
              cases hp
              rcases ht with ht | ⟨j, ht⟩
              · cases ht; exact e rfl
              · cases ht
            rw [wa p this]
            exact hp
        · have ne : b ≠ a := fun z => hb (by subst z; exact if_pos rfl)
          rw [upd_ne ne]
          exact r.spl.off b (by rw [← wa b ne]; exact hb)
        · by_cases ne : b = a
          · subst ne
            rw [upd_same, h3]
          · rw [upd_ne ne]
            exact r.spl.on b (by rw [← wa b ne]; exact hb)
        · have ne : b ≠ a := fun z => hb (by subst z; exact if_pos rfl)
          exact r.spl.kind b (by rw [← wa b ne]; exact hb)
      exact th _ H φ _ W' _ ⟨gr, List.prefix_refl _⟩ s2 (.lst (.inl ⟨.inr rfl, .inl upd_same⟩) (h4.keep hk fun _ z => .inl z))
    · cases ev
  · cases ev⟩
end BD
namespace BD
open PySem L2
def top (i : Nat) : Stmt := PySem.Challenge.pw_beadway_k10_whole_first.main.body.getD i (.Pass ⟨0, 0, 0, 0⟩)
structure Txt (K : PySem.W.Frag) (mg : Str → Option Value) : Prop where
  one : True
  n_abs : mg "abs" = none
  n_all : mg "all" = none
  n_any : mg "any" = none
  n_bool : mg "bool" = none
  n_enumerate : mg "enumerate" = none
  n_int : mg "int" = none
  n_isinstance : mg "isinstance" = none
  n_len : mg "len" = none
  n_list : mg "list" = none
  n_range : mg "range" = none
  n_set : mg "set" = none
  n_sorted : mg "sorted" = none
  n_sum : mg "sum" = none
  n_tuple : mg "tuple" = none
  g_MOST_BEADS : ∃ t, mg "MOST_BEADS" = some (.int 10 t)
  g_MOST_BOTTOM : ∃ t, mg "MOST_BOTTOM" = some (.int 60 t)
  g_MOST_TOP : ∃ t, mg "MOST_TOP" = some (.int 1000000 t)
  g_MOST_WEIGHT : ∃ t, mg "MOST_WEIGHT" = some (.int 60 t)
structure Txe (K : PySem.W.Frag) (mg : Str → Option Value) (T : Tab) : Prop where
  tab : IsTab T
  x_BadRow : IsExc K mg T "BadRow" 1
theorem Txe.tr {K : PySem.W.Frag} {mg : Str → Option Value} {T : Tab} (Y : Txe K mg T) (φ : List Addr) (b : Bool) (a : Option Addr) : Txe K mg { T with cl := φ, mt := b, hd := a } := ⟨Y.tab.tr φ b a, Y.x_BadRow.tr φ b a⟩
section
variable {P : Program} {w : World} {K : PySem.W.Frag} {mg : Str → Option Value} {base : Heap} {T : Tab}
abbrev s_q_number : Stmt := top 35
theorem sc_q_number : FnScope ["_law_cell", "_law_at", "_law_whole_here", "_law_mixed", "_law_more"] ["_law_cell", "_law_at", "_law_whole_here"] (defScope s_q_number) := ⟨rfl, rfl, rfl, by decide +kernel, rfl, by decide +kernel, by decide +kernel⟩
def b_q_number : Sv := (sSeq (sIf (eOp (i2 geI) (eVar 0) (eOp (i2 powI) (eC (.int 10)) (eC (.int 18)))) (sRet (eVar 0)) sNext) (sSeq (sAsg (eOp (i2 modI) (eOp (i2 addI) (eOp (i2 mulI) (eOp (i2 addI) (eVar 0) (eOp (i2 mulI) (eC (.int 977)) (eVar 1))) (eC (.int 48271))) (eVar 2)) (eC (.int 2147483647))) (gNm 3)) (sSeq (sAsg (eOp (i2 mulI) (eOp (i2 mulI) (eVar 3) (eOp (i2 addI) (eOp (i2 addI) (eVar 3) (eOp (i2 mulI) (eC (.int 31)) (eVar 1))) (eC (.int 7)))) (eOp (i2 addI) (eOp (i2 addI) (eVar 3) (eVar 0)) (eC (.int 5)))) (gNm 4)) (sRet (eOp (i2 divI) (eOp (i2 mulI) (eVar 4) (eOp (i2 addI) (eVar 4) (eC (.int 48271)))) (eC (.int 1009)))))))
def m_q_number : List D → Option Out := fnSem 3 2 b_q_number
theorem ok_q_number (Z : Txt K mg) (Y : Txe K mg T) {f : Addr} {fd : FuncData} (F : FunD K "_law_number" "_law_number" s_q_number .none f fd) (hm : mg "_law_number" = some (.ref f)) (hb : Binds K fd ["_law_cell", "_law_at", "_law_whole_here"] []) : Cl P w K mg base (CXf P w) T "_law_number" ["_law_cell", "_law_at", "_law_whole_here"] 1 m_q_number :=
  ⟨f, fd, fnx_okJ (fb := b_q_number) (k := 0) F sc_q_number (by kernel_rfl) (by kernel_rfl) (fun cdv A outer s H E hr =>
    (jb_cons (js_if (jt_cmp jp_ge (jv 0) (je_op jp_pow je_int je_int) (nobehind _ (by decide) (by decide))) (jb_one (js_ret (jv 0))) jb_nil) (jb_cons (js_set (i := 3) sc_q_number.nd (by kernel_rfl) (Or.inl (by kernel_rfl)) (je_op jp_mod (je_op jp_add (je_op jp_mul (je_op jp_add (jv 0) (je_op jp_mul je_int (jv 1))) je_int) (jv 2)) je_int)) (jb_cons (js_set (i := 4) sc_q_number.nd (by kernel_rfl) (Or.inl (by kernel_rfl)) (je_op jp_mul (je_op jp_mul (jv 3) (je_op jp_add (je_op jp_add (jv 3) (je_op jp_mul je_int (jv 1))) je_int)) (je_op jp_add (je_op jp_add (jv 3) (jv 0)) je_int))) (jb_one (js_ret (je_op jp_div (je_op jp_mul (jv 4) (je_op jp_add (jv 4) je_int)) je_int))))))), hm, F.kp, hb⟩
abbrev s_q_low : Stmt := top 36
theorem sc_q_low : FnScope ["_law_top", "_law_bottom", "_law_one", "_law_other"] ["_law_top", "_law_bottom"] (defScope s_q_low) := ⟨rfl, rfl, rfl, by decide +kernel, rfl, by decide +kernel, by decide +kernel⟩
def b_q_low : Sv := (sSeq (sPar 2 3 (eB absB (aCons (eVar 0) aNil)) (eVar 1)) (sSeq (sWhile fuelR (eOp (i2 gtI) (eVar 3) (eC (.int 0))) (sPar 2 3 (eVar 3) (eOp (i2 modI) (eVar 2) (eVar 3)))) (sRet (eTup (aCons (eOp (i2 divI) (eVar 0) (eVar 2)) (aCons (eOp (i2 divI) (eVar 1) (eVar 2)) aNil))))))
def m_q_low : List D → Option Out := fnSem 2 2 b_q_low
theorem ok_q_low (Z : Txt K mg) (Y : Txe K mg T) {f : Addr} {fd : FuncData} (F : FunD K "_law_low" "_law_low" s_q_low .none f fd) (hm : mg "_law_low" = some (.ref f)) (hb : Binds K fd ["_law_top", "_law_bottom"] []) : Cl P w K mg base (CXf P w) T "_law_low" ["_law_top", "_law_bottom"] 1 m_q_low :=
  ⟨f, fd, fnx_okJ (fb := b_q_low) (k := 0) F sc_q_low (by kernel_rfl) (by kernel_rfl) (fun cdv A outer s H E hr =>
    (jb_cons (js_par (i := 2) (j := 3) (by kernel_rfl) sc_q_low.nd (by kernel_rfl) (by kernel_rfl) (by decide) (by kernel_rfl) (by kernel_rfl) (je_callB jc_abs (by kernel_rfl) Z.n_abs (by decide +kernel) (ja_cons (jv 0) ja_nil)) (jv 1)) (jb_cons (js_while passL (jt_cmp jp_gt (jv 3) je_int (nobehind _ (by decide) (by decide))) (jb_one (js_par (i := 2) (j := 3) (by kernel_rfl) sc_q_low.nd (by kernel_rfl) (by kernel_rfl) (by decide) (by kernel_rfl) (by kernel_rfl) (jv 3) (je_op jp_mod (jv 2) (jv 3))))) (jb_one (js_ret (je_tup (ja_cons (je_op jp_div (jv 0) (jv 2)) (ja_cons (je_op jp_div (jv 1) (jv 2)) ja_nil)))))))), hm, F.kp, hb⟩
abbrev s_q_row : Stmt := top 41
theorem sc_q_row : FnScope ["_law_script", "_law_by_here", "_law_alike", "_law_most", "_law_cells", "_law_whole_here", "_law_many", "_law_bottom", "_law_gap", "_law_kind", "_law_last", "_law_at", "_law_found", "_law_blend", "_law_same", "_law_light", "_law_number_here", "_law_weight", "_law_top", "_law_speed"] ["_law_script", "_law_by_here", "_law_alike", "_law_most"] (defScope s_q_row) := ⟨rfl, rfl, rfl, by decide +kernel, rfl, by decide +kernel, by decide +kernel⟩
def l1_q_row : Sv := (sSeq (sAsg (eCall m_q_number (aCons (eOp ixD (eVar 4) (eOp (i2 modI) (eOp (i2 addI) (eVar 11) (eVar 1)) (eB lenB (aCons (eVar 4) aNil)))) (aCons (eOp (i2 addI) (eVar 11) (eOp (i2 mulI) (eC (.int 11)) (eVar 1))) (aCons (eVar 5) aNil)))) (gNm 16)) (sSeq (sAsg (eOp (i2 addI) (eOp (i2 addI) (eVar 10) (eC (.int 1))) (eOp (i2 modI) (eOp (i2 divI) (eVar 16) (eC (.int 3))) (eVar 8))) (gNm 10)) (sSeq (sAsg (eIf (qV (eVar 2)) (eVar 14) (eOp (i2 addI) (eC (.int 1)) (eOp (i2 modI) (eOp (i2 divI) (eVar 16) (eC (.int 270000))) (eVar 15)))) (gNm 17)) (sSeq (sAsg (eOp (i2 subI) (eOp (i2 modI) (eOp (i2 divI) (eVar 16) (eC (.int 16200000))) (eOp ixD (eTup (aCons (eC (.int 5)) (aCons (eC (.int 11)) (aCons (eC (.int 41)) (aCons (eC (.int 400001)) aNil))))) (eVar 9))) (eOp ixD (eTup (aCons (eC (.int 2)) (aCons (eC (.int 5)) (aCons (eC (.int 20)) (aCons (eC (.int 200000)) aNil))))) (eVar 9))) (gNm 18)) (sSeq (sAsg (eCall m_q_low (aCons (eVar 18) (aCons (eOp (i2 addI) (eC (.int 1)) (eOp (i2 modI) (eOp (i2 divI) (eVar 16) (eC (.int 6480016200000))) (eOp ixD (eTup (aCons (eC (.int 1)) (aCons (eC (.int 1)) (aCons (eC (.int 4)) (aCons (eC (.int 60)) aNil))))) (eVar 9)))) aNil))) (gNm 19)) (sApp 12 (eTup (aCons (eVar 17) (aCons (eCall m_q_low (aCons (eVar 10) (aCons (eVar 7) aNil))) (aCons (eVar 19) aNil))))))))))
def b_q_row : Sv := (sSeq (sAsg (eIf (eOp neD (eVar 0) (eFr (lLst aNil))) (eFr (lSlice (eVar 0) oNone (oSome (eC (.int 63))))) (eFr (lLst (aCons (eC (.int 2)) aNil)))) (gNm 4)) (sSeq (sAsg (eOp (i2 addI) (eB sumB (aCons (eVar 4) aNil)) (eVar 1)) (gNm 5)) (sSeq (sAsg (eOp (i2 addI) (eC (.int 1)) (eOp (i2 modI) (eVar 5) (eVar 3))) (gNm 6)) (sSeq (sAsg (eOp ixD (eTup (aCons (eC (.int 1)) (aCons (eC (.int 1)) (aCons (eC (.int 2)) (aCons (eC (.int 3)) (aCons (eC (.int 4)) (aCons (eC (.int 60)) aNil))))))) (eOp (i2 modI) (eOp (i2 divI) (eVar 5) (eC (.int 10))) (eC (.int 6)))) (gNm 7)) (sSeq (sAsg (eOp ixD (eTup (aCons (eC (.int 3)) (aCons (eC (.int 9)) (aCons (eC (.int 90000)) aNil)))) (eOp (i2 modI) (eOp (i2 divI) (eVar 5) (eC (.int 60))) (eC (.int 3)))) (gNm 8)) (sSeq (sAsg (eOp (i2 modI) (eOp (i2 divI) (eVar 5) (eC (.int 180))) (eC (.int 4))) (gNm 9)) (sSeq (sAsg (eOp (i2 mulI) (eNeg (eVar 8)) (eOp (i2 modI) (eOp (i2 divI) (eVar 5) (eC (.int 720))) (eC (.int 6)))) (gNm 10)) (sSeq (sParM 12 13 (lLst aNil) (eCall m_q_number (aCons (eVar 5) (aCons (eOp (i2 addI) (eVar 1) (eC (.int 3))) (aCons (eC (.int 5)) aNil))))) (sSeq (sPar 14 15 (eOp (i2 addI) (eC (.int 1)) (eOp (i2 modI) (eOp (i2 divI) (eVar 13) (eC (.int 4320))) (eC (.int 60)))) (eOp ixD (eTup (aCons (eC (.int 3)) (aCons (eC (.int 60)) aNil))) (eOp (i2 modI) (eOp (i2 divI) (eVar 13) (eC (.int 259200))) (eC (.int 2))))) (sSeq (sFor (wRng1 (aCons (eVar 6) aNil)) (gNm 11) l1_q_row) (sFrz 12 (sRet (eVar 12)))))))))))))
def m_q_row : List D → Option Out := fnSem 4 16 b_q_row
theorem ok_q_row (Z : Txt K mg) (Y : Txe K mg T) (C_q_number : Cl P w K mg base (CXf P w) T "_law_number" ["_law_cell", "_law_at", "_law_whole_here"] 1 m_q_number) (C_q_low : Cl P w K mg base (CXf P w) T "_law_low" ["_law_top", "_law_bottom"] 1 m_q_low) {f : Addr} {fd : FuncData} {dV : Value} {t : Tok} (F : FunD K "_law_row" "_law_row" s_q_row dV f fd) (hm : mg "_law_row" = some (.ref f)) (hb : Binds K fd ["_law_script", "_law_by_here", "_law_alike", "_law_most"] [.int 10 t]) : ClD P w K mg base (CXf P w) T "_law_row" ["_law_script", "_law_by_here", "_law_alike", "_law_most"] 2 m_q_row 10 :=
  ⟨f, fd, t, fnx_okJ (fb := b_q_row) (k := 1) F sc_q_row (by kernel_rfl) (by kernel_rfl) (fun cdv A outer s H E hr =>
    (jb_cons (js_set (i := 4) sc_q_row.nd (by kernel_rfl) (Or.inl (by kernel_rfl)) (je_if (jt_cmp (jp_ne hr.units) (jv 0) (je_fr (jf_lst ja_nil)) (nobehind _ (by decide) (by decide))) (je_fr (jf_slice (jv 0) jo_none (jo_some je_int))) (je_fr (jf_lst (ja_cons je_int ja_nil))))) (jb_cons (js_set (i := 5) sc_q_row.nd (by kernel_rfl) (Or.inl (by kernel_rfl)) (je_op jp_add (je_callB (jc_sum (by kernel_rfl)) (by kernel_rfl) Z.n_sum (by decide +kernel) (ja_cons (jv 4) ja_nil)) (jv 1))) (jb_cons (js_set (i := 6) sc_q_row.nd (by kernel_rfl) (Or.inl (by kernel_rfl)) (je_op jp_add je_int (je_op jp_mod (jv 5) (jv 3)))) (jb_cons (js_set (i := 7) sc_q_row.nd (by kernel_rfl) (Or.inl (by kernel_rfl)) (je_ix (je_tup (ja_cons je_int (ja_cons je_int (ja_cons je_int (ja_cons je_int (ja_cons je_int (ja_cons je_int ja_nil))))))) (je_op jp_mod (je_op jp_div (jv 5) je_int) je_int))) (jb_cons (js_set (i := 8) sc_q_row.nd (by kernel_rfl) (Or.inl (by kernel_rfl)) (je_ix (je_tup (ja_cons je_int (ja_cons je_int (ja_cons je_int ja_nil)))) (je_op jp_mod (je_op jp_div (jv 5) je_int) je_int))) (jb_cons (js_set (i := 9) sc_q_row.nd (by kernel_rfl) (Or.inl (by kernel_rfl)) (je_op jp_mod (je_op jp_div (jv 5) je_int) je_int)) (jb_cons (js_set (i := 10) sc_q_row.nd (by kernel_rfl) (Or.inl (by kernel_rfl)) (je_op jp_mul (je_neg (jv 8)) (je_op jp_mod (je_op jp_div (jv 5) je_int) je_int))) (jb_cons (js_parM (i := 12) (j := 13) (by kernel_rfl) sc_q_row.nd (by kernel_rfl) (by kernel_rfl) (by decide) (by kernel_rfl) (by kernel_rfl) (jf_lst ja_nil) (je_c C_q_number (hr.mono (by decide)) passF (by kernel_rfl) (ja_cons (jv 5) (ja_cons (je_op jp_add (jv 1) je_int) (ja_cons je_int ja_nil))))) (jb_cons (js_par (i := 14) (j := 15) (by kernel_rfl) sc_q_row.nd (by kernel_rfl) (by kernel_rfl) (by decide) (by kernel_rfl) (by kernel_rfl) (je_op jp_add je_int (je_op jp_mod (je_op jp_div (jv 13) je_int) je_int)) (je_ix (je_tup (ja_cons je_int (ja_cons je_int ja_nil))) (je_op jp_mod (je_op jp_div (jv 13) je_int) je_int))) (jb_cons (js_for passL (by kernel_rfl) (ji_range1 (by kernel_rfl) Z.n_range (ja_cons (jv 6) ja_nil)) (jg_name (i := 11) sc_q_row.nd (by kernel_rfl) (Or.inl (by kernel_rfl))) (jb_cons (js_set (i := 16) sc_q_row.nd (by kernel_rfl) (Or.inl (by kernel_rfl)) (je_c C_q_number (hr.mono (by decide)) passF (by kernel_rfl) (ja_cons (je_ix (jv 4) (je_op jp_mod (je_op jp_add (jv 11) (jv 1)) (je_callB jc_len (by kernel_rfl) Z.n_len (by decide +kernel) (ja_cons (jv 4) ja_nil)))) (ja_cons (je_op jp_add (jv 11) (je_op jp_mul je_int (jv 1))) (ja_cons (jv 5) ja_nil))))) (jb_cons (js_set (i := 10) sc_q_row.nd (by kernel_rfl) (Or.inl (by kernel_rfl)) (je_op jp_add (je_op jp_add (jv 10) je_int) (je_op jp_mod (je_op jp_div (jv 16) je_int) (jv 8)))) (jb_cons (js_set (i := 17) sc_q_row.nd (by kernel_rfl) (Or.inl (by kernel_rfl)) (je_if (jt_val (jv 2)) (jv 14) (je_op jp_add je_int (je_op jp_mod (je_op jp_div (jv 16) je_int) (jv 15))))) (jb_cons (js_set (i := 18) sc_q_row.nd (by kernel_rfl) (Or.inl (by kernel_rfl)) (je_op jp_sub (je_op jp_mod (je_op jp_div (jv 16) je_int) (je_ix (je_tup (ja_cons je_int (ja_cons je_int (ja_cons je_int (ja_cons je_int ja_nil))))) (jv 9))) (je_ix (je_tup (ja_cons je_int (ja_cons je_int (ja_cons je_int (ja_cons je_int ja_nil))))) (jv 9)))) (jb_cons (js_set (i := 19) sc_q_row.nd (by kernel_rfl) (Or.inl (by kernel_rfl)) (je_c C_q_low (hr.mono (by decide)) passF (by kernel_rfl) (ja_cons (jv 18) (ja_cons (je_op jp_add je_int (je_op jp_mod (je_op jp_div (jv 16) je_int) (je_ix (je_tup (ja_cons je_int (ja_cons je_int (ja_cons je_int (ja_cons je_int ja_nil))))) (jv 9)))) ja_nil)))) (jb_one (js_append (i := 12) (by kernel_rfl) (Or.inl (by kernel_rfl)) (je_tup (ja_cons (jv 17) (ja_cons (je_c C_q_low (hr.mono (by decide)) passF (by kernel_rfl) (ja_cons (jv 10) (ja_cons (jv 7) ja_nil))) (ja_cons (jv 19) ja_nil)))))))))))) (jb_frz (i := 12) (jb_one (js_ret (jv 12))))))))))))))), hm, F.kp, hb⟩
theorem okF_q_row (Z : Txt K mg) (Y : Txe K mg T) (C_q_number : Cl P w K mg base (CXf P w) T "_law_number" ["_law_cell", "_law_at", "_law_whole_here"] 1 m_q_number) (C_q_low : Cl P w K mg base (CXf P w) T "_law_low" ["_law_top", "_law_bottom"] 1 m_q_low) {f : Addr} {fd : FuncData} {dV : Value} (F : FunD K "_law_row" "_law_row" s_q_row dV f fd) (hm : mg "_law_row" = some (.ref f)) (hb : Binds K fd ["_law_script", "_law_by_here", "_law_alike", "_law_most"] []) : Cl P w K mg base (CXf P w) T "_law_row" ["_law_script", "_law_by_here", "_law_alike", "_law_most"] 2 m_q_row :=
  ⟨f, fd, fnx_okJ (fb := b_q_row) (k := 1) F sc_q_row (by kernel_rfl) (by kernel_rfl) (fun cdv A outer s H E hr =>
    (jb_cons (js_set (i := 4) sc_q_row.nd (by kernel_rfl) (Or.inl (by kernel_rfl)) (je_if (jt_cmp (jp_ne hr.units) (jv 0) (je_fr (jf_lst ja_nil)) (nobehind _ (by decide) (by decide))) (je_fr (jf_slice (jv 0) jo_none (jo_some je_int))) (je_fr (jf_lst (ja_cons je_int ja_nil))))) (jb_cons (js_set (i := 5) sc_q_row.nd (by kernel_rfl) (Or.inl (by kernel_rfl)) (je_op jp_add (je_callB (jc_sum (by kernel_rfl)) (by kernel_rfl) Z.n_sum (by decide +kernel) (ja_cons (jv 4) ja_nil)) (jv 1))) (jb_cons (js_set (i := 6) sc_q_row.nd (by kernel_rfl) (Or.inl (by kernel_rfl)) (je_op jp_add je_int (je_op jp_mod (jv 5) (jv 3)))) (jb_cons (js_set (i := 7) sc_q_row.nd (by kernel_rfl) (Or.inl (by kernel_rfl)) (je_ix (je_tup (ja_cons je_int (ja_cons je_int (ja_cons je_int (ja_cons je_int (ja_cons je_int (ja_cons je_int ja_nil))))))) (je_op jp_mod (je_op jp_div (jv 5) je_int) je_int))) (jb_cons (js_set (i := 8) sc_q_row.nd (by kernel_rfl) (Or.inl (by kernel_rfl)) (je_ix (je_tup (ja_cons je_int (ja_cons je_int (ja_cons je_int ja_nil)))) (je_op jp_mod (je_op jp_div (jv 5) je_int) je_int))) (jb_cons (js_set (i := 9) sc_q_row.nd (by kernel_rfl) (Or.inl (by kernel_rfl)) (je_op jp_mod (je_op jp_div (jv 5) je_int) je_int)) (jb_cons (js_set (i := 10) sc_q_row.nd (by kernel_rfl) (Or.inl (by kernel_rfl)) (je_op jp_mul (je_neg (jv 8)) (je_op jp_mod (je_op jp_div (jv 5) je_int) je_int))) (jb_cons (js_parM (i := 12) (j := 13) (by kernel_rfl) sc_q_row.nd (by kernel_rfl) (by kernel_rfl) (by decide) (by kernel_rfl) (by kernel_rfl) (jf_lst ja_nil) (je_c C_q_number (hr.mono (by decide)) passF (by kernel_rfl) (ja_cons (jv 5) (ja_cons (je_op jp_add (jv 1) je_int) (ja_cons je_int ja_nil))))) (jb_cons (js_par (i := 14) (j := 15) (by kernel_rfl) sc_q_row.nd (by kernel_rfl) (by kernel_rfl) (by decide) (by kernel_rfl) (by kernel_rfl) (je_op jp_add je_int (je_op jp_mod (je_op jp_div (jv 13) je_int) je_int)) (je_ix (je_tup (ja_cons je_int (ja_cons je_int ja_nil))) (je_op jp_mod (je_op jp_div (jv 13) je_int) je_int))) (jb_cons (js_for passL (by kernel_rfl) (ji_range1 (by kernel_rfl) Z.n_range (ja_cons (jv 6) ja_nil)) (jg_name (i := 11) sc_q_row.nd (by kernel_rfl) (Or.inl (by kernel_rfl))) (jb_cons (js_set (i := 16) sc_q_row.nd (by kernel_rfl) (Or.inl (by kernel_rfl)) (je_c C_q_number (hr.mono (by decide)) passF (by kernel_rfl) (ja_cons (je_ix (jv 4) (je_op jp_mod (je_op jp_add (jv 11) (jv 1)) (je_callB jc_len (by kernel_rfl) Z.n_len (by decide +kernel) (ja_cons (jv 4) ja_nil)))) (ja_cons (je_op jp_add (jv 11) (je_op jp_mul je_int (jv 1))) (ja_cons (jv 5) ja_nil))))) (jb_cons (js_set (i := 10) sc_q_row.nd (by kernel_rfl) (Or.inl (by kernel_rfl)) (je_op jp_add (je_op jp_add (jv 10) je_int) (je_op jp_mod (je_op jp_div (jv 16) je_int) (jv 8)))) (jb_cons (js_set (i := 17) sc_q_row.nd (by kernel_rfl) (Or.inl (by kernel_rfl)) (je_if (jt_val (jv 2)) (jv 14) (je_op jp_add je_int (je_op jp_mod (je_op jp_div (jv 16) je_int) (jv 15))))) (jb_cons (js_set (i := 18) sc_q_row.nd (by kernel_rfl) (Or.inl (by kernel_rfl)) (je_op jp_sub (je_op jp_mod (je_op jp_div (jv 16) je_int) (je_ix (je_tup (ja_cons je_int (ja_cons je_int (ja_cons je_int (ja_cons je_int ja_nil))))) (jv 9))) (je_ix (je_tup (ja_cons je_int (ja_cons je_int (ja_cons je_int (ja_cons je_int ja_nil))))) (jv 9)))) (jb_cons (js_set (i := 19) sc_q_row.nd (by kernel_rfl) (Or.inl (by kernel_rfl)) (je_c C_q_low (hr.mono (by decide)) passF (by kernel_rfl) (ja_cons (jv 18) (ja_cons (je_op jp_add je_int (je_op jp_mod (je_op jp_div (jv 16) je_int) (je_ix (je_tup (ja_cons je_int (ja_cons je_int (ja_cons je_int (ja_cons je_int ja_nil))))) (jv 9)))) ja_nil)))) (jb_one (js_append (i := 12) (by kernel_rfl) (Or.inl (by kernel_rfl)) (je_tup (ja_cons (jv 17) (ja_cons (je_c C_q_low (hr.mono (by decide)) passF (by kernel_rfl) (ja_cons (jv 10) (ja_cons (jv 7) ja_nil))) (ja_cons (jv 19) ja_nil)))))))))))) (jb_frz (i := 12) (jb_one (js_ret (jv 12))))))))))))))), hm, F.kp, hb⟩
abbrev s_is_whole : Stmt := top 4
theorem sc_is_whole : FnScope ["value"] ["value"] (defScope s_is_whole) := ⟨rfl, rfl, rfl, by decide +kernel, rfl, by decide +kernel, by decide +kernel⟩
def b_is_whole : Sv := (sRet (qAnd (eIsi "int" (eVar 0)) (qNot (eIsi "bool" (eVar 0)))))
def m_is_whole : List D → Option Out := fnSem 1 0 b_is_whole
theorem ok_is_whole (Z : Txt K mg) (Y : Txe K mg T) {f : Addr} {fd : FuncData} (F : FunD K "is_whole" "is_whole" s_is_whole .none f fd) (hm : mg "is_whole" = some (.ref f)) (hb : Binds K fd ["value"] []) : Cl P w K mg base (CXf P w) T "is_whole" ["value"] 1 m_is_whole :=
  ⟨f, fd, fnx_okJ (fb := b_is_whole) (k := 0) F sc_is_whole (by kernel_rfl) (by kernel_rfl) (fun cdv A outer s H E hr =>
    (jb_one (js_ret (je_and (je_isi (jv 0) (by kernel_rfl) Z.n_isinstance (by kernel_rfl) Z.n_int (by decide +kernel)) (je_one (je_not (je_isi (jv 0) (by kernel_rfl) Z.n_isinstance (by kernel_rfl) Z.n_bool (by decide +kernel)))))))), hm, F.kp, hb⟩
abbrev s_is_weight : Stmt := top 18
theorem sc_is_weight : FnScope ["value"] ["value"] (defScope s_is_weight) := ⟨rfl, rfl, rfl, by decide +kernel, rfl, by decide +kernel, by decide +kernel⟩
def b_is_weight : Sv := (sRet (qAnd (eCall m_is_whole (aCons (eVar 0) aNil)) (eChain (i2 leI) (i2 leI) (eC (.int 1)) (eVar 0) (eC (.int 60)))))
def m_is_weight : List D → Option Out := fnSem 1 0 b_is_weight
theorem ok_is_weight (Z : Txt K mg) (Y : Txe K mg T) (C_is_whole : Cl P w K mg base (CXf P w) T "is_whole" ["value"] 1 m_is_whole) {f : Addr} {fd : FuncData} (F : FunD K "is_weight" "is_weight" s_is_weight .none f fd) (hm : mg "is_weight" = some (.ref f)) (hb : Binds K fd ["value"] []) : Cl P w K mg base (CXf P w) T "is_weight" ["value"] 2 m_is_weight :=
  ⟨f, fd, fnx_okJ (fb := b_is_weight) (k := 1) F sc_is_weight (by kernel_rfl) (by kernel_rfl) (fun cdv A outer s H E hr =>
    (jb_one (js_ret (je_and (je_c C_is_whole (hr.mono (by decide)) passF (by kernel_rfl) (ja_cons (jv 0) ja_nil)) (je_one (je_chain jp_le jp_le je_int (jv 0) (je_gi (by kernel_rfl) Z.g_MOST_WEIGHT))))))), hm, F.kp, hb⟩
abbrev s_common : Stmt := top 5
theorem sc_common : FnScope ["one", "other"] ["one", "other"] (defScope s_common) := ⟨rfl, rfl, rfl, by decide +kernel, rfl, by decide +kernel, by decide +kernel⟩
def b_common : Sv := (sSeq (sWhile fuelR (qV (eVar 1)) (sPar 0 1 (eVar 1) (eOp (i2 modI) (eVar 0) (eVar 1)))) (sRet (eVar 0)))
def m_common : List D → Option Out := fnSem 2 0 b_common
theorem ok_common (Z : Txt K mg) (Y : Txe K mg T) {f : Addr} {fd : FuncData} (F : FunD K "common" "common" s_common .none f fd) (hm : mg "common" = some (.ref f)) (hb : Binds K fd ["one", "other"] []) : Cl P w K mg base (CXf P w) T "common" ["one", "other"] 1 m_common :=
  ⟨f, fd, fnx_okJ (fb := b_common) (k := 0) F sc_common (by kernel_rfl) (by kernel_rfl) (fun cdv A outer s H E hr =>
    (jb_cons (js_while passL (jt_val (jv 1)) (jb_one (js_par (i := 0) (j := 1) (by kernel_rfl) sc_common.nd (by kernel_rfl) (by kernel_rfl) (by decide) (by kernel_rfl) (by kernel_rfl) (jv 1) (je_op jp_mod (jv 0) (jv 1))))) (jb_one (js_ret (jv 0))))), hm, F.kp, hb⟩
abbrev s_is_share : Stmt := top 7
theorem sc_is_share : FnScope ["value", "top", "bottom"] ["value"] (defScope s_is_share) := ⟨rfl, rfl, rfl, by decide +kernel, rfl, by decide +kernel, by decide +kernel⟩
def b_is_share : Sv := (sSeq (sIf (qOr (qNot (qV (eIsi "tuple" (eVar 0)))) (eOp neD (eB lenB (aCons (eVar 0) aNil)) (eC (.int 2)))) (sRet (eC (.bl false))) sNext) (sSeq (sAsg (eVar 0) (gTp (gsCons (gNm 1) (gsCons (gNm 2) gsNil)))) (sRet (qAnd (eCall m_is_whole (aCons (eVar 1) aNil)) (qAnd (eCall m_is_whole (aCons (eVar 2) aNil)) (qAnd (eOp (i2 geI) (eVar 2) (eC (.int 1))) (eOp eqD (eCall m_common (aCons (eVar 1) (aCons (eVar 2) aNil))) (eC (.int 1)))))))))
def m_is_share : List D → Option Out := fnSem 1 2 b_is_share
theorem ok_is_share (Z : Txt K mg) (Y : Txe K mg T) (C_is_whole : Cl P w K mg base (CXf P w) T "is_whole" ["value"] 1 m_is_whole) (C_common : Cl P w K mg base (CXf P w) T "common" ["one", "other"] 1 m_common) {f : Addr} {fd : FuncData} (F : FunD K "is_share" "is_share" s_is_share .none f fd) (hm : mg "is_share" = some (.ref f)) (hb : Binds K fd ["value"] []) : Cl P w K mg base (CXf P w) T "is_share" ["value"] 2 m_is_share :=
  ⟨f, fd, fnx_okJ (fb := b_is_share) (k := 1) F sc_is_share (by kernel_rfl) (by kernel_rfl) (fun cdv A outer s H E hr =>
    (jb_cons (js_if (JW.pt (jw_or (jt_not (jt_val (je_isi (jv 0) (by kernel_rfl) Z.n_isinstance (by kernel_rfl) Z.n_tuple (by decide +kernel)))) (jw_or1 (jt_cmp (jp_ne hr.units) (je_callB jc_len (by kernel_rfl) Z.n_len (by decide +kernel) (ja_cons (jv 0) ja_nil)) je_int (nobehind _ (by decide) (by decide)))))) (jb_one (js_ret je_bl)) jb_nil) (jb_cons (js_asg (jv 0) (jg_tup (by kernel_rfl) (jgs_cons (jg_name (i := 1) sc_is_share.nd (by kernel_rfl) (Or.inl (by kernel_rfl))) (jgs_cons (jg_name (i := 2) sc_is_share.nd (by kernel_rfl) (Or.inl (by kernel_rfl))) jgs_nil)) (gl_cons (gl_cons gl_nil)))) (jb_one (js_ret (je_and (je_c C_is_whole (hr.mono (by decide)) passF (by kernel_rfl) (ja_cons (jv 1) ja_nil)) (je_and (je_c C_is_whole (hr.mono (by decide)) passF (by kernel_rfl) (ja_cons (jv 2) ja_nil)) (je_and (je_cmp jp_ge (jv 2) je_int (nobehind _ (by decide) (by decide))) (je_one (je_cmp (jp_eq hr.units) (je_c C_common (hr.mono (by decide)) passF (by kernel_rfl) (ja_cons (jv 1) (ja_cons (jv 2) ja_nil))) je_int (nobehind _ (by decide) (by decide)))))))))))), hm, F.kp, hb⟩
abbrev s_is_row_share : Stmt := top 19
theorem sc_is_row_share : FnScope ["value"] ["value"] (defScope s_is_row_share) := ⟨rfl, rfl, rfl, by decide +kernel, rfl, by decide +kernel, by decide +kernel⟩
def b_is_row_share : Sv := (sRet (qAnd (eCall m_is_share (aCons (eVar 0) aNil)) (qAnd (eChain (i2 leI) (i2 leI) (eNeg (eC (.int 1000000))) (eOp ixD (eVar 0) (eC (.int 0))) (eC (.int 1000000))) (eOp (i2 leI) (eOp ixD (eVar 0) (eC (.int 1))) (eC (.int 60))))))
def m_is_row_share : List D → Option Out := fnSem 1 0 b_is_row_share
theorem ok_is_row_share (Z : Txt K mg) (Y : Txe K mg T) (C_is_share : Cl P w K mg base (CXf P w) T "is_share" ["value"] 2 m_is_share) {f : Addr} {fd : FuncData} (F : FunD K "is_row_share" "is_row_share" s_is_row_share .none f fd) (hm : mg "is_row_share" = some (.ref f)) (hb : Binds K fd ["value"] []) : Cl P w K mg base (CXf P w) T "is_row_share" ["value"] 3 m_is_row_share :=
  ⟨f, fd, fnx_okJ (fb := b_is_row_share) (k := 2) F sc_is_row_share (by kernel_rfl) (by kernel_rfl) (fun cdv A outer s H E hr =>
    (jb_one (js_ret (je_and (je_c C_is_share (hr.mono (by decide)) passF (by kernel_rfl) (ja_cons (jv 0) ja_nil)) (je_and (je_chain jp_le jp_le (je_neg (je_gi (by kernel_rfl) Z.g_MOST_TOP)) (je_ix (jv 0) je_int) (je_gi (by kernel_rfl) Z.g_MOST_TOP)) (je_one (je_cmp jp_le (je_ix (jv 0) je_int) (je_gi (by kernel_rfl) Z.g_MOST_BOTTOM) (nobehind _ (by decide) (by decide))))))))), hm, F.kp, hb⟩
abbrev s_is_bead : Stmt := top 20
theorem sc_is_bead : FnScope ["value", "weight", "place", "speed"] ["value"] (defScope s_is_bead) := ⟨rfl, rfl, rfl, by decide +kernel, rfl, by decide +kernel, by decide +kernel⟩
def b_is_bead : Sv := (sSeq (sIf (qOr (qNot (qV (eIsi "tuple" (eVar 0)))) (eOp neD (eB lenB (aCons (eVar 0) aNil)) (eC (.int 3)))) (sRet (eC (.bl false))) sNext) (sSeq (sAsg (eVar 0) (gTp (gsCons (gNm 1) (gsCons (gNm 2) (gsCons (gNm 3) gsNil))))) (sRet (qAnd (eCall m_is_weight (aCons (eVar 1) aNil)) (qAnd (eCall m_is_row_share (aCons (eVar 2) aNil)) (eCall m_is_row_share (aCons (eVar 3) aNil)))))))
def m_is_bead : List D → Option Out := fnSem 1 3 b_is_bead
theorem ok_is_bead (Z : Txt K mg) (Y : Txe K mg T) (C_is_weight : Cl P w K mg base (CXf P w) T "is_weight" ["value"] 2 m_is_weight) (C_is_row_share : Cl P w K mg base (CXf P w) T "is_row_share" ["value"] 3 m_is_row_share) {f : Addr} {fd : FuncData} (F : FunD K "is_bead" "is_bead" s_is_bead .none f fd) (hm : mg "is_bead" = some (.ref f)) (hb : Binds K fd ["value"] []) : Cl P w K mg base (CXf P w) T "is_bead" ["value"] 4 m_is_bead :=
  ⟨f, fd, fnx_okJ (fb := b_is_bead) (k := 3) F sc_is_bead (by kernel_rfl) (by kernel_rfl) (fun cdv A outer s H E hr =>
    (jb_cons (js_if (JW.pt (jw_or (jt_not (jt_val (je_isi (jv 0) (by kernel_rfl) Z.n_isinstance (by kernel_rfl) Z.n_tuple (by decide +kernel)))) (jw_or1 (jt_cmp (jp_ne hr.units) (je_callB jc_len (by kernel_rfl) Z.n_len (by decide +kernel) (ja_cons (jv 0) ja_nil)) je_int (nobehind _ (by decide) (by decide)))))) (jb_one (js_ret je_bl)) jb_nil) (jb_cons (js_asg (jv 0) (jg_tup (by kernel_rfl) (jgs_cons (jg_name (i := 1) sc_is_bead.nd (by kernel_rfl) (Or.inl (by kernel_rfl))) (jgs_cons (jg_name (i := 2) sc_is_bead.nd (by kernel_rfl) (Or.inl (by kernel_rfl))) (jgs_cons (jg_name (i := 3) sc_is_bead.nd (by kernel_rfl) (Or.inl (by kernel_rfl))) jgs_nil))) (gl_cons (gl_cons (gl_cons gl_nil))))) (jb_one (js_ret (je_and (je_c C_is_weight (hr.mono (by decide)) passF (by kernel_rfl) (ja_cons (jv 1) ja_nil)) (je_and (je_c C_is_row_share (hr.mono (by decide)) passF (by kernel_rfl) (ja_cons (jv 2) ja_nil)) (je_one (je_c C_is_row_share (hr.mono (by decide)) passF (by kernel_rfl) (ja_cons (jv 3) ja_nil)))))))))), hm, F.kp, hb⟩
abbrev s_compared : Stmt := top 12
theorem sc_compared : FnScope ["one", "other", "left", "right"] ["one", "other"] (defScope s_compared) := ⟨rfl, rfl, rfl, by decide +kernel, rfl, by decide +kernel, by decide +kernel⟩
def b_compared : Sv := (sSeq (sAsg (eOp (i2 mulI) (eOp ixD (eVar 0) (eC (.int 0))) (eOp ixD (eVar 1) (eC (.int 1)))) (gNm 2)) (sSeq (sAsg (eOp (i2 mulI) (eOp ixD (eVar 1) (eC (.int 0))) (eOp ixD (eVar 0) (eC (.int 1)))) (gNm 3)) (sSeq (sIf (eOp (i2 gtI) (eVar 2) (eVar 3)) (sRet (eC (.int 1))) sNext) (sSeq (sIf (eOp (i2 ltI) (eVar 2) (eVar 3)) (sRet (eNeg (eC (.int 1)))) sNext) (sRet (eC (.int 0)))))))
def m_compared : List D → Option Out := fnSem 2 2 b_compared
theorem ok_compared (Z : Txt K mg) (Y : Txe K mg T) {f : Addr} {fd : FuncData} (F : FunD K "compared" "compared" s_compared .none f fd) (hm : mg "compared" = some (.ref f)) (hb : Binds K fd ["one", "other"] []) : Cl P w K mg base (CXf P w) T "compared" ["one", "other"] 1 m_compared :=
  ⟨f, fd, fnx_okJ (fb := b_compared) (k := 0) F sc_compared (by kernel_rfl) (by kernel_rfl) (fun cdv A outer s H E hr =>
    (jb_cons (js_set (i := 2) sc_compared.nd (by kernel_rfl) (Or.inl (by kernel_rfl)) (je_op jp_mul (je_ix (jv 0) je_int) (je_ix (jv 1) je_int))) (jb_cons (js_set (i := 3) sc_compared.nd (by kernel_rfl) (Or.inl (by kernel_rfl)) (je_op jp_mul (je_ix (jv 1) je_int) (je_ix (jv 0) je_int))) (jb_cons (js_if (jt_cmp jp_gt (jv 2) (jv 3) (nobehind _ (by decide) (by decide))) (jb_one (js_ret je_int)) jb_nil) (jb_cons (js_if (jt_cmp jp_lt (jv 2) (jv 3) (nobehind _ (by decide) (by decide))) (jb_one (js_ret (je_neg je_int))) jb_nil) (jb_one (js_ret je_int))))))), hm, F.kp, hb⟩
abbrev s_places_rise : Stmt := top 21
theorem sc_places_rise : FnScope ["beads", "at"] ["beads"] (defScope s_places_rise) := ⟨rfl, rfl, rfl, by decide +kernel, rfl, by decide +kernel, by decide +kernel⟩
def b_places_rise : Sv := (sRet (eB allB (aCons (eFr (lComp (wRng2 (aCons (eC (.int 1)) (aCons (eB lenB (aCons (eVar 0) aNil)) aNil))) (gNm 1) qYes (eOp (i2 ltI) (eCall m_compared (aCons (eOp ixD (eOp ixD (eVar 0) (eOp (i2 subI) (eVar 1) (eC (.int 1)))) (eC (.int 1))) (aCons (eOp ixD (eOp ixD (eVar 0) (eVar 1)) (eC (.int 1))) aNil))) (eC (.int 0))) [1])) aNil)))
def m_places_rise : List D → Option Out := fnSem 1 1 b_places_rise
theorem ok_places_rise (Z : Txt K mg) (Y : Txe K mg T) (C_compared : Cl P w K mg base (CXf P w) T "compared" ["one", "other"] 1 m_compared) {f : Addr} {fd : FuncData} (F : FunD K "places_rise" "places_rise" s_places_rise .none f fd) (hm : mg "places_rise" = some (.ref f)) (hb : Binds K fd ["beads"] []) : Cl P w K mg base (CXf P w) T "places_rise" ["beads"] 2 m_places_rise :=
  ⟨f, fd, fnx_okJ (fb := b_places_rise) (k := 1) F sc_places_rise (by kernel_rfl) (by kernel_rfl) (fun cdv A outer s H E hr =>
    (jb_one (js_ret (je_callB (jc_all (by kernel_rfl)) (by kernel_rfl) Z.n_all (by decide +kernel) (ja_cons (je_fr (jf_lc (own := [("at", 1)]) (by kernel_rfl) sc_places_rise.nd (ji_range2 (by kernel_rfl) Z.n_range (ja_cons je_int (ja_cons (je_callB jc_len (by kernel_rfl) Z.n_len (by decide +kernel) (ja_cons (jv 0 (hv := Or.inr (Or.inl (by kernel_rfl)))) ja_nil)) ja_nil))) (blkOk_by (by kernel_rfl)) (fun _ _ _ _ _ => (jg_name (i := 1) sc_places_rise.nd (by kernel_rfl) (Or.inl (by kernel_rfl)) (hf := Or.inr (by kernel_rfl)))) (fun _ _ _ _ _ => jts_nil) (fun _ _ _ _ _ => (je_cmp jp_lt (je_c C_compared (hr.mono (by decide)) passN (by kernel_rfl) (ja_cons (je_ix (je_ix (jv 0 (hv := Or.inr (Or.inl (by kernel_rfl)))) (je_op jp_sub (jv 1) je_int)) je_int) (ja_cons (je_ix (je_ix (jv 0 (hv := Or.inr (Or.inl (by kernel_rfl)))) (jv 1)) je_int) ja_nil))) je_int (nobehind _ (by decide) (by decide)))) (by decide))) ja_nil))))), hm, F.kp, hb⟩
abbrev s_is_row : Stmt := top 22
theorem sc_is_row : FnScope ["value", "bead"] ["value"] (defScope s_is_row) := ⟨rfl, rfl, rfl, by decide +kernel, rfl, by decide +kernel, by decide +kernel⟩
def b_is_row : Sv := (sSeq (sIf (qOr (qNot (qV (eIsi "list" (eVar 0)))) (qNot (eChain (i2 leI) (i2 leI) (eC (.int 1)) (eB lenB (aCons (eVar 0) aNil)) (eC (.int 10))))) (sRet (eC (.bl false))) sNext) (sRet (qAnd (eB allB (aCons (eFr (lComp (wSeq (eVar 0)) (gNm 1) qYes (eCall m_is_bead (aCons (eVar 1) aNil)) [1])) aNil)) (eCall m_places_rise (aCons (eVar 0) aNil)))))
def m_is_row : List D → Option Out := fnSem 1 1 b_is_row
theorem ok_is_row (Z : Txt K mg) (Y : Txe K mg T) (C_is_bead : Cl P w K mg base (CXf P w) T "is_bead" ["value"] 4 m_is_bead) (C_places_rise : Cl P w K mg base (CXf P w) T "places_rise" ["beads"] 2 m_places_rise) {f : Addr} {fd : FuncData} (F : FunD K "is_row" "is_row" s_is_row .none f fd) (hm : mg "is_row" = some (.ref f)) (hb : Binds K fd ["value"] []) : Cl P w K mg base (CXf P w) T "is_row" ["value"] 5 m_is_row :=
  ⟨f, fd, fnx_okJ (fb := b_is_row) (k := 4) F sc_is_row (by kernel_rfl) (by kernel_rfl) (fun cdv A outer s H E hr =>
    (jb_cons (js_if (JW.pt (jw_or (jt_not (jt_val (je_isi (jv 0) (by kernel_rfl) Z.n_isinstance (by kernel_rfl) Z.n_list (by decide +kernel)))) (jw_or1 (jt_not (jt_chain jp_le jp_le je_int (je_callB jc_len (by kernel_rfl) Z.n_len (by decide +kernel) (ja_cons (jv 0) ja_nil)) (je_gi (by kernel_rfl) Z.g_MOST_BEADS)))))) (jb_one (js_ret je_bl)) jb_nil) (jb_one (js_ret (je_and (je_callB (jc_all (by kernel_rfl)) (by kernel_rfl) Z.n_all (by decide +kernel) (ja_cons (je_fr (jf_lc (own := [("bead", 1)]) (by kernel_rfl) sc_is_row.nd (ji_list (jv 0)) (blkOk_by (by kernel_rfl)) (fun _ _ _ _ _ => (jg_name (i := 1) sc_is_row.nd (by kernel_rfl) (Or.inl (by kernel_rfl)) (hf := Or.inr (by kernel_rfl)))) (fun _ _ _ _ _ => jts_nil) (fun _ _ _ _ _ => (je_c C_is_bead (hr.mono (by decide)) passN (by kernel_rfl) (ja_cons (jv 1) ja_nil))) (by decide))) ja_nil)) (je_one (je_c C_places_rise (hr.mono (by decide)) passF (by kernel_rfl) (ja_cons (jv 0) ja_nil)))))))), hm, F.kp, hb⟩
abbrev s_need_row : Stmt := top 23
theorem sc_need_row : FnScope ["row"] ["row"] (defScope s_need_row) := ⟨rfl, rfl, rfl, by decide +kernel, rfl, by decide +kernel, by decide +kernel⟩
def b_need_row : Sv := (sIf (qNot (qV (eCall m_is_row (aCons (eVar 0) aNil)))) (sExc (eC (.str "a row is a list of 1 to 10 beads whose places rise")) 1) sNext)
def m_need_row : List D → Option Out := fnSem 1 0 b_need_row
theorem ok_need_row (Z : Txt K mg) (Y : Txe K mg T) (C_is_row : Cl P w K mg base (CXf P w) T "is_row" ["value"] 5 m_is_row) {f : Addr} {fd : FuncData} (F : FunD K "need_row" "need_row" s_need_row .none f fd) (hm : mg "need_row" = some (.ref f)) (hb : Binds K fd ["row"] []) : Cl P w K mg base (CXf P w) T "need_row" ["row"] 6 m_need_row :=
  ⟨f, fd, fnx_okJ (fb := b_need_row) (k := 5) F sc_need_row (by kernel_rfl) (by kernel_rfl) (fun cdv A outer s H E hr =>
    (jb_one (js_if (jt_not (jt_val (je_c C_is_row (hr.mono (by decide)) passF (by kernel_rfl) (ja_cons (jv 0) ja_nil)))) (jb_one (js_rz raiseF (by kernel_rfl) (by kernel_rfl) Y.x_BadRow je_str)) jb_nil))), hm, F.kp, hb⟩
abbrev s_runs_of : Stmt := top 25
theorem sc_runs_of : FnScope ["row", "at", "weight", "place", "speed"] ["row"] (defScope s_runs_of) := ⟨rfl, rfl, rfl, by decide +kernel, rfl, by decide +kernel, by decide +kernel⟩
def b_runs_of : Sv := (sRet (eFr (lComp (wEnum (aCons (eVar 0) aNil)) (gTp (gsCons (gNm 1) (gsCons (gTp (gsCons (gNm 2) (gsCons (gNm 3) (gsCons (gNm 4) gsNil)))) gsNil))) qYes (eTup (aCons (eVar 1) (aCons (eVar 1) (aCons (eVar 3) (aCons (eVar 4) aNil))))) [1, 2, 3, 4])))
def m_runs_of : List D → Option Out := fnSem 1 4 b_runs_of
theorem ok_runs_of (Z : Txt K mg) (Y : Txe K mg T) {f : Addr} {fd : FuncData} (F : FunD K "runs_of" "runs_of" s_runs_of .none f fd) (hm : mg "runs_of" = some (.ref f)) (hb : Binds K fd ["row"] []) : Cl P w K mg base (CXf P w) T "runs_of" ["row"] 1 m_runs_of :=
  ⟨f, fd, fnx_okJ (fb := b_runs_of) (k := 0) F sc_runs_of (by kernel_rfl) (by kernel_rfl) (fun cdv A outer s H E hr =>
    (jb_one (js_ret (je_fr (jf_lc (own := [("at", 1), ("weight", 2), ("place", 3), ("speed", 4)]) (by kernel_rfl) sc_runs_of.nd (ji_enum (by kernel_rfl) Z.n_enumerate (ja_cons (jv 0) ja_nil)) (blkOk_by (by kernel_rfl)) (fun _ _ _ _ _ => (jg_tup (by kernel_rfl) (jgs_cons (jg_name (i := 1) sc_runs_of.nd (by kernel_rfl) (Or.inl (by kernel_rfl)) (hf := Or.inr (by kernel_rfl))) (jgs_cons (jg_tup (by kernel_rfl) (jgs_cons (jg_name (i := 2) sc_runs_of.nd (by kernel_rfl) (Or.inl (by kernel_rfl)) (hf := Or.inr (by kernel_rfl))) (jgs_cons (jg_name (i := 3) sc_runs_of.nd (by kernel_rfl) (Or.inl (by kernel_rfl)) (hf := Or.inr (by kernel_rfl))) (jgs_cons (jg_name (i := 4) sc_runs_of.nd (by kernel_rfl) (Or.inl (by kernel_rfl)) (hf := Or.inr (by kernel_rfl))) jgs_nil))) (gl_cons (gl_cons (gl_cons gl_nil)))) jgs_nil)) (gl_cons (gl_cons gl_nil)))) (fun _ _ _ _ _ => jts_nil) (fun _ _ _ _ _ => (je_tup (ja_cons (jv 1) (ja_cons (jv 1) (ja_cons (jv 3) (ja_cons (jv 4) ja_nil)))))) (by decide)))))), hm, F.kp, hb⟩
abbrev s_lowest : Stmt := top 6
theorem sc_lowest : FnScope ["top", "bottom", "divisor"] ["top", "bottom"] (defScope s_lowest) := ⟨rfl, rfl, rfl, by decide +kernel, rfl, by decide +kernel, by decide +kernel⟩
def b_lowest : Sv := (sSeq (sIf (eOp (i2 ltI) (eVar 1) (eC (.int 0))) (sPar 0 1 (eNeg (eVar 0)) (eNeg (eVar 1))) sNext) (sSeq (sAsg (eCall m_common (aCons (eVar 0) (aCons (eVar 1) aNil))) (gNm 2)) (sRet (eTup (aCons (eOp (i2 divI) (eVar 0) (eVar 2)) (aCons (eOp (i2 divI) (eVar 1) (eVar 2)) aNil))))))
def m_lowest : List D → Option Out := fnSem 2 1 b_lowest
theorem ok_lowest (Z : Txt K mg) (Y : Txe K mg T) (C_common : Cl P w K mg base (CXf P w) T "common" ["one", "other"] 1 m_common) {f : Addr} {fd : FuncData} (F : FunD K "lowest" "lowest" s_lowest .none f fd) (hm : mg "lowest" = some (.ref f)) (hb : Binds K fd ["top", "bottom"] []) : Cl P w K mg base (CXf P w) T "lowest" ["top", "bottom"] 2 m_lowest :=
  ⟨f, fd, fnx_okJ (fb := b_lowest) (k := 1) F sc_lowest (by kernel_rfl) (by kernel_rfl) (fun cdv A outer s H E hr =>
    (jb_cons (js_if (jt_cmp jp_lt (jv 1) je_int (nobehind _ (by decide) (by decide))) (jb_one (js_par (i := 0) (j := 1) (by kernel_rfl) sc_lowest.nd (by kernel_rfl) (by kernel_rfl) (by decide) (by kernel_rfl) (by kernel_rfl) (je_neg (jv 0)) (je_neg (jv 1)))) jb_nil) (jb_cons (js_set (i := 2) sc_lowest.nd (by kernel_rfl) (Or.inl (by kernel_rfl)) (je_c C_common (hr.mono (by decide)) passF (by kernel_rfl) (ja_cons (jv 0) (ja_cons (jv 1) ja_nil)))) (jb_one (js_ret (je_tup (ja_cons (je_op jp_div (jv 0) (jv 2)) (ja_cons (je_op jp_div (jv 1) (jv 2)) ja_nil)))))))), hm, F.kp, hb⟩
abbrev s_lessened : Stmt := top 9
theorem sc_lessened : FnScope ["one", "other"] ["one", "other"] (defScope s_lessened) := ⟨rfl, rfl, rfl, by decide +kernel, rfl, by decide +kernel, by decide +kernel⟩
def b_lessened : Sv := (sRet (eCall m_lowest (aCons (eOp (i2 subI) (eOp (i2 mulI) (eOp ixD (eVar 0) (eC (.int 0))) (eOp ixD (eVar 1) (eC (.int 1)))) (eOp (i2 mulI) (eOp ixD (eVar 1) (eC (.int 0))) (eOp ixD (eVar 0) (eC (.int 1))))) (aCons (eOp (i2 mulI) (eOp ixD (eVar 0) (eC (.int 1))) (eOp ixD (eVar 1) (eC (.int 1)))) aNil))))
def m_lessened : List D → Option Out := fnSem 2 0 b_lessened
theorem ok_lessened (Z : Txt K mg) (Y : Txe K mg T) (C_lowest : Cl P w K mg base (CXf P w) T "lowest" ["top", "bottom"] 2 m_lowest) {f : Addr} {fd : FuncData} (F : FunD K "lessened" "lessened" s_lessened .none f fd) (hm : mg "lessened" = some (.ref f)) (hb : Binds K fd ["one", "other"] []) : Cl P w K mg base (CXf P w) T "lessened" ["one", "other"] 3 m_lessened :=
  ⟨f, fd, fnx_okJ (fb := b_lessened) (k := 2) F sc_lessened (by kernel_rfl) (by kernel_rfl) (fun cdv A outer s H E hr =>
    (jb_one (js_ret (je_c C_lowest (hr.mono (by decide)) passF (by kernel_rfl) (ja_cons (je_op jp_sub (je_op jp_mul (je_ix (jv 0) je_int) (je_ix (jv 1) je_int)) (je_op jp_mul (je_ix (jv 1) je_int) (je_ix (jv 0) je_int))) (ja_cons (je_op jp_mul (je_ix (jv 0) je_int) (je_ix (jv 1) je_int)) ja_nil)))))), hm, F.kp, hb⟩
abbrev s_parted : Stmt := top 11
theorem sc_parted : FnScope ["one", "other"] ["one", "other"] (defScope s_parted) := ⟨rfl, rfl, rfl, by decide +kernel, rfl, by decide +kernel, by decide +kernel⟩
def b_parted : Sv := (sRet (eCall m_lowest (aCons (eOp (i2 mulI) (eOp ixD (eVar 0) (eC (.int 0))) (eOp ixD (eVar 1) (eC (.int 1)))) (aCons (eOp (i2 mulI) (eOp ixD (eVar 0) (eC (.int 1))) (eOp ixD (eVar 1) (eC (.int 0)))) aNil))))
def m_parted : List D → Option Out := fnSem 2 0 b_parted
theorem ok_parted (Z : Txt K mg) (Y : Txe K mg T) (C_lowest : Cl P w K mg base (CXf P w) T "lowest" ["top", "bottom"] 2 m_lowest) {f : Addr} {fd : FuncData} (F : FunD K "parted" "parted" s_parted .none f fd) (hm : mg "parted" = some (.ref f)) (hb : Binds K fd ["one", "other"] []) : Cl P w K mg base (CXf P w) T "parted" ["one", "other"] 3 m_parted :=
  ⟨f, fd, fnx_okJ (fb := b_parted) (k := 2) F sc_parted (by kernel_rfl) (by kernel_rfl) (fun cdv A outer s H E hr =>
    (jb_one (js_ret (je_c C_lowest (hr.mono (by decide)) passF (by kernel_rfl) (ja_cons (je_op jp_mul (je_ix (jv 0) je_int) (je_ix (jv 1) je_int)) (ja_cons (je_op jp_mul (je_ix (jv 0) je_int) (je_ix (jv 1) je_int)) ja_nil)))))), hm, F.kp, hb⟩
abbrev s_wait_between : Stmt := top 27
theorem sc_wait_between : FnScope ["one", "other", "closing", "first", "last", "place", "speed", "other_first", "other_last", "other_place", "other_speed"] ["one", "other"] (defScope s_wait_between) := ⟨rfl, rfl, rfl, by decide +kernel, rfl, by decide +kernel, by decide +kernel⟩
def b_wait_between : Sv := (sSeq (sAsg (eVar 0) (gTp (gsCons (gNm 3) (gsCons (gNm 4) (gsCons (gNm 5) (gsCons (gNm 6) gsNil)))))) (sSeq (sAsg (eVar 1) (gTp (gsCons (gNm 7) (gsCons (gNm 8) (gsCons (gNm 9) (gsCons (gNm 10) gsNil)))))) (sSeq (sAsg (eCall m_lessened (aCons (eVar 6) (aCons (eVar 10) aNil))) (gNm 2)) (sSeq (sIf (eOp (i2 leI) (eOp ixD (eVar 2) (eC (.int 0))) (eC (.int 0))) (sRet (eC .non)) sNext) (sRet (eCall m_parted (aCons (eCall m_lessened (aCons (eVar 9) (aCons (eVar 5) aNil))) (aCons (eVar 2) aNil))))))))
def m_wait_between : List D → Option Out := fnSem 2 9 b_wait_between
theorem ok_wait_between (Z : Txt K mg) (Y : Txe K mg T) (C_lessened : Cl P w K mg base (CXf P w) T "lessened" ["one", "other"] 3 m_lessened) (C_parted : Cl P w K mg base (CXf P w) T "parted" ["one", "other"] 3 m_parted) {f : Addr} {fd : FuncData} (F : FunD K "wait_between" "wait_between" s_wait_between .none f fd) (hm : mg "wait_between" = some (.ref f)) (hb : Binds K fd ["one", "other"] []) : Cl P w K mg base (CXf P w) T "wait_between" ["one", "other"] 4 m_wait_between :=
  ⟨f, fd, fnx_okJ (fb := b_wait_between) (k := 3) F sc_wait_between (by kernel_rfl) (by kernel_rfl) (fun cdv A outer s H E hr =>
    (jb_cons (js_asg (jv 0) (jg_tup (by kernel_rfl) (jgs_cons (jg_name (i := 3) sc_wait_between.nd (by kernel_rfl) (Or.inl (by kernel_rfl))) (jgs_cons (jg_name (i := 4) sc_wait_between.nd (by kernel_rfl) (Or.inl (by kernel_rfl))) (jgs_cons (jg_name (i := 5) sc_wait_between.nd (by kernel_rfl) (Or.inl (by kernel_rfl))) (jgs_cons (jg_name (i := 6) sc_wait_between.nd (by kernel_rfl) (Or.inl (by kernel_rfl))) jgs_nil)))) (gl_cons (gl_cons (gl_cons (gl_cons gl_nil)))))) (jb_cons (js_asg (jv 1) (jg_tup (by kernel_rfl) (jgs_cons (jg_name (i := 7) sc_wait_between.nd (by kernel_rfl) (Or.inl (by kernel_rfl))) (jgs_cons (jg_name (i := 8) sc_wait_between.nd (by kernel_rfl) (Or.inl (by kernel_rfl))) (jgs_cons (jg_name (i := 9) sc_wait_between.nd (by kernel_rfl) (Or.inl (by kernel_rfl))) (jgs_cons (jg_name (i := 10) sc_wait_between.nd (by kernel_rfl) (Or.inl (by kernel_rfl))) jgs_nil)))) (gl_cons (gl_cons (gl_cons (gl_cons gl_nil)))))) (jb_cons (js_set (i := 2) sc_wait_between.nd (by kernel_rfl) (Or.inl (by kernel_rfl)) (je_c C_lessened (hr.mono (by decide)) passF (by kernel_rfl) (ja_cons (jv 6) (ja_cons (jv 10) ja_nil)))) (jb_cons (js_if (jt_cmp jp_le (je_ix (jv 2) je_int) je_int (nobehind _ (by decide) (by decide))) (jb_one (js_ret je_non)) jb_nil) (jb_one (js_ret (je_c C_parted (hr.mono (by decide)) passF (by kernel_rfl) (ja_cons (je_c C_lessened (hr.mono (by decide)) passF (by kernel_rfl) (ja_cons (jv 9) (ja_cons (jv 5) ja_nil))) (ja_cons (jv 2) ja_nil)))))))))), hm, F.kp, hb⟩
abbrev s_first_wait : Stmt := top 28
theorem sc_first_wait : FnScope ["runs", "least", "at", "wait"] ["runs"] (defScope s_first_wait) := ⟨rfl, rfl, rfl, by decide +kernel, rfl, by decide +kernel, by decide +kernel⟩
def l1_first_wait : Sv := (sSeq (sAsg (eCall m_wait_between (aCons (eOp ixD (eVar 0) (eOp (i2 subI) (eVar 2) (eC (.int 1)))) (aCons (eOp ixD (eVar 0) (eVar 2)) aNil))) (gNm 3)) (sIf (qAnd (eOp isntD (eVar 3) (eC .non)) (qOr (eOp isD (eVar 1) (eC .non)) (eOp (i2 ltI) (eCall m_compared (aCons (eVar 3) (aCons (eVar 1) aNil))) (eC (.int 0))))) (sAsg (eVar 3) (gNm 1)) sNext))
def b_first_wait : Sv := (sSeq (sAsg (eC .non) (gNm 1)) (sSeq (sFor (wRng2 (aCons (eC (.int 1)) (aCons (eB lenB (aCons (eVar 0) aNil)) aNil))) (gNm 2) l1_first_wait) (sRet (eVar 1))))
def m_first_wait : List D → Option Out := fnSem 1 3 b_first_wait
theorem ok_first_wait (Z : Txt K mg) (Y : Txe K mg T) (C_wait_between : Cl P w K mg base (CXf P w) T "wait_between" ["one", "other"] 4 m_wait_between) (C_compared : Cl P w K mg base (CXf P w) T "compared" ["one", "other"] 1 m_compared) {f : Addr} {fd : FuncData} (F : FunD K "first_wait" "first_wait" s_first_wait .none f fd) (hm : mg "first_wait" = some (.ref f)) (hb : Binds K fd ["runs"] []) : Cl P w K mg base (CXf P w) T "first_wait" ["runs"] 5 m_first_wait :=
  ⟨f, fd, fnx_okJ (fb := b_first_wait) (k := 4) F sc_first_wait (by kernel_rfl) (by kernel_rfl) (fun cdv A outer s H E hr =>
    (jb_cons (js_set (i := 1) sc_first_wait.nd (by kernel_rfl) (Or.inl (by kernel_rfl)) je_non) (jb_cons (js_for passL (by kernel_rfl) (ji_range2 (by kernel_rfl) Z.n_range (ja_cons je_int (ja_cons (je_callB jc_len (by kernel_rfl) Z.n_len (by decide +kernel) (ja_cons (jv 0) ja_nil)) ja_nil))) (jg_name (i := 2) sc_first_wait.nd (by kernel_rfl) (Or.inl (by kernel_rfl))) (jb_cons (js_set (i := 3) sc_first_wait.nd (by kernel_rfl) (Or.inl (by kernel_rfl)) (je_c C_wait_between (hr.mono (by decide)) passF (by kernel_rfl) (ja_cons (je_ix (jv 0) (je_op jp_sub (jv 2) je_int)) (ja_cons (je_ix (jv 0) (jv 2)) ja_nil)))) (jb_one (js_if (JW.pt (jw_and (jt_cmp jp_isnt (jv 3) je_non (nobehind _ (by decide) (by decide))) (jw_and1 (JW.pt (jw_or (jt_cmp jp_is (jv 1) je_non (nobehind _ (by decide) (by decide))) (jw_or1 (jt_cmp jp_lt (je_c C_compared (hr.mono (by decide)) passF (by kernel_rfl) (ja_cons (jv 3) (ja_cons (jv 1) ja_nil))) je_int (nobehind _ (by decide) (by decide))))))))) (jb_one (js_set (i := 1) sc_first_wait.nd (by kernel_rfl) (Or.inl (by kernel_rfl)) (jv 3))) jb_nil)))) (jb_one (js_ret (jv 1)))))), hm, F.kp, hb⟩
abbrev s_part_stretch : Stmt := top 30
theorem sc_part_stretch : FnScope ["part"] ["part"] (defScope s_part_stretch) := ⟨rfl, rfl, rfl, by decide +kernel, rfl, by decide +kernel, by decide +kernel⟩
def b_part_stretch : Sv := (sRet (eTup (aCons (eOp ixD (eOp ixD (eVar 0) (eC (.int 0))) (eC (.int 0))) (aCons (eOp ixD (eOp ixD (eVar 0) (eNeg (eC (.int 1)))) (eC (.int 1))) aNil))))
def m_part_stretch : List D → Option Out := fnSem 1 0 b_part_stretch
theorem ok_part_stretch (Z : Txt K mg) (Y : Txe K mg T) {f : Addr} {fd : FuncData} (F : FunD K "part_stretch" "part_stretch" s_part_stretch .none f fd) (hm : mg "part_stretch" = some (.ref f)) (hb : Binds K fd ["part"] []) : Cl P w K mg base (CXf P w) T "part_stretch" ["part"] 1 m_part_stretch :=
  ⟨f, fd, fnx_okJ (fb := b_part_stretch) (k := 0) F sc_part_stretch (by kernel_rfl) (by kernel_rfl) (fun cdv A outer s H E hr =>
    (jb_one (js_ret (je_tup (ja_cons (je_ix (je_ix (jv 0) je_int) je_int) (ja_cons (je_ix (je_ix (jv 0) (je_neg je_int)) je_int) ja_nil)))))), hm, F.kp, hb⟩
abbrev s_met_stretches : Stmt := top 31
theorem sc_met_stretches : FnScope ["parts", "part"] ["parts"] (defScope s_met_stretches) := ⟨rfl, rfl, rfl, by decide +kernel, rfl, by decide +kernel, by decide +kernel⟩
def b_met_stretches : Sv := (sRet (eFr (lComp (wSeq (eVar 0)) (gNm 1) (eOp (i2 gtI) (eB lenB (aCons (eVar 1) aNil)) (eC (.int 1))) (eCall m_part_stretch (aCons (eVar 1) aNil)) [1])))
def m_met_stretches : List D → Option Out := fnSem 1 1 b_met_stretches
theorem ok_met_stretches (Z : Txt K mg) (Y : Txe K mg T) (C_part_stretch : Cl P w K mg base (CXf P w) T "part_stretch" ["part"] 1 m_part_stretch) {f : Addr} {fd : FuncData} (F : FunD K "met_stretches" "met_stretches" s_met_stretches .none f fd) (hm : mg "met_stretches" = some (.ref f)) (hb : Binds K fd ["parts"] []) : Cl P w K mg base (CXf P w) T "met_stretches" ["parts"] 2 m_met_stretches :=
  ⟨f, fd, fnx_okJ (fb := b_met_stretches) (k := 1) F sc_met_stretches (by kernel_rfl) (by kernel_rfl) (fun cdv A outer s H E hr =>
    (jb_one (js_ret (je_fr (jf_lc (own := [("part", 1)]) (by kernel_rfl) sc_met_stretches.nd (ji_list (jv 0)) (blkOk_by (by kernel_rfl)) (fun _ _ _ _ _ => (jg_name (i := 1) sc_met_stretches.nd (by kernel_rfl) (Or.inl (by kernel_rfl)) (hf := Or.inr (by kernel_rfl)))) (fun _ _ _ _ _ => (jts_one (jt_cmp jp_gt (je_callB jc_len (by kernel_rfl) Z.n_len (by decide +kernel) (ja_cons (jv 1) ja_nil)) je_int (nobehind _ (by decide) (by decide))))) (fun _ _ _ _ _ => (je_c C_part_stretch (hr.mono (by decide)) passN (by kernel_rfl) (ja_cons (jv 1) ja_nil))) (by decide)))))), hm, F.kp, hb⟩
abbrev s_by_places : Stmt := top 29
theorem sc_by_places : FnScope ["runs", "parts", "run"] ["runs"] (defScope s_by_places) := ⟨rfl, rfl, rfl, by decide +kernel, rfl, by decide +kernel, by decide +kernel⟩
def L1_by_places : MSv := (mIfS (mQ0 [1] (qAnd (qV (eVar 1)) (eOp eqD (eOp ixD (eOp ixD (eOp ixD (eVar 1) (eNeg (eC (.int 1)))) (eC (.int 0))) (eC (.int 2))) (eOp ixD (eVar 2) (eC (.int 2)))))) (mCApp (mIx (mL (eVar 1)) (mL (eNeg (eC (.int 1))))) (mL (eVar 2))) (mCApp (mL (eVar 1)) (mNew (lLst (aCons (eVar 2) aNil)))))
def B_by_places : MSv := (mSeq (mSet (mNew (lLst aNil)) 1) (mSeq (mFor (wSeqM (mL (eVar 0))) (gNm 2) L1_by_places) (mRet (mL (eVar 1)))))
def M_by_places : List D → Mem → Option (Out × Mem) := fnSemM 1 2 B_by_places
theorem okM_by_places (Z : Txt K mg) (Y : Txe K mg T) (hh : T.hd = none) {f : Addr} {fd : FuncData} (F : FunD K "by_places" "by_places" s_by_places .none f fd) (hm : mg "by_places" = some (.ref f)) (hb : Binds K fd ["runs"] []) : ClS P w K mg base (CXf P w) T "by_places" ["runs"] 1 M_by_places :=
  ⟨f, fd, fnS_okJ (fb := B_by_places) (k := 0) F sc_by_places (by kernel_rfl) (by kernel_rfl) (fun cdv A outer s H E hr =>
    (jb_consM (js_setM (i := 1) sc_by_places.nd (by kernel_rfl) (Or.inl (by kernel_rfl)) (jm_new Y.tab (fun φ => (jf_lst ja_nil)))) (jb_consM (js_forM Y.tab passL (by kernel_rfl) (mi_list (jm_lift Y.tab (fun φ => (jv 0)))) (fun φ => (jg_name (i := 2) sc_by_places.nd (by kernel_rfl) (Or.inl (by kernel_rfl)))) (jb_oneM (js_ifM (jmt_see0 (is := [1]) (fun φ => (JW.pt (jw_and (jt_val (jv 1)) (jw_and1 (jt_cmp (jp_eq hr.units) (je_ix (je_ix (je_ix (jv 1) (je_neg je_int)) je_int) je_int) (je_ix (jv 2) je_int) (nobehind _ (by decide) (by decide)))))))) (jb_oneM (js_capp (jm_ix (jm_lift Y.tab (fun φ => (jv 1))) (jm_lift Y.tab (fun φ => (je_neg je_int)))) (jm_lift Y.tab (fun φ => (jv 2))))) (jb_oneM (js_capp (jm_lift Y.tab (fun φ => (jv 1))) (jm_new Y.tab (fun φ => (jf_lst (ja_cons (jv 2) ja_nil))))))))) (jb_oneM (js_retM (jm_lift Y.tab (fun φ => (jv 1)))))))), hm, F.kp, hb⟩
def m_by_places : List D → Option Out := pSem M_by_places
abbrev s_added : Stmt := top 8
theorem sc_added : FnScope ["one", "other"] ["one", "other"] (defScope s_added) := ⟨rfl, rfl, rfl, by decide +kernel, rfl, by decide +kernel, by decide +kernel⟩
def b_added : Sv := (sRet (eCall m_lowest (aCons (eOp (i2 addI) (eOp (i2 mulI) (eOp ixD (eVar 0) (eC (.int 0))) (eOp ixD (eVar 1) (eC (.int 1)))) (eOp (i2 mulI) (eOp ixD (eVar 1) (eC (.int 0))) (eOp ixD (eVar 0) (eC (.int 1))))) (aCons (eOp (i2 mulI) (eOp ixD (eVar 0) (eC (.int 1))) (eOp ixD (eVar 1) (eC (.int 1)))) aNil))))
def m_added : List D → Option Out := fnSem 2 0 b_added
theorem ok_added (Z : Txt K mg) (Y : Txe K mg T) (C_lowest : Cl P w K mg base (CXf P w) T "lowest" ["top", "bottom"] 2 m_lowest) {f : Addr} {fd : FuncData} (F : FunD K "added" "added" s_added .none f fd) (hm : mg "added" = some (.ref f)) (hb : Binds K fd ["one", "other"] []) : Cl P w K mg base (CXf P w) T "added" ["one", "other"] 3 m_added :=
  ⟨f, fd, fnx_okJ (fb := b_added) (k := 2) F sc_added (by kernel_rfl) (by kernel_rfl) (fun cdv A outer s H E hr =>
    (jb_one (js_ret (je_c C_lowest (hr.mono (by decide)) passF (by kernel_rfl) (ja_cons (je_op jp_add (je_op jp_mul (je_ix (jv 0) je_int) (je_ix (jv 1) je_int)) (je_op jp_mul (je_ix (jv 1) je_int) (je_ix (jv 0) je_int))) (ja_cons (je_op jp_mul (je_ix (jv 0) je_int) (je_ix (jv 1) je_int)) ja_nil)))))), hm, F.kp, hb⟩
abbrev s_multiplied : Stmt := top 10
theorem sc_multiplied : FnScope ["one", "other"] ["one", "other"] (defScope s_multiplied) := ⟨rfl, rfl, rfl, by decide +kernel, rfl, by decide +kernel, by decide +kernel⟩
def b_multiplied : Sv := (sRet (eCall m_lowest (aCons (eOp (i2 mulI) (eOp ixD (eVar 0) (eC (.int 0))) (eOp ixD (eVar 1) (eC (.int 0)))) (aCons (eOp (i2 mulI) (eOp ixD (eVar 0) (eC (.int 1))) (eOp ixD (eVar 1) (eC (.int 1)))) aNil))))
def m_multiplied : List D → Option Out := fnSem 2 0 b_multiplied
theorem ok_multiplied (Z : Txt K mg) (Y : Txe K mg T) (C_lowest : Cl P w K mg base (CXf P w) T "lowest" ["top", "bottom"] 2 m_lowest) {f : Addr} {fd : FuncData} (F : FunD K "multiplied" "multiplied" s_multiplied .none f fd) (hm : mg "multiplied" = some (.ref f)) (hb : Binds K fd ["one", "other"] []) : Cl P w K mg base (CXf P w) T "multiplied" ["one", "other"] 3 m_multiplied :=
  ⟨f, fd, fnx_okJ (fb := b_multiplied) (k := 2) F sc_multiplied (by kernel_rfl) (by kernel_rfl) (fun cdv A outer s H E hr =>
    (jb_one (js_ret (je_c C_lowest (hr.mono (by decide)) passF (by kernel_rfl) (ja_cons (je_op jp_mul (je_ix (jv 0) je_int) (je_ix (jv 1) je_int)) (ja_cons (je_op jp_mul (je_ix (jv 0) je_int) (je_ix (jv 1) je_int)) ja_nil)))))), hm, F.kp, hb⟩
abbrev s_moved : Stmt := top 26
theorem sc_moved : FnScope ["runs", "wait", "first", "last", "place", "speed"] ["runs", "wait"] (defScope s_moved) := ⟨rfl, rfl, rfl, by decide +kernel, rfl, by decide +kernel, by decide +kernel⟩
def b_moved : Sv := (sRet (eFr (lComp (wSeq (eVar 0)) (gTp (gsCons (gNm 2) (gsCons (gNm 3) (gsCons (gNm 4) (gsCons (gNm 5) gsNil))))) qYes (eTup (aCons (eVar 2) (aCons (eVar 3) (aCons (eCall m_added (aCons (eVar 4) (aCons (eCall m_multiplied (aCons (eVar 5) (aCons (eVar 1) aNil))) aNil))) (aCons (eVar 5) aNil))))) [2, 3, 4, 5])))
def m_moved : List D → Option Out := fnSem 2 4 b_moved
theorem ok_moved (Z : Txt K mg) (Y : Txe K mg T) (C_added : Cl P w K mg base (CXf P w) T "added" ["one", "other"] 3 m_added) (C_multiplied : Cl P w K mg base (CXf P w) T "multiplied" ["one", "other"] 3 m_multiplied) {f : Addr} {fd : FuncData} (F : FunD K "moved" "moved" s_moved .none f fd) (hm : mg "moved" = some (.ref f)) (hb : Binds K fd ["runs", "wait"] []) : Cl P w K mg base (CXf P w) T "moved" ["runs", "wait"] 4 m_moved :=
  ⟨f, fd, fnx_okJ (fb := b_moved) (k := 3) F sc_moved (by kernel_rfl) (by kernel_rfl) (fun cdv A outer s H E hr =>
    (jb_one (js_ret (je_fr (jf_lc (own := [("first", 2), ("last", 3), ("place", 4), ("speed", 5)]) (by kernel_rfl) sc_moved.nd (ji_list (jv 0)) (blkOk_by (by kernel_rfl)) (fun _ _ _ _ _ => (jg_tup (by kernel_rfl) (jgs_cons (jg_name (i := 2) sc_moved.nd (by kernel_rfl) (Or.inl (by kernel_rfl)) (hf := Or.inr (by kernel_rfl))) (jgs_cons (jg_name (i := 3) sc_moved.nd (by kernel_rfl) (Or.inl (by kernel_rfl)) (hf := Or.inr (by kernel_rfl))) (jgs_cons (jg_name (i := 4) sc_moved.nd (by kernel_rfl) (Or.inl (by kernel_rfl)) (hf := Or.inr (by kernel_rfl))) (jgs_cons (jg_name (i := 5) sc_moved.nd (by kernel_rfl) (Or.inl (by kernel_rfl)) (hf := Or.inr (by kernel_rfl))) jgs_nil)))) (gl_cons (gl_cons (gl_cons (gl_cons gl_nil)))))) (fun _ _ _ _ _ => jts_nil) (fun _ _ _ _ _ => (je_tup (ja_cons (jv 2) (ja_cons (jv 3) (ja_cons (je_c C_added (hr.mono (by decide)) passN (by kernel_rfl) (ja_cons (jv 4) (ja_cons (je_c C_multiplied (hr.mono (by decide)) passN (by kernel_rfl) (ja_cons (jv 5) (ja_cons (jv 1 (hv := Or.inr (Or.inl (by kernel_rfl)))) ja_nil))) ja_nil))) (ja_cons (jv 5) ja_nil)))))) (by decide)))))), hm, F.kp, hb⟩
abbrev s_first_meet : Stmt := top 33
theorem sc_first_meet : FnScope ["row", "runs", "wait"] ["row"] (defScope s_first_meet) := ⟨rfl, rfl, rfl, by decide +kernel, rfl, by decide +kernel, by decide +kernel⟩
def b_first_meet : Sv := (sSeq (sExpr (eCall m_need_row (aCons (eVar 0) aNil))) (sSeq (sAsg (eCall m_runs_of (aCons (eVar 0) aNil)) (gNm 1)) (sSeq (sAsg (eCall m_first_wait (aCons (eVar 1) aNil)) (gNm 2)) (sSeq (sIf (eOp isD (eVar 2) (eC .non)) (sRet (eC .non)) sNext) (sRet (eTup (aCons (eVar 2) (aCons (eCall m_met_stretches (aCons (eCall m_by_places (aCons (eCall m_moved (aCons (eVar 1) (aCons (eVar 2) aNil))) aNil)) aNil)) aNil))))))))
def m_first_meet : List D → Option Out := fnSem 1 2 b_first_meet
theorem ok_first_meet (Z : Txt K mg) (Y : Txe K mg T) (C_need_row : Cl P w K mg base (CXf P w) T "need_row" ["row"] 6 m_need_row) (C_runs_of : Cl P w K mg base (CXf P w) T "runs_of" ["row"] 1 m_runs_of) (C_first_wait : Cl P w K mg base (CXf P w) T "first_wait" ["runs"] 5 m_first_wait) (C_met_stretches : Cl P w K mg base (CXf P w) T "met_stretches" ["parts"] 2 m_met_stretches) (C_by_places : Cl P w K mg base (CXf P w) T "by_places" ["runs"] 1 m_by_places) (C_moved : Cl P w K mg base (CXf P w) T "moved" ["runs", "wait"] 4 m_moved) {f : Addr} {fd : FuncData} (F : FunD K "first_meet" "first_meet" s_first_meet .none f fd) (hm : mg "first_meet" = some (.ref f)) (hb : Binds K fd ["row"] []) : Cl P w K mg base (CXf P w) T "first_meet" ["row"] 7 m_first_meet :=
  ⟨f, fd, fnx_okJ (fb := b_first_meet) (k := 6) F sc_first_meet (by kernel_rfl) (by kernel_rfl) (fun cdv A outer s H E hr =>
    (jb_cons (js_expr (je_c C_need_row (hr.mono (by decide)) passF (by kernel_rfl) (ja_cons (jv 0) ja_nil))) (jb_cons (js_set (i := 1) sc_first_meet.nd (by kernel_rfl) (Or.inl (by kernel_rfl)) (je_c C_runs_of (hr.mono (by decide)) passF (by kernel_rfl) (ja_cons (jv 0) ja_nil))) (jb_cons (js_set (i := 2) sc_first_meet.nd (by kernel_rfl) (Or.inl (by kernel_rfl)) (je_c C_first_wait (hr.mono (by decide)) passF (by kernel_rfl) (ja_cons (jv 1) ja_nil))) (jb_cons (js_if (jt_cmp jp_is (jv 2) je_non (nobehind _ (by decide) (by decide))) (jb_one (js_ret je_non)) jb_nil) (jb_one (js_ret (je_tup (ja_cons (jv 2) (ja_cons (je_c C_met_stretches (hr.mono (by decide)) passF (by kernel_rfl) (ja_cons (je_c C_by_places (hr.mono (by decide)) passF (by kernel_rfl) (ja_cons (je_c C_moved (hr.mono (by decide)) passF (by kernel_rfl) (ja_cons (jv 1) (ja_cons (jv 2) ja_nil))) ja_nil)) ja_nil)) ja_nil)))))))))), hm, F.kp, hb⟩
abbrev s_q_far : Stmt := top 39
theorem sc_q_far : FnScope ["_law_one", "_law_other"] ["_law_one", "_law_other"] (defScope s_q_far) := ⟨rfl, rfl, rfl, by decide +kernel, rfl, by decide +kernel, by decide +kernel⟩
def b_q_far : Sv := (sRet (eOp (i2 subI) (eOp (i2 mulI) (eOp ixD (eVar 0) (eC (.int 0))) (eOp ixD (eVar 1) (eC (.int 1)))) (eOp (i2 mulI) (eOp ixD (eVar 1) (eC (.int 0))) (eOp ixD (eVar 0) (eC (.int 1))))))
def m_q_far : List D → Option Out := fnSem 2 0 b_q_far
theorem ok_q_far (Z : Txt K mg) (Y : Txe K mg T) {f : Addr} {fd : FuncData} (F : FunD K "_law_far" "_law_far" s_q_far .none f fd) (hm : mg "_law_far" = some (.ref f)) (hb : Binds K fd ["_law_one", "_law_other"] []) : Cl P w K mg base (CXf P w) T "_law_far" ["_law_one", "_law_other"] 1 m_q_far :=
  ⟨f, fd, fnx_okJ (fb := b_q_far) (k := 0) F sc_q_far (by kernel_rfl) (by kernel_rfl) (fun cdv A outer s H E hr =>
    (jb_one (js_ret (je_op jp_sub (je_op jp_mul (je_ix (jv 0) je_int) (je_ix (jv 1) je_int)) (je_op jp_mul (je_ix (jv 1) je_int) (je_ix (jv 0) je_int)))))), hm, F.kp, hb⟩
abbrev s_q_whole : Stmt := top 42
theorem sc_q_whole : FnScope ["_law_found"] ["_law_found"] (defScope s_q_whole) := ⟨rfl, rfl, rfl, by decide +kernel, rfl, by decide +kernel, by decide +kernel⟩
def b_q_whole : Sv := (sRet (qAnd (eIsi "int" (eVar 0)) (qNot (eIsi "bool" (eVar 0)))))
def m_q_whole : List D → Option Out := fnSem 1 0 b_q_whole
theorem ok_q_whole (Z : Txt K mg) (Y : Txe K mg T) {f : Addr} {fd : FuncData} (F : FunD K "_law_whole" "_law_whole" s_q_whole .none f fd) (hm : mg "_law_whole" = some (.ref f)) (hb : Binds K fd ["_law_found"] []) : Cl P w K mg base (CXf P w) T "_law_whole" ["_law_found"] 1 m_q_whole :=
  ⟨f, fd, fnx_okJ (fb := b_q_whole) (k := 0) F sc_q_whole (by kernel_rfl) (by kernel_rfl) (fun cdv A outer s H E hr =>
    (jb_one (js_ret (je_and (je_isi (jv 0) (by kernel_rfl) Z.n_isinstance (by kernel_rfl) Z.n_int (by decide +kernel)) (je_one (je_not (je_isi (jv 0) (by kernel_rfl) Z.n_isinstance (by kernel_rfl) Z.n_bool (by decide +kernel)))))))), hm, F.kp, hb⟩
abbrev s_q_is_share : Stmt := top 43
theorem sc_q_is_share : FnScope ["_law_found"] ["_law_found"] (defScope s_q_is_share) := ⟨rfl, rfl, rfl, by decide +kernel, rfl, by decide +kernel, by decide +kernel⟩
def b_q_is_share : Sv := (sSeq (sIf (qOr (qNot (qV (eIsi "tuple" (eVar 0)))) (qOr (eOp neD (eB lenB (aCons (eVar 0) aNil)) (eC (.int 2))) (qOr (qNot (qV (eCall m_q_whole (aCons (eOp ixD (eVar 0) (eC (.int 0))) aNil)))) (qNot (qV (eCall m_q_whole (aCons (eOp ixD (eVar 0) (eC (.int 1))) aNil))))))) (sRet (eC (.bl false))) sNext) (sRet (qAnd (eOp (i2 gtI) (eOp ixD (eVar 0) (eC (.int 1))) (eC (.int 0))) (eOp eqD (eCall m_q_low (aCons (eOp ixD (eVar 0) (eC (.int 0))) (aCons (eOp ixD (eVar 0) (eC (.int 1))) aNil))) (eVar 0)))))
def m_q_is_share : List D → Option Out := fnSem 1 0 b_q_is_share
theorem ok_q_is_share (Z : Txt K mg) (Y : Txe K mg T) (C_q_whole : Cl P w K mg base (CXf P w) T "_law_whole" ["_law_found"] 1 m_q_whole) (C_q_low : Cl P w K mg base (CXf P w) T "_law_low" ["_law_top", "_law_bottom"] 1 m_q_low) {f : Addr} {fd : FuncData} (F : FunD K "_law_is_share" "_law_is_share" s_q_is_share .none f fd) (hm : mg "_law_is_share" = some (.ref f)) (hb : Binds K fd ["_law_found"] []) : Cl P w K mg base (CXf P w) T "_law_is_share" ["_law_found"] 2 m_q_is_share :=
  ⟨f, fd, fnx_okJ (fb := b_q_is_share) (k := 1) F sc_q_is_share (by kernel_rfl) (by kernel_rfl) (fun cdv A outer s H E hr =>
    (jb_cons (js_if (JW.pt (jw_or (jt_not (jt_val (je_isi (jv 0) (by kernel_rfl) Z.n_isinstance (by kernel_rfl) Z.n_tuple (by decide +kernel)))) (jw_or (jt_cmp (jp_ne hr.units) (je_callB jc_len (by kernel_rfl) Z.n_len (by decide +kernel) (ja_cons (jv 0) ja_nil)) je_int (nobehind _ (by decide) (by decide))) (jw_or (jt_not (jt_val (je_c C_q_whole (hr.mono (by decide)) passF (by kernel_rfl) (ja_cons (je_ix (jv 0) je_int) ja_nil)))) (jw_or1 (jt_not (jt_val (je_c C_q_whole (hr.mono (by decide)) passF (by kernel_rfl) (ja_cons (je_ix (jv 0) je_int) ja_nil))))))))) (jb_one (js_ret je_bl)) jb_nil) (jb_one (js_ret (je_and (je_cmp jp_gt (je_ix (jv 0) je_int) je_int (nobehind _ (by decide) (by decide))) (je_one (je_cmp (jp_eq hr.units) (je_c C_q_low (hr.mono (by decide)) passF (by kernel_rfl) (ja_cons (je_ix (jv 0) je_int) (ja_cons (je_ix (jv 0) je_int) ja_nil))) (jv 0) (nobehind _ (by decide) (by decide))))))))), hm, F.kp, hb⟩
abbrev s_q_sum : Stmt := top 37
theorem sc_q_sum : FnScope ["_law_one", "_law_other"] ["_law_one", "_law_other"] (defScope s_q_sum) := ⟨rfl, rfl, rfl, by decide +kernel, rfl, by decide +kernel, by decide +kernel⟩
def b_q_sum : Sv := (sRet (eCall m_q_low (aCons (eOp (i2 addI) (eOp (i2 mulI) (eOp ixD (eVar 0) (eC (.int 0))) (eOp ixD (eVar 1) (eC (.int 1)))) (eOp (i2 mulI) (eOp ixD (eVar 1) (eC (.int 0))) (eOp ixD (eVar 0) (eC (.int 1))))) (aCons (eOp (i2 mulI) (eOp ixD (eVar 0) (eC (.int 1))) (eOp ixD (eVar 1) (eC (.int 1)))) aNil))))
def m_q_sum : List D → Option Out := fnSem 2 0 b_q_sum
theorem ok_q_sum (Z : Txt K mg) (Y : Txe K mg T) (C_q_low : Cl P w K mg base (CXf P w) T "_law_low" ["_law_top", "_law_bottom"] 1 m_q_low) {f : Addr} {fd : FuncData} (F : FunD K "_law_sum" "_law_sum" s_q_sum .none f fd) (hm : mg "_law_sum" = some (.ref f)) (hb : Binds K fd ["_law_one", "_law_other"] []) : Cl P w K mg base (CXf P w) T "_law_sum" ["_law_one", "_law_other"] 2 m_q_sum :=
  ⟨f, fd, fnx_okJ (fb := b_q_sum) (k := 1) F sc_q_sum (by kernel_rfl) (by kernel_rfl) (fun cdv A outer s H E hr =>
    (jb_one (js_ret (je_c C_q_low (hr.mono (by decide)) passF (by kernel_rfl) (ja_cons (je_op jp_add (je_op jp_mul (je_ix (jv 0) je_int) (je_ix (jv 1) je_int)) (je_op jp_mul (je_ix (jv 1) je_int) (je_ix (jv 0) je_int))) (ja_cons (je_op jp_mul (je_ix (jv 0) je_int) (je_ix (jv 1) je_int)) ja_nil)))))), hm, F.kp, hb⟩
abbrev s_q_by : Stmt := top 38
theorem sc_q_by : FnScope ["_law_one", "_law_other"] ["_law_one", "_law_other"] (defScope s_q_by) := ⟨rfl, rfl, rfl, by decide +kernel, rfl, by decide +kernel, by decide +kernel⟩
def b_q_by : Sv := (sRet (eCall m_q_low (aCons (eOp (i2 mulI) (eOp ixD (eVar 0) (eC (.int 0))) (eOp ixD (eVar 1) (eC (.int 0)))) (aCons (eOp (i2 mulI) (eOp ixD (eVar 0) (eC (.int 1))) (eOp ixD (eVar 1) (eC (.int 1)))) aNil))))
def m_q_by : List D → Option Out := fnSem 2 0 b_q_by
theorem ok_q_by (Z : Txt K mg) (Y : Txe K mg T) (C_q_low : Cl P w K mg base (CXf P w) T "_law_low" ["_law_top", "_law_bottom"] 1 m_q_low) {f : Addr} {fd : FuncData} (F : FunD K "_law_by" "_law_by" s_q_by .none f fd) (hm : mg "_law_by" = some (.ref f)) (hb : Binds K fd ["_law_one", "_law_other"] []) : Cl P w K mg base (CXf P w) T "_law_by" ["_law_one", "_law_other"] 2 m_q_by :=
  ⟨f, fd, fnx_okJ (fb := b_q_by) (k := 1) F sc_q_by (by kernel_rfl) (by kernel_rfl) (fun cdv A outer s H E hr =>
    (jb_one (js_ret (je_c C_q_low (hr.mono (by decide)) passF (by kernel_rfl) (ja_cons (je_op jp_mul (je_ix (jv 0) je_int) (je_ix (jv 1) je_int)) (ja_cons (je_op jp_mul (je_ix (jv 0) je_int) (je_ix (jv 1) je_int)) ja_nil)))))), hm, F.kp, hb⟩
abbrev s_q_there : Stmt := top 40
theorem sc_q_there : FnScope ["_law_line", "_law_moment"] ["_law_line", "_law_moment"] (defScope s_q_there) := ⟨rfl, rfl, rfl, by decide +kernel, rfl, by decide +kernel, by decide +kernel⟩
def b_q_there : Sv := (sRet (eCall m_q_sum (aCons (eOp ixD (eVar 0) (eC (.int 0))) (aCons (eCall m_q_by (aCons (eOp ixD (eVar 0) (eC (.int 1))) (aCons (eVar 1) aNil))) aNil))))
def m_q_there : List D → Option Out := fnSem 2 0 b_q_there
theorem ok_q_there (Z : Txt K mg) (Y : Txe K mg T) (C_q_sum : Cl P w K mg base (CXf P w) T "_law_sum" ["_law_one", "_law_other"] 2 m_q_sum) (C_q_by : Cl P w K mg base (CXf P w) T "_law_by" ["_law_one", "_law_other"] 2 m_q_by) {f : Addr} {fd : FuncData} (F : FunD K "_law_there" "_law_there" s_q_there .none f fd) (hm : mg "_law_there" = some (.ref f)) (hb : Binds K fd ["_law_line", "_law_moment"] []) : Cl P w K mg base (CXf P w) T "_law_there" ["_law_line", "_law_moment"] 3 m_q_there :=
  ⟨f, fd, fnx_okJ (fb := b_q_there) (k := 2) F sc_q_there (by kernel_rfl) (by kernel_rfl) (fun cdv A outer s H E hr =>
    (jb_one (js_ret (je_c C_q_sum (hr.mono (by decide)) passF (by kernel_rfl) (ja_cons (je_ix (jv 0) je_int) (ja_cons (je_c C_q_by (hr.mono (by decide)) passF (by kernel_rfl) (ja_cons (je_ix (jv 0) je_int) (ja_cons (jv 1) ja_nil))) ja_nil)))))), hm, F.kp, hb⟩
def B_met_stretches_L : MSv := (mRet (mNew (lComp (wSeq (eVar 0)) (gNm 1) (eOp (i2 gtI) (eB lenB (aCons (eVar 1) aNil)) (eC (.int 1))) (eCall m_part_stretch (aCons (eVar 1) aNil)) [1])))
def M_met_stretches_L : List D → Mem → Option (Out × Mem) := fnSemM 1 1 B_met_stretches_L
theorem okM_met_stretches_L (Z : Txt K mg) (Y : Txe K mg T) (hh : T.hd = none) (C_part_stretch : AllT T fun T => Cl P w K mg base (CXf P w) T "part_stretch" ["part"] 1 m_part_stretch) {f : Addr} {fd : FuncData} (F : FunD K "met_stretches" "met_stretches" s_met_stretches .none f fd) (hm : mg "met_stretches" = some (.ref f)) (hb : Binds K fd ["parts"] []) : ClS P w K mg base (CXf P w) T "met_stretches" ["parts"] 2 M_met_stretches_L :=
  ⟨f, fd, fnS_okJ (fb := B_met_stretches_L) (k := 1) F sc_met_stretches (by kernel_rfl) (by kernel_rfl) (fun cdv A outer s H E hr =>
    (jb_oneM (js_retM (jm_new Y.tab (fun φ => (jf_lc (own := [("part", 1)]) (by kernel_rfl) sc_met_stretches.nd (ji_list (jv 0)) (blkOk_by (by kernel_rfl)) (fun _ _ _ _ _ => (jg_name (i := 1) sc_met_stretches.nd (by kernel_rfl) (Or.inl (by kernel_rfl)) (hf := Or.inr (by kernel_rfl)))) (fun _ _ _ _ _ => (jts_one (jt_cmp jp_gt (je_callB jc_len (by kernel_rfl) Z.n_len (by decide +kernel) (ja_cons (jv 1) ja_nil)) je_int (nobehind _ (by decide) (by decide))))) (fun _ _ _ _ _ => (je_c (C_part_stretch φ false) (hr.mono (by decide)) passN (by kernel_rfl) (ja_cons (jv 1) ja_nil))) (by decide))))))), hm, F.kp, hb⟩
def B_first_meet_L : MSv := (mSeq (mExpr (mL (eCall m_need_row (aCons (eVar 0) aNil)))) (mSeq (mSet (mL (eCall m_runs_of (aCons (eVar 0) aNil))) 1) (mSeq (mSet (mL (eCall m_first_wait (aCons (eVar 1) aNil))) 2) (mSeq (mIfS (mQ0 [] (eOp isD (eVar 2) (eC .non))) (mRet (mL (eC .non))) mNext) (mRet (mTup (mCons (mL (eVar 2)) (mCons (mCall M_met_stretches_L (mCons (mL (eCall m_by_places (aCons (eCall m_moved (aCons (eVar 1) (aCons (eVar 2) aNil))) aNil))) mNil)) mNil))))))))
def M_first_meet_L : List D → Mem → Option (Out × Mem) := fnSemM 1 2 B_first_meet_L
theorem okM_first_meet_L (Z : Txt K mg) (Y : Txe K mg T) (hh : T.hd = none) (C_need_row : AllT T fun T => Cl P w K mg base (CXf P w) T "need_row" ["row"] 6 m_need_row) (C_runs_of : AllT T fun T => Cl P w K mg base (CXf P w) T "runs_of" ["row"] 1 m_runs_of) (C_first_wait : AllT T fun T => Cl P w K mg base (CXf P w) T "first_wait" ["runs"] 5 m_first_wait) (C_by_places : AllT T fun T => Cl P w K mg base (CXf P w) T "by_places" ["runs"] 1 m_by_places) (C_moved : AllT T fun T => Cl P w K mg base (CXf P w) T "moved" ["runs", "wait"] 4 m_moved) (S_met_stretches_L : ClS P w K mg base (CXf P w) T "met_stretches" ["parts"] 2 M_met_stretches_L) {f : Addr} {fd : FuncData} (F : FunD K "first_meet" "first_meet" s_first_meet .none f fd) (hm : mg "first_meet" = some (.ref f)) (hb : Binds K fd ["row"] []) : ClS P w K mg base (CXf P w) T "first_meet" ["row"] 7 M_first_meet_L :=
  ⟨f, fd, fnS_okJ (fb := B_first_meet_L) (k := 6) F sc_first_meet (by kernel_rfl) (by kernel_rfl) (fun cdv A outer s H E hr =>
    (jb_consM (js_exprM (jm_lift Y.tab (fun φ => (je_c (C_need_row φ false) (hr.mono (by decide)) passF (by kernel_rfl) (ja_cons (jv 0) ja_nil))))) (jb_consM (js_setM (i := 1) sc_first_meet.nd (by kernel_rfl) (Or.inl (by kernel_rfl)) (jm_lift Y.tab (fun φ => (je_c (C_runs_of φ false) (hr.mono (by decide)) passF (by kernel_rfl) (ja_cons (jv 0) ja_nil))))) (jb_consM (js_setM (i := 2) sc_first_meet.nd (by kernel_rfl) (Or.inl (by kernel_rfl)) (jm_lift Y.tab (fun φ => (je_c (C_first_wait φ false) (hr.mono (by decide)) passF (by kernel_rfl) (ja_cons (jv 1) ja_nil))))) (jb_consM (js_ifM (jmt_see0 (is := []) (fun φ => (jt_cmp jp_is (jv 2) je_non (nobehind _ (by decide) (by decide))))) (jb_oneM (js_retM (jm_lift Y.tab (fun φ => je_non)))) jb_nilM) (jb_oneM (js_retM (jm_tup (ja_consM (jm_lift Y.tab (fun φ => (jv 2))) (ja_consM (jm_call S_met_stretches_L (hr.mono (by decide)) passF (by kernel_rfl) (ja_consM (jm_lift Y.tab (fun φ => (je_c (C_by_places φ false) (hr.mono (by decide)) passF (by kernel_rfl) (ja_cons (je_c (C_moved φ false) (hr.mono (by decide)) passF (by kernel_rfl) (ja_cons (jv 1) (ja_cons (jv 2) ja_nil))) ja_nil)))) ja_nilM)) ja_nilM)))))))))), hm, F.kp, hb⟩
abbrev s_q_right : Stmt := top 44
theorem sc_q_right : FnScope ["_law_row_here", "_law_kept", "_law_found", "_law_faster", "_law_places", "_law_joined", "_law_at", "_law_ends", "_law_first", "_law_last", "_law_gap", "_law_bead", "_law_part"] ["_law_row_here"] (defScope s_q_right) := ⟨rfl, rfl, rfl, by decide +kernel, rfl, by decide +kernel, by decide +kernel⟩
def L1_q_right : MSv := (mSet (mL (eFr (lCat (eVar 5) (eFr (lRngL (aCons (eVar 8) (aCons (eVar 9) aNil))))))) 5)
def L2_q_right : MSv := (mSeq (mSet (mL (eCall m_q_far (aCons (eOp ixD (eVar 4) (eVar 6)) (aCons (eOp ixD (eVar 4) (eOp (i2 addI) (eVar 6) (eC (.int 1)))) aNil)))) 10) (mIfS (mQ0 [] (qOr (eOp (i2 gtI) (eVar 10) (eC (.int 0))) (eOp neD (eOp eqD (eVar 10) (eC (.int 0))) (eOp (inD false) (eVar 6) (eVar 5))))) (mRet (mL (eC (.bl false)))) mNext))
def B_q_right : MSv := (mSeq (mSet (mL (eFr (lOf (eVar 0)))) 1) (mSeq (mSet (mCall M_first_meet_L (mCons (mL (eVar 0)) mNil)) 2) (mSeq (mSet (mL (eFr (lComp (wRng1 (aCons (eOp (i2 subI) (eB lenB (aCons (eVar 0) aNil)) (eC (.int 1))) aNil)) (gNm 6) (eOp (i2 gtI) (eCall m_q_far (aCons (eOp ixD (eOp ixD (eVar 0) (eVar 6)) (eC (.int 2))) (aCons (eOp ixD (eOp ixD (eVar 0) (eOp (i2 addI) (eVar 6) (eC (.int 1)))) (eC (.int 2))) aNil))) (eC (.int 0))) (eVar 6) [6]))) 3) (mSeq (mIfS (mQ0 [2] (qOr (eOp neD (eVar 0) (eVar 1)) (eOp neD (eOp isD (eVar 2) (eC .non)) (eOp eqD (eVar 3) (eFr (lLst aNil)))))) (mRet (mL (eC (.bl false)))) mNext) (mSeq (mIfS (mQ0 [2] (eOp isD (eVar 2) (eC .non))) (mRet (mL (eC (.bl true)))) mNext) (mSeq (mIfS (mQ0 [2] (qOr (qNot (qV (eIsi "tuple" (eVar 2)))) (qOr (eOp neD (eB lenB (aCons (eVar 2) aNil)) (eC (.int 2))) (qOr (qNot (qV (eCall m_q_is_share (aCons (eOp ixD (eVar 2) (eC (.int 0))) aNil)))) (qNot (qV (eIsi "list" (eOp ixD (eVar 2) (eC (.int 1)))))))))) (mRet (mL (eC (.bl false)))) mNext) (mSeq (mIfS (mQ0 [2] (qOr (eOp (i2 leI) (eOp ixD (eOp ixD (eVar 2) (eC (.int 0))) (eC (.int 0))) (eC (.int 0))) (qOr (eOp eqD (eOp ixD (eVar 2) (eC (.int 1))) (eFr (lLst aNil))) (qNot (qV (eB allB (aCons (eFr (lComp (wSeq (eOp ixD (eVar 2) (eC (.int 1)))) (gNm 12) qYes (qAnd (eIsi "tuple" (eVar 12)) (eOp eqD (eB lenB (aCons (eVar 12) aNil)) (eC (.int 2)))) [12])) aNil))))))) (mRet (mL (eC (.bl false)))) mNext) (mSeq (mIfS (mQ0 [2] (qNot (qV (eB allB (aCons (eFr (lComp (wSeq (eOp ixD (eVar 2) (eC (.int 1)))) (gNm 12) qYes (qAnd (eCall m_q_whole (aCons (eOp ixD (eVar 12) (eC (.int 0))) aNil)) (qAnd (eCall m_q_whole (aCons (eOp ixD (eVar 12) (eC (.int 1))) aNil)) (eOp (i2 ltI) (eOp ixD (eVar 12) (eC (.int 0))) (eOp ixD (eVar 12) (eC (.int 1)))))) [12])) aNil))))) (mRet (mL (eC (.bl false)))) mNext) (mSeq (mSet (mF0 [2] (lComp (wSeq (eVar 0)) (gNm 11) qYes (eCall m_q_there (aCons (eSlT (eVar 11) (oSome (eC (.int 1))) oNone) (aCons (eOp ixD (eVar 2) (eC (.int 0))) aNil))) [11])) 4) (mSeq (mSet (mL (eFr (lLst aNil))) 5) (mSeq (mForC (mL (eOp ixD (eVar 2) (eC (.int 1)))) (gTp (gsCons (gNm 8) (gsCons (gNm 9) gsNil))) L1_q_right) (mSeq (mIfS (mQ0 [] (eOp neD (eFr (lSortSet (eVar 5))) (eVar 5))) (mRet (mL (eC (.bl false)))) mNext) (mSeq (mFor (wArgM kRng1 (mCons (mL (eOp (i2 subI) (eB lenB (aCons (eVar 0) aNil)) (eC (.int 1)))) mNil)) (gNm 6) L2_q_right) (mSeq (mSet (mF0 [2] (lComp (wSeq (eOp ixD (eVar 2) (eC (.int 1)))) (gTp (gsCons (gNm 8) (gsCons (gNm 9) gsNil))) qYes (eVar 9) [8, 9])) 7) (mSeq (mIfS (mQ0 [2] (qV (eB anyB (aCons (eFr (lComp (wSeq (eOp ixD (eVar 2) (eC (.int 1)))) (gTp (gsCons (gNm 8) (gsCons (gNm 9) gsNil))) qYes (eOp (inD false) (eVar 8) (eVar 7)) [8, 9])) aNil)))) (mRet (mL (eC (.bl false)))) mNext) (mSeq (mCApp (mL (eOp ixD (eVar 2) (eC (.int 1)))) (mL (eC (.int 0)))) (mRet (mS0 [2] (eOp eqD (eCall m_first_meet (aCons (eVar 0) aNil)) (eTup (aCons (eOp ixD (eVar 2) (eC (.int 0))) (aCons (eFr (lSlice (eOp ixD (eVar 2) (eC (.int 1))) oNone (oSome (eNeg (eC (.int 1)))))) aNil))))))))))))))))))))))
def M_q_right : List D → Mem → Option (Out × Mem) := fnSemM 1 12 B_q_right
theorem okM_q_right (Z : Txt K mg) (Y : Txe K mg T) (hh : T.hd = none) (C_q_far : AllT T fun T => Cl P w K mg base (CXf P w) T "_law_far" ["_law_one", "_law_other"] 1 m_q_far) (C_q_is_share : AllT T fun T => Cl P w K mg base (CXf P w) T "_law_is_share" ["_law_found"] 2 m_q_is_share) (C_q_whole : AllT T fun T => Cl P w K mg base (CXf P w) T "_law_whole" ["_law_found"] 1 m_q_whole) (C_q_there : AllT T fun T => Cl P w K mg base (CXf P w) T "_law_there" ["_law_line", "_law_moment"] 3 m_q_there) (C_first_meet : AllT T fun T => Cl P w K mg base (CXf P w) T "first_meet" ["row"] 7 m_first_meet) (S_first_meet_L : ClS P w K mg base (CXf P w) T "first_meet" ["row"] 7 M_first_meet_L) {f : Addr} {fd : FuncData} (F : FunD K "_law_right" "_law_right" s_q_right .none f fd) (hm : mg "_law_right" = some (.ref f)) (hb : Binds K fd ["_law_row_here"] []) : ClS P w K mg base (CXf P w) T "_law_right" ["_law_row_here"] 8 M_q_right :=
  ⟨f, fd, fnS_okJ (fb := B_q_right) (k := 7) F sc_q_right (by kernel_rfl) (by kernel_rfl) (fun cdv A outer s H E hr =>
    (jb_consM (js_setM (i := 1) sc_q_right.nd (by kernel_rfl) (Or.inl (by kernel_rfl)) (jm_lift Y.tab (fun φ => (je_fr (jf_listof (jv 0 (hv := Or.inr (Or.inl (by kernel_rfl)))) (by kernel_rfl) Z.n_list))))) (jb_consM (js_setM (i := 2) sc_q_right.nd (by kernel_rfl) (Or.inr (by kernel_rfl)) (jm_call S_first_meet_L (hr.mono (by decide)) passF (by kernel_rfl) (ja_consM (jm_lift Y.tab (fun φ => (jv 0 (hv := Or.inr (Or.inl (by kernel_rfl)))))) ja_nilM))) (jb_consM (js_a1 (i := 3) Y.tab (fun φ => JAF.fr (ja_setLc (i := 3) (own := [("_law_at", 6)]) (by kernel_rfl) sc_q_right.nd (by kernel_rfl) (by kernel_rfl) (sw_true (by kernel_rfl) (by kernel_rfl) (by kernel_rfl) (by kernel_rfl)) (ji_range1 (by kernel_rfl) Z.n_range (ja_cons (je_op jp_sub (je_callB jc_len (by kernel_rfl) Z.n_len (by decide +kernel) (ja_cons (jv 0 (hv := Or.inr (Or.inl (by kernel_rfl)))) ja_nil)) je_int) ja_nil)) (blkOk_by (by kernel_rfl)) (fun _ _ _ _ _ => (jg_name (i := 6) sc_q_right.nd (by kernel_rfl) (Or.inl (by kernel_rfl)) (hf := Or.inr (by kernel_rfl)))) (fun _ _ _ _ _ => (jts_one (jt_cmp jp_gt (je_c (C_q_far φ false) (hr.mono (by decide)) passN (by kernel_rfl) (ja_cons (je_ix (je_ix (jv 0 (hv := Or.inr (Or.inl (by kernel_rfl)))) (jv 6)) je_int) (ja_cons (je_ix (je_ix (jv 0 (hv := Or.inr (Or.inl (by kernel_rfl)))) (je_op jp_add (jv 6) je_int)) je_int) ja_nil))) je_int (nobehind _ (by decide) (by decide))))) (fun _ _ _ _ _ => (jv 6)) (by decide)))) (jb_consM (js_ifM (jmt_see0 (is := [2]) (fun φ => (JW.pt (jw_or (jt_cmp (jp_ne hr.units) (jv 0 (hv := Or.inr (Or.inl (by kernel_rfl)))) (jv 1) (nobehind _ (by decide) (by decide))) (jw_or1 (jt_cmp (jp_ne hr.units) (je_cmp jp_is (jv 2 (hv := Or.inr (Or.inl (by kernel_rfl)))) je_non (nobehind _ (by decide) (by decide))) (je_cmp (jp_eq hr.units) (jv 3) (je_fr (jf_lst ja_nil)) (nobehind _ (by decide) (by decide))) (nobehind _ (by decide) (by decide)))))))) (jb_oneM (js_retM (jm_lift Y.tab (fun φ => je_bl)))) jb_nilM) (jb_consM (js_ifM (jmt_see0 (is := [2]) (fun φ => (jt_cmp jp_is (jv 2 (hv := Or.inr (Or.inl (by kernel_rfl)))) je_non (nobehind _ (by decide) (by decide))))) (jb_oneM (js_retM (jm_lift Y.tab (fun φ => je_bl)))) jb_nilM) (jb_consM (js_ifM (jmt_see0 (is := [2]) (fun φ => (JW.pt (jw_or (jt_not (jt_val (je_isi (jv 2 (hv := Or.inr (Or.inl (by kernel_rfl)))) (by kernel_rfl) Z.n_isinstance (by kernel_rfl) Z.n_tuple (by decide +kernel)))) (jw_or (jt_cmp (jp_ne hr.units) (je_callB jc_len (by kernel_rfl) Z.n_len (by decide +kernel) (ja_cons (jv 2 (hv := Or.inr (Or.inl (by kernel_rfl)))) ja_nil)) je_int (nobehind _ (by decide) (by decide))) (jw_or (jt_not (jt_val (je_c (C_q_is_share φ true) (hr.mono (by decide)) passF (by kernel_rfl) (ja_cons (je_ix (jv 2 (hv := Or.inr (Or.inl (by kernel_rfl)))) je_int) ja_nil)))) (jw_or1 (jt_not (jt_val (je_isi (je_ix (jv 2 (hv := Or.inr (Or.inl (by kernel_rfl)))) je_int) (by kernel_rfl) Z.n_isinstance (by kernel_rfl) Z.n_list (by decide +kernel))))))))))) (jb_oneM (js_retM (jm_lift Y.tab (fun φ => je_bl)))) jb_nilM) (jb_consM (js_ifM (jmt_see0 (is := [2]) (fun φ => (JW.pt (jw_or (jt_cmp jp_le (je_ix (je_ix (jv 2 (hv := Or.inr (Or.inl (by kernel_rfl)))) je_int) je_int) je_int (nobehind _ (by decide) (by decide))) (jw_or (jt_cmp (jp_eq hr.units) (je_ix (jv 2 (hv := Or.inr (Or.inl (by kernel_rfl)))) je_int) (je_fr (jf_lst ja_nil)) (nobehind _ (by decide) (by decide))) (jw_or1 (jt_not (jt_val (je_callB (jc_all (by kernel_rfl)) (by kernel_rfl) Z.n_all (by decide +kernel) (ja_cons (je_fr (jf_lc (own := [("_law_part", 12)]) (by kernel_rfl) sc_q_right.nd (ji_list (je_ix (jv 2 (hv := Or.inr (Or.inl (by kernel_rfl)))) je_int)) (blkOk_by (by kernel_rfl)) (fun _ _ _ _ _ => (jg_name (i := 12) sc_q_right.nd (by kernel_rfl) (Or.inl (by kernel_rfl)) (hf := Or.inr (by kernel_rfl)))) (fun _ _ _ _ _ => jts_nil) (fun _ _ _ _ _ => (je_and (je_isi (jv 12) (by kernel_rfl) Z.n_isinstance (by kernel_rfl) Z.n_tuple (by decide +kernel)) (je_one (je_cmp (jp_eq hr.units) (je_callB jc_len (by kernel_rfl) Z.n_len (by decide +kernel) (ja_cons (jv 12) ja_nil)) je_int (nobehind _ (by decide) (by decide)))))) (by decide))) ja_nil)))))))))) (jb_oneM (js_retM (jm_lift Y.tab (fun φ => je_bl)))) jb_nilM) (jb_consM (js_ifM (jmt_see0 (is := [2]) (fun φ => (jt_not (jt_val (je_callB (jc_all (by kernel_rfl)) (by kernel_rfl) Z.n_all (by decide +kernel) (ja_cons (je_fr (jf_lc (own := [("_law_part", 12)]) (by kernel_rfl) sc_q_right.nd (ji_list (je_ix (jv 2 (hv := Or.inr (Or.inl (by kernel_rfl)))) je_int)) (blkOk_by (by kernel_rfl)) (fun _ _ _ _ _ => (jg_name (i := 12) sc_q_right.nd (by kernel_rfl) (Or.inl (by kernel_rfl)) (hf := Or.inr (by kernel_rfl)))) (fun _ _ _ _ _ => jts_nil) (fun _ _ _ _ _ => (je_and (je_c (C_q_whole φ true) (hr.mono (by decide)) passN (by kernel_rfl) (ja_cons (je_ix (jv 12) je_int) ja_nil)) (je_and (je_c (C_q_whole φ true) (hr.mono (by decide)) passN (by kernel_rfl) (ja_cons (je_ix (jv 12) je_int) ja_nil)) (je_one (je_cmp jp_lt (je_ix (jv 12) je_int) (je_ix (jv 12) je_int) (nobehind _ (by decide) (by decide))))))) (by decide))) ja_nil)))))) (jb_oneM (js_retM (jm_lift Y.tab (fun φ => je_bl)))) jb_nilM) (jb_consM (js_f0s (i := 4) (is := [2]) Y.tab (fun φ => (ja_setLc (i := 4) (own := [("_law_bead", 11)]) (by kernel_rfl) sc_q_right.nd (by kernel_rfl) (by kernel_rfl) (sw_true (by kernel_rfl) (by kernel_rfl) (by kernel_rfl) (by kernel_rfl)) (ji_list (jv 0 (hv := Or.inr (Or.inl (by kernel_rfl))))) (blkOk_by (by kernel_rfl)) (fun _ _ _ _ _ => (jg_name (i := 11) sc_q_right.nd (by kernel_rfl) (Or.inl (by kernel_rfl)) (hf := Or.inr (by kernel_rfl)))) (fun _ _ _ _ _ => jts_nil) (fun _ _ _ _ _ => (je_c (C_q_there φ true) (hr.mono (by decide)) passN (by kernel_rfl) (ja_cons (je_slT (jv 11) (jo_some je_int) jo_none) (ja_cons (je_ix (jv 2 (hv := Or.inr (Or.inl (by kernel_rfl)))) je_int) ja_nil)))) (by decide)))) (jb_consM (js_setM (i := 5) sc_q_right.nd (by kernel_rfl) (Or.inl (by kernel_rfl)) (jm_lift Y.tab (fun φ => (je_fr (jf_lst ja_nil))))) (jb_consM (js_forC Y.tab passL (by kernel_rfl) (jm_lift Y.tab (fun φ => (je_ix (jv 2 (hv := Or.inr (Or.inl (by kernel_rfl)))) je_int))) (fun φ => (jg_tup (by kernel_rfl) (jgs_cons (jg_name (i := 8) sc_q_right.nd (by kernel_rfl) (Or.inl (by kernel_rfl))) (jgs_cons (jg_name (i := 9) sc_q_right.nd (by kernel_rfl) (Or.inl (by kernel_rfl))) jgs_nil)) (gl_cons (gl_cons gl_nil)))) (jb_oneM (js_setM (i := 5) sc_q_right.nd (by kernel_rfl) (Or.inl (by kernel_rfl)) (jm_lift Y.tab (fun φ => (je_fr (jf_cat (jv 5) (je_fr (jf_rngL (by kernel_rfl) (by kernel_rfl) Z.n_list (by kernel_rfl) Z.n_range (ja_cons (jv 8) (ja_cons (jv 9) ja_nil))))))))))) (jb_consM (js_ifM (jmt_see0 (is := []) (fun φ => (jt_cmp (jp_ne hr.units) (je_fr (jf_sortSet (by kernel_rfl) (by kernel_rfl) Z.n_sorted (by kernel_rfl) Z.n_set (jv 5))) (jv 5) (nobehind _ (by decide) (by decide))))) (jb_oneM (js_retM (jm_lift Y.tab (fun φ => je_bl)))) jb_nilM) (jb_consM (js_forM Y.tab passL (by kernel_rfl) (mi_range1 (by kernel_rfl) Z.n_range (ja_consM (jm_lift Y.tab (fun φ => (je_op jp_sub (je_callB jc_len (by kernel_rfl) Z.n_len (by decide +kernel) (ja_cons (jv 0 (hv := Or.inr (Or.inl (by kernel_rfl)))) ja_nil)) je_int))) ja_nilM)) (fun φ => (jg_name (i := 6) sc_q_right.nd (by kernel_rfl) (Or.inl (by kernel_rfl)))) (jb_consM (js_setM (i := 10) sc_q_right.nd (by kernel_rfl) (Or.inl (by kernel_rfl)) (jm_lift Y.tab (fun φ => (je_c (C_q_far φ false) (hr.mono (by decide)) passF (by kernel_rfl) (ja_cons (je_ix (jv 4) (jv 6)) (ja_cons (je_ix (jv 4) (je_op jp_add (jv 6) je_int)) ja_nil)))))) (jb_oneM (js_ifM (jmt_see0 (is := []) (fun φ => (JW.pt (jw_or (jt_cmp jp_gt (jv 10) je_int (nobehind _ (by decide) (by decide))) (jw_or1 (jt_cmp (jp_ne hr.units) (je_cmp (jp_eq hr.units) (jv 10) je_int (nobehind _ (by decide) (by decide))) (je_cmp jp_in (jv 6) (jv 5) (by kernel_rfl)) (nobehind _ (by decide) (by decide)))))))) (jb_oneM (js_retM (jm_lift Y.tab (fun φ => je_bl)))) jb_nilM)))) (jb_consM (js_setM (i := 7) sc_q_right.nd (by kernel_rfl) (Or.inr (by kernel_rfl)) (jm_fr0 (is := [2]) Y.tab (fun φ => (jf_lc (own := [("_law_first", 8), ("_law_last", 9)]) (by kernel_rfl) sc_q_right.nd (ji_list (je_ix (jv 2 (hv := Or.inr (Or.inl (by kernel_rfl)))) je_int)) (blkOk_by (by kernel_rfl)) (fun _ _ _ _ _ => (jg_tup (by kernel_rfl) (jgs_cons (jg_name (i := 8) sc_q_right.nd (by kernel_rfl) (Or.inl (by kernel_rfl)) (hf := Or.inr (by kernel_rfl))) (jgs_cons (jg_name (i := 9) sc_q_right.nd (by kernel_rfl) (Or.inl (by kernel_rfl)) (hf := Or.inr (by kernel_rfl))) jgs_nil)) (gl_cons (gl_cons gl_nil)))) (fun _ _ _ _ _ => jts_nil) (fun _ _ _ _ _ => (jv 9)) (by decide))))) (jb_consM (js_ifM (jmt_see0 (is := [2]) (fun φ => (jt_val (je_callB (jc_any (by kernel_rfl)) (by kernel_rfl) Z.n_any (by decide +kernel) (ja_cons (je_fr (jf_lc (own := [("_law_first", 8), ("_law_last", 9)]) (by kernel_rfl) sc_q_right.nd (ji_list (je_ix (jv 2 (hv := Or.inr (Or.inl (by kernel_rfl)))) je_int)) (blkOk_by (by kernel_rfl)) (fun _ _ _ _ _ => (jg_tup (by kernel_rfl) (jgs_cons (jg_name (i := 8) sc_q_right.nd (by kernel_rfl) (Or.inl (by kernel_rfl)) (hf := Or.inr (by kernel_rfl))) (jgs_cons (jg_name (i := 9) sc_q_right.nd (by kernel_rfl) (Or.inl (by kernel_rfl)) (hf := Or.inr (by kernel_rfl))) jgs_nil)) (gl_cons (gl_cons gl_nil)))) (fun _ _ _ _ _ => jts_nil) (fun _ _ _ _ _ => (je_cmp jp_in (jv 8) (jv 7 (hv := Or.inr (Or.inl (by kernel_rfl)))) (by kernel_rfl))) (by decide))) ja_nil))))) (jb_oneM (js_retM (jm_lift Y.tab (fun φ => je_bl)))) jb_nilM) (jb_consM (js_capp (jm_lift Y.tab (fun φ => (je_ix (jv 2 (hv := Or.inr (Or.inl (by kernel_rfl)))) je_int))) (jm_lift Y.tab (fun φ => je_int))) (jb_oneM (js_retM (jm_see0 (is := [2]) Y.tab (fun φ => (je_cmp (jp_eq hr.units) (je_c (C_first_meet φ true) (hr.mono (by decide)) passF (by kernel_rfl) (ja_cons (jv 0 (hv := Or.inr (Or.inl (by kernel_rfl)))) ja_nil)) (je_tup (ja_cons (je_ix (jv 2 (hv := Or.inr (Or.inl (by kernel_rfl)))) je_int) (ja_cons (je_fr (jf_slice (je_ix (jv 2 (hv := Or.inr (Or.inl (by kernel_rfl)))) je_int) jo_none (jo_some (je_neg je_int)))) ja_nil))) (nobehind _ (by decide) (by decide)))))))))))))))))))))))), hm, F.kp, hb⟩
abbrev s_law : Stmt := top 45
theorem sc_law : FnScope ["_law_script", "_law_whole_here", "_law_row_here", "_law_spots", "_law_at", "_law_three"] ["_law_script"] (defScope s_law) := ⟨rfl, rfl, rfl, by decide +kernel, rfl, by decide +kernel, by decide +kernel⟩
def L1_law : MSv := (mCApp (mL (eVar 3)) (mL (eTup (aCons (eOp (i2 addI) (eC (.int 1)) (eVar 4)) (aCons (eTup (aCons (eOp (i2 mulI) (eC (.int 2)) (eVar 4)) (aCons (eC (.int 1)) aNil))) (aCons (eTup (aCons (eOp (i2 subI) (eC (.int 1)) (eOp (i2 mulI) (eOp (i2 modI) (eVar 4) (eC (.int 2))) (eOp (i2 addI) (eC (.int 1)) (eOp (i2 modI) (eVar 1) (eC (.int 3)))))) (aCons (eC (.int 1)) aNil))) aNil))))))
def B_law : MSv := (mSeq (mSet (mL (eB sumB (aCons (eFr (lSlice (eVar 0) oNone (oSome (eC (.int 63))))) aNil))) 1) (mSeq (mSet (mL (eCall (withD 10 m_q_row) (aCons (eVar 0) (aCons (eC (.int 0)) (aCons (eC (.bl false)) aNil))))) 2) (mSeq (mIfS (mOr (mNot (mV (mCall M_q_right (mCons (mL (eVar 2)) mNil)))) (mOr (mNot (mV (mCall M_q_right (mCons (mL (eCall (withD 10 m_q_row) (aCons (eVar 0) (aCons (eC (.int 1)) (aCons (eC (.bl true)) aNil))))) mNil)))) (mNot (mV (mCall M_q_right (mCons (mL (eFr (lSlice (eVar 2) oNone (oSome (eOp (i2 addI) (eC (.int 1)) (eOp (i2 modI) (eVar 1) (eB lenB (aCons (eVar 2) aNil)))))))) mNil)))))) (mRet (mL (eC (.bl false)))) mNext) (mSeq (mSet (mNew (lLst aNil)) 3) (mSeq (mFor (wArgM kRng1 (mCons (mL (eC (.int 5))) mNil)) (gNm 4) L1_law) (mSeq (mIfS (mOr (mNot (mV (mCall M_q_right (mCons (mFrzE 3) mNil)))) (mQ0 [] (eOp isntD (eCall m_first_meet (aCons (eFr (lLst (aCons (eTup (aCons (eC (.int 1)) (aCons (eTup (aCons (eC (.int 0)) (aCons (eC (.int 1)) aNil))) (aCons (eTup (aCons (eC (.int 0)) (aCons (eC (.int 1)) aNil))) aNil)))) (aCons (eTup (aCons (eC (.int 1)) (aCons (eTup (aCons (eC (.int 1)) (aCons (eC (.int 1)) aNil))) (aCons (eTup (aCons (eC (.int 0)) (aCons (eC (.int 1)) aNil))) aNil)))) aNil)))) aNil)) (eC .non)))) (mRet (mL (eC (.bl false)))) mNext) (mSeq (mSet (mL (eFr (lLst (aCons (eTup (aCons (eC (.int 1)) (aCons (eTup (aCons (eC (.int 0)) (aCons (eC (.int 1)) aNil))) (aCons (eTup (aCons (eC (.int 1)) (aCons (eC (.int 1)) aNil))) aNil)))) (aCons (eTup (aCons (eC (.int 5)) (aCons (eTup (aCons (eC (.int 1)) (aCons (eC (.int 1)) aNil))) (aCons (eTup (aCons (eC (.int 0)) (aCons (eC (.int 1)) aNil))) aNil)))) (aCons (eTup (aCons (eC (.int 2)) (aCons (eTup (aCons (eC (.int 2)) (aCons (eC (.int 1)) aNil))) (aCons (eTup (aCons (eNeg (eC (.int 1))) (aCons (eC (.int 1)) aNil))) aNil)))) (aCons (eTup (aCons (eC (.int 1)) (aCons (eTup (aCons (eC (.int 9)) (aCons (eC (.int 1)) aNil))) (aCons (eTup (aCons (eC (.int 1)) (aCons (eC (.int 1)) aNil))) aNil)))) (aCons (eTup (aCons (eC (.int 1)) (aCons (eTup (aCons (eC (.int 10)) (aCons (eC (.int 1)) aNil))) (aCons (eTup (aCons (eC (.int 0)) (aCons (eC (.int 1)) aNil))) aNil)))) aNil)))))))) 5) (mRet (mL (qAnd (eOp eqD (eCall m_first_meet (aCons (eVar 5) aNil)) (eTup (aCons (eTup (aCons (eC (.int 1)) (aCons (eC (.int 1)) aNil))) (aCons (eFr (lLst (aCons (eTup (aCons (eC (.int 0)) (aCons (eC (.int 2)) aNil))) (aCons (eTup (aCons (eC (.int 3)) (aCons (eC (.int 4)) aNil))) aNil)))) aNil)))) (eOp isD (eCall m_first_meet (aCons (eFr (lLst (aCons (eTup (aCons (eC (.int 7)) (aCons (eTup (aCons (eC (.int 1)) (aCons (eC (.int 3)) aNil))) (aCons (eTup (aCons (eC (.int 5)) (aCons (eC (.int 1)) aNil))) aNil)))) aNil))) aNil)) (eC .non))))))))))))
def M_law : List D → Mem → Option (Out × Mem) := fnSemM 1 5 B_law
theorem okM_law_fn (Z : Txt K mg) (Y : Txe K mg T) (hh : T.hd = none) (C_q_row : AllT T fun T => ClD P w K mg base (CXf P w) T "_law_row" ["_law_script", "_law_by_here", "_law_alike", "_law_most"] 2 m_q_row 10) (CF_q_row : AllT T fun T => Cl P w K mg base (CXf P w) T "_law_row" ["_law_script", "_law_by_here", "_law_alike", "_law_most"] 2 m_q_row) (C_first_meet : AllT T fun T => Cl P w K mg base (CXf P w) T "first_meet" ["row"] 7 m_first_meet) (S_q_right : ClS P w K mg base (CXf P w) T "_law_right" ["_law_row_here"] 8 M_q_right) {f : Addr} {fd : FuncData} (F : FunD K "law" "law" s_law .none f fd) : FnOk P w K mg base (CXf P w) 9 f fd ["_law_script"] (spM T K M_law) :=
  fnS_okJ (fb := B_law) (k := 8) F sc_law (by kernel_rfl) (by kernel_rfl) (fun cdv A outer s H E hr =>
    (jb_consM (js_setM (i := 1) sc_law.nd (by kernel_rfl) (Or.inl (by kernel_rfl)) (jm_lift Y.tab (fun φ => (je_callB (jc_sum (by kernel_rfl)) (by kernel_rfl) Z.n_sum (by decide +kernel) (ja_cons (je_fr (jf_slice (jv 0) jo_none (jo_some je_int))) ja_nil))))) (jb_consM (js_setM (i := 2) sc_law.nd (by kernel_rfl) (Or.inl (by kernel_rfl)) (jm_lift Y.tab (fun φ => (je_cD (C_q_row φ false) (hr.mono (by decide)) passF (by kernel_rfl) (ja_cons (jv 0) (ja_cons je_int (ja_cons je_bl ja_nil))))))) (jb_consM (js_ifM (jmw_pt (jmw_or (jmt_not (jmt_val (jm_call S_q_right (hr.mono (by decide)) passF (by kernel_rfl) (ja_consM (jm_lift Y.tab (fun φ => (jv 2))) ja_nilM)))) (jmw_or (jmt_not (jmt_val (jm_call S_q_right (hr.mono (by decide)) passF (by kernel_rfl) (ja_consM (jm_lift Y.tab (fun φ => (je_cD (C_q_row φ false) (hr.mono (by decide)) passF (by kernel_rfl) (ja_cons (jv 0) (ja_cons je_int (ja_cons je_bl ja_nil)))))) ja_nilM)))) (jmw_or1 (jmt_not (jmt_val (jm_call S_q_right (hr.mono (by decide)) passF (by kernel_rfl) (ja_consM (jm_lift Y.tab (fun φ => (je_fr (jf_slice (jv 2) jo_none (jo_some (je_op jp_add je_int (je_op jp_mod (jv 1) (je_callB jc_len (by kernel_rfl) Z.n_len (by decide +kernel) (ja_cons (jv 2) ja_nil))))))))) ja_nilM)))))))) (jb_oneM (js_retM (jm_lift Y.tab (fun φ => je_bl)))) jb_nilM) (jb_consM (js_setM (i := 3) sc_law.nd (by kernel_rfl) (Or.inl (by kernel_rfl)) (jm_new Y.tab (fun φ => (jf_lst ja_nil)))) (jb_consM (js_forM Y.tab passL (by kernel_rfl) (mi_range1 (by kernel_rfl) Z.n_range (ja_consM (jm_lift Y.tab (fun φ => je_int)) ja_nilM)) (fun φ => (jg_name (i := 4) sc_law.nd (by kernel_rfl) (Or.inl (by kernel_rfl)))) (jb_oneM (js_capp (jm_lift Y.tab (fun φ => (jv 3))) (jm_lift Y.tab (fun φ => (je_tup (ja_cons (je_op jp_add je_int (jv 4)) (ja_cons (je_tup (ja_cons (je_op jp_mul je_int (jv 4)) (ja_cons je_int ja_nil))) (ja_cons (je_tup (ja_cons (je_op jp_sub je_int (je_op jp_mul (je_op jp_mod (jv 4) je_int) (je_op jp_add je_int (je_op jp_mod (jv 1) je_int)))) (ja_cons je_int ja_nil))) ja_nil))))))))) (jb_consM (js_ifM (jmw_pt (jmw_or (jmt_not (jmt_val (jm_call S_q_right (hr.mono (by decide)) passF (by kernel_rfl) (ja_consM (jm_frzE (pe_var (i := 3) (by kernel_rfl) (Or.inl (by kernel_rfl)) (by kernel_rfl) (by kernel_rfl))) ja_nilM)))) (jmw_or1 (jmt_see0 (is := []) (fun φ => (jt_cmp jp_isnt (je_c (C_first_meet φ true) (hr.mono (by decide)) passF (by kernel_rfl) (ja_cons (je_fr (jf_lst (ja_cons (je_tup (ja_cons je_int (ja_cons (je_tup (ja_cons je_int (ja_cons je_int ja_nil))) (ja_cons (je_tup (ja_cons je_int (ja_cons je_int ja_nil))) ja_nil)))) (ja_cons (je_tup (ja_cons je_int (ja_cons (je_tup (ja_cons je_int (ja_cons je_int ja_nil))) (ja_cons (je_tup (ja_cons je_int (ja_cons je_int ja_nil))) ja_nil)))) ja_nil)))) ja_nil)) je_non (nobehind _ (by decide) (by decide)))))))) (jb_oneM (js_retM (jm_lift Y.tab (fun φ => je_bl)))) jb_nilM) (jb_consM (js_setM (i := 5) sc_law.nd (by kernel_rfl) (Or.inl (by kernel_rfl)) (jm_lift Y.tab (fun φ => (je_fr (jf_lst (ja_cons (je_tup (ja_cons je_int (ja_cons (je_tup (ja_cons je_int (ja_cons je_int ja_nil))) (ja_cons (je_tup (ja_cons je_int (ja_cons je_int ja_nil))) ja_nil)))) (ja_cons (je_tup (ja_cons je_int (ja_cons (je_tup (ja_cons je_int (ja_cons je_int ja_nil))) (ja_cons (je_tup (ja_cons je_int (ja_cons je_int ja_nil))) ja_nil)))) (ja_cons (je_tup (ja_cons je_int (ja_cons (je_tup (ja_cons je_int (ja_cons je_int ja_nil))) (ja_cons (je_tup (ja_cons (je_neg je_int) (ja_cons je_int ja_nil))) ja_nil)))) (ja_cons (je_tup (ja_cons je_int (ja_cons (je_tup (ja_cons je_int (ja_cons je_int ja_nil))) (ja_cons (je_tup (ja_cons je_int (ja_cons je_int ja_nil))) ja_nil)))) (ja_cons (je_tup (ja_cons je_int (ja_cons (je_tup (ja_cons je_int (ja_cons je_int ja_nil))) (ja_cons (je_tup (ja_cons je_int (ja_cons je_int ja_nil))) ja_nil)))) ja_nil)))))))))) (jb_oneM (js_retM (jm_lift Y.tab (fun φ => (je_and (je_cmp (jp_eq hr.units) (je_c (C_first_meet φ false) (hr.mono (by decide)) passF (by kernel_rfl) (ja_cons (jv 5) ja_nil)) (je_tup (ja_cons (je_tup (ja_cons je_int (ja_cons je_int ja_nil))) (ja_cons (je_fr (jf_lst (ja_cons (je_tup (ja_cons je_int (ja_cons je_int ja_nil))) (ja_cons (je_tup (ja_cons je_int (ja_cons je_int ja_nil))) ja_nil)))) ja_nil))) (nobehind _ (by decide) (by decide))) (je_one (je_cmp jp_is (je_c (C_first_meet φ false) (hr.mono (by decide)) passF (by kernel_rfl) (ja_cons (je_fr (jf_lst (ja_cons (je_tup (ja_cons je_int (ja_cons (je_tup (ja_cons je_int (ja_cons je_int ja_nil))) (ja_cons (je_tup (ja_cons je_int (ja_cons je_int ja_nil))) ja_nil)))) ja_nil))) ja_nil)) je_non (nobehind _ (by decide) (by decide)))))))))))))))))
end
end BD
namespace BD
open PySem L2
theorem fmod_pos {a b : Int} (h : 0 < b) : a.fmod b = a % b := Int.fmod_eq_emod_of_nonneg a (by omega)
theorem fdiv_pos {a b : Int} (h : 0 < b) : a.fdiv b = a / b := Int.fdiv_eq_ediv_of_nonneg a (by omega)
theorem gcd_step (a b : Int) (h : 0 < b) : Int.gcd b (a % b) = Int.gcd a b := by
  have e : a % b = a - b * (a / b) := Int.emod_def a b
  apply Nat.dvd_antisymm
  · refine Int.natCast_dvd_natCast.mp (Int.dvd_coe_gcd ?_ (Int.gcd_dvd_left ..))
    have h1 : (Int.gcd b (a % b) : Int) ∣ b := Int.gcd_dvd_left ..
    have h2 : (Int.gcd b (a % b) : Int) ∣ a % b := Int.gcd_dvd_right ..
    have h3 := Int.dvd_add h2 (Int.dvd_trans h1 (Int.dvd_mul_right b (a / b)))
    rwa [e, Int.sub_add_cancel, ← e] at h3
  · refine Int.natCast_dvd_natCast.mp (Int.dvd_coe_gcd (Int.gcd_dvd_right ..) ?_)
    rw [e]
    exact Int.dvd_sub (Int.gcd_dvd_left ..) (Int.dvd_trans (Int.gcd_dvd_right ..) (Int.dvd_mul_right b (a / b)))
theorem is_whole_int (a : Int) : m_is_whole [.int a] = some (.val (.bl true)) := by
  simp [m_is_whole, b_is_whole, fnSem, sRet, sbnd, qAnd, obnd, eIsi, eVar, ov, isiB, tyD, isiN, qNot]
theorem common_loop (n : Nat) : ∀ (a b : Int), 0 ≤ a → 0 ≤ b → b.natAbs < n →
    whileS (qV (eVar 1)) (sPar 0 1 (eVar 1) (eOp (i2 modI) (eVar 0) (eVar 1))) n [some (.sh (.int a)), some (.sh (.int b))] = some (.nx [some (.sh (.int (Int.gcd a b))), some (.sh (.int 0))]) := by
  induction n with
  | zero => intro a b _ _ h; omega
  | succ n ih =>
    intro a b ha hb hn
    by_cases h0 : b = 0
    · subst h0
      have : (a.natAbs : Int) = a := by omega
      simp [whileS, sbnd, qV, obnd, eVar, truthD, ov, this]
    · have hb' : 0 < b := by omega
      have h1 := Int.emod_nonneg a h0
      have h2 := Int.emod_lt_of_pos a hb'
      have e := ih b (a % b) hb h1 (by omega)
      rw [gcd_step a b hb'] at e
      have hne : (b != 0) = true := by simp [h0]
      simp [whileS, sbnd, qV, obnd, eVar, truthD, ov, h0, hne, sPar, eOp, i2, modI, fmod_pos hb']
      exact e
theorem common_pos (a b : Int) (h : 0 < b) : m_common [.int a, .int b] = some (.val (.int (Int.gcd a b))) := by
  have h0 : b ≠ 0 := by omega
  have h1 := Int.emod_nonneg a h0
  have h2 := Int.emod_lt_of_pos a h
  have e := common_loop (a.natAbs + (b.natAbs + 1)) b (a % b) (by omega) h1 (by omega)
  rw [gcd_step a b h] at e
  have hf : fuelR [some (.sh (.int a)), some (.sh (.int b))] = (a.natAbs + (b.natAbs + 1)) + 1 := by simp [fuelR]; omega
  have e2 : whileS (qV (eVar 1)) (sPar 0 1 (eVar 1) (eOp (i2 modI) (eVar 0) (eVar 1))) ((a.natAbs + (b.natAbs + 1)) + 1) [some (.sh (.int a)), some (.sh (.int b))] = some (.nx [some (.sh (.int (Int.gcd a b))), some (.sh (.int 0))]) := by
    rw [whileS]
    have hne : (b != 0) = true := by simp [h0]
    simp [sbnd, qV, obnd, eVar, truthD, ov, h0, hne, sPar, eOp, i2, modI, fmod_pos h]
    exact e
  simp [m_common, b_common, fnSem, sSeq, sWhile, hf, e2, sRet, sbnd, eVar]
theorem low_loop (t u : D) (n : Nat) : ∀ (a b : Int), 0 ≤ a → 0 ≤ b → b.natAbs < n →
    whileS (eOp (i2 gtI) (eVar 3) (eC (.int 0))) (sPar 2 3 (eVar 3) (eOp (i2 modI) (eVar 2) (eVar 3))) n [some (.sh t), some (.sh u), some (.sh (.int a)), some (.sh (.int b))] = some (.nx [some (.sh t), some (.sh u), some (.sh (.int (Int.gcd a b))), some (.sh (.int 0))]) := by
  induction n with
  | zero => intro a b _ _ h; omega
  | succ n ih =>
    intro a b ha hb hn
    by_cases h0 : b = 0
    · subst h0
      have : (a.natAbs : Int) = a := by omega
      simp [whileS, sbnd, eOp, obnd, eVar, eC, i2, gtI, ov, this]
    · have hb' : 0 < b := by omega
      have h1 := Int.emod_nonneg a h0
      have h2 := Int.emod_lt_of_pos a hb'
      have e := ih b (a % b) hb h1 (by omega)
      rw [gcd_step a b hb'] at e
      simp [whileS, sbnd, obnd, eVar, eC, gtI, ov, h0, hb', sPar, eOp, i2, modI, fmod_pos hb']
      exact e
def shr (a b : Int) : D := .tup [.int (a / Int.gcd a b), .int (b / Int.gcd a b)]
theorem gcd_pos {a b : Int} (h : 0 < b) : (0 : Int) < Int.gcd a b := by
  have : 0 < Int.gcd a b := Int.gcd_pos_of_ne_zero_right a (by omega)
  omega
theorem low_pos (a b : Int) (h : 0 < b) (hs : (Int.gcd a b).log2 < 9000) : m_q_low [.int a, .int b] = some (.val (shr a b)) := by
  have h0 : b ≠ 0 := by omega
  have ha : (if a < 0 then -a else a) = (a.natAbs : Int) := by split <;> omega
  have e := low_loop (.int a) (.int b) (fuelR [some (.sh (.int a)), some (.sh (.int b)), some (.sh (.int a.natAbs)), some (.sh (.int b))]) a.natAbs b (by omega) (by omega) (by simp [fuelR]; omega)
  have hg : Int.gcd a.natAbs b = Int.gcd a b := by simp [Int.gcd]
  rw [hg] at e
  have gp := gcd_pos (a := a) h
  have g0 : ¬ Int.gcd a b = 0 := by omega
  simp [m_q_low, b_q_low, fnSem, sSeq, sWhile, sPar, sbnd, eB, lbnd, aCons, aNil, obndL, lbndL, eVar, absB, ov, ha, e, sRet, eTup, eOp, obnd, i2, divI, g0, hs, smallL, shr, fdiv_pos gp]
end BD
namespace BD
open PySem L2
structure Sh (a b : Int) : Prop where
  pos : 0 < b
  one : Int.gcd a b = 1
def sh (a b : Int) : D := .tup [.int a, .int b]
theorem gcd_div {a b : Int} (h : 0 < b) : Int.gcd (a / Int.gcd a b) (b / Int.gcd a b) = 1 :=
  Int.gcd_ediv_gcd_ediv_gcd (Int.gcd_pos_of_ne_zero_right a (by omega))
theorem div_mul {a b : Int} : a / Int.gcd a b * Int.gcd a b = a := Int.ediv_mul_cancel (Int.gcd_dvd_left ..)
theorem div_mul' {a b : Int} : b / Int.gcd a b * Int.gcd a b = b := Int.ediv_mul_cancel (Int.gcd_dvd_right ..)
theorem shr_sh {a b : Int} (h : 0 < b) : ∃ p q k, shr a b = sh p q ∧ Sh p q ∧ 0 < k ∧ p * k = a ∧ q * k = b := by
  refine ⟨a / Int.gcd a b, b / Int.gcd a b, Int.gcd a b, rfl, ⟨?_, gcd_div h⟩, gcd_pos h, div_mul, div_mul'⟩
  have g := gcd_pos (a := a) h
  have e : b / Int.gcd a b * Int.gcd a b = b := div_mul'
  exact Int.pos_of_mul_pos_left (by rw [e]; exact h) g
end BD
namespace BD
open PySem L2
def Bd (n : Nat) (i : Int) : Prop := i.natAbs < 2 ^ n
theorem Bd.mono {m n : Nat} {i : Int} (h : Bd m i) (l : m ≤ n) : Bd n i := Nat.lt_of_lt_of_le h (Nat.pow_le_pow_right (by decide) l)
theorem Bd.mul {m n : Nat} {i j : Int} (h : Bd m i) (k : Bd n j) : Bd (m + n) (i * j) := by
  unfold Bd at *
  rw [Int.natAbs_mul, Nat.pow_add]
  exact Nat.mul_lt_mul'' h k
theorem Bd.add {n : Nat} {i j : Int} (h : Bd n i) (k : Bd n j) : Bd (n + 1) (i + j) := by
  unfold Bd at *
  rw [Nat.pow_succ]
  omega
theorem Bd.neg {n : Nat} {i : Int} (h : Bd n i) : Bd n (-i) := by unfold Bd at *; omega
theorem Bd.sub {n : Nat} {i j : Int} (h : Bd n i) (k : Bd n j) : Bd (n + 1) (i - j) := by
  unfold Bd at *
  rw [Nat.pow_succ]
  omega
theorem Bd.log {n : Nat} {i : Int} (h : Bd n i) (hn : 0 < n) : i.natAbs.log2 < n := by
  by_cases h0 : i.natAbs = 0
  · rw [h0]; have : Nat.log2 0 = 0 := by decide
    omega
  · exact (Nat.log2_lt h0).mpr h
theorem Bd.small {n : Nat} {i : Int} (h : Bd n i) (hn : n ≤ 50000000) : smallI i = true := by
  refine decide_eq_true ?_
  have := (h.mono (Nat.le_succ n)).log (Nat.succ_pos n)
  omega
theorem Bd.gcd {n : Nat} {a b : Int} (h : Bd n b) (hb : 0 < b) : Bd n (Int.gcd a b) := by
  unfold Bd at *
  have : Int.gcd a b ∣ b.natAbs := by
    have := Int.natAbs_dvd_natAbs.mpr (Int.gcd_dvd_right a b)
    simpa using this
  have := Nat.le_of_dvd (by omega) this
  omega
structure Shn (n : Nat) (a b : Int) : Prop where
  s : Sh a b
  ba : Bd n a
  bb : Bd n b
theorem Shn.mono {m n : Nat} {a b : Int} (h : Shn m a b) (l : m ≤ n) : Shn n a b := ⟨h.s, h.ba.mono l, h.bb.mono l⟩
theorem abs_le_of_mul {p k a : Int} (h : p * k = a) (hk : 0 < k) : p.natAbs ≤ a.natAbs := by
  rw [← h, Int.natAbs_mul]
  exact Nat.le_mul_of_pos_right _ (by omega)
theorem shr_shn {n : Nat} {a b : Int} (h : 0 < b) (ha : Bd n a) (hb : Bd n b) : ∃ p q k, shr a b = sh p q ∧ Shn n p q ∧ 0 < k ∧ p * k = a ∧ q * k = b := by
  obtain ⟨p, q, k, e, s, hk, e1, e2⟩ := shr_sh (a := a) h
  refine ⟨p, q, k, e, ⟨s, ?_, ?_⟩, hk, e1, e2⟩
  · exact Nat.lt_of_le_of_lt (abs_le_of_mul e1 hk) ha
  · exact Nat.lt_of_le_of_lt (abs_le_of_mul e2 hk) hb
theorem is_share_sh {a b : Int} (h : Sh a b) : m_is_share [sh a b] = some (.val (.bl true)) := by
  have h1 : 1 ≤ b := by have := h.pos; omega
  have hg : (Int.gcd a b : Int) = 1 := by rw [h.one]; rfl
  have e : neD (.int 2) (.int 2) = some (.bl false) := by kernel_rfl
  have e2 : eqD (.int 1) (.int 1) = some (.bl true) := by kernel_rfl
  simp [m_is_share, b_is_share, fnSem, sSeq, sIf, sbnd, qOr, qNot, qV, obnd, eIsi, eVar, ov, isiB, tyD, isiN, sh, truthD, eOp, eB, lbnd, aCons, aNil, obndL, lbndL, lenB, eC, e, sNext, sAsg, gTp, gsCons, gNm, gsNil, sRet, qAnd, eCall, is_whole_int, i2, geI, h1, common_pos a b h.pos, hg, e2]
theorem lowest_pos {n : Nat} {a b : Int} (hb : 0 < b) (h : Bd n b) (hn : n ≤ 8000) : m_lowest [.int a, .int b] = some (.val (shr a b)) := by
  have h0 : ¬ b < 0 := by omega
  have gp := gcd_pos (a := a) hb
  have g0 : ¬ Int.gcd a b = 0 := by omega
  have lg : (Int.gcd a b).log2 < 9000 := by
    have := ((Bd.gcd (a := a) h hb).mono (Nat.le_succ n)).log (Nat.succ_pos n)
    simp at this
    omega
  simp [m_lowest, b_lowest, fnSem, sSeq, sIf, sbnd, eOp, obnd, eVar, eC, i2, ltI, ov, h0, sNext, sAsg, eCall, lbnd, aCons, aNil, obndL, lbndL, common_pos a b hb, gNm, sRet, eTup, divI, g0, lg, smallL, shr, fdiv_pos gp]
end BD
namespace BD
open PySem L2
theorem q_number {n : Nat} {cell at' whole : Int} (hc : Bd n cell) (hw : Bd n whole) (h0 : 0 ≤ at') (h1 : at' ≤ 2000) (hn : n ≤ 20000000) (hn0 : 40 ≤ n) : ∃ N, m_q_number [.int cell, .int at', .int whole] = some (.val (.int N)) := by
  have b977 : Bd 10 977 := by unfold Bd; decide
  have bat : Bd 11 at' := by unfold Bd; omega
  have b31 : Bd 5 31 := by unfold Bd; decide
  have b7 : Bd 3 7 := by unfold Bd; decide
  have b48 : Bd 16 48271 := by unfold Bd; decide
  have k1 : Bd 21 (977 * at') := b977.mul bat
  have k2 : Bd (n + 1) (cell + 977 * at') := hc.add (k1.mono (by omega))
  have hm : 0 ≤ ((cell + 977 * at') * 48271 + whole).fmod 2147483647 ∧ ((cell + 977 * at') * 48271 + whole).fmod 2147483647 < 2147483647 := by
    rw [fmod_pos (by decide)]
    exact ⟨Int.emod_nonneg _ (by decide), Int.emod_lt_of_pos _ (by decide)⟩
  generalize hM : ((cell + 977 * at') * 48271 + whole).fmod 2147483647 = M at hm
  have bM : Bd 31 M := by unfold Bd; omega
  have k3 : Bd 32 (M + 31 * at' + 7) := by unfold Bd; omega
  have k4 : Bd 63 (M * (M + 31 * at' + 7)) := bM.mul k3
  have k5 : Bd (n + 2) (M + cell + 5) := ((bM.mono (by omega : 31 ≤ n)).add hc).add ((by unfold Bd; decide : Bd 3 5).mono (by omega))
  have k6 : Bd (63 + (n + 2)) (M * (M + 31 * at' + 7) * (M + cell + 5)) := k4.mul k5
  have k7 : Bd (63 + (n + 2) + 1) (M * (M + 31 * at' + 7) * (M + cell + 5) + 48271) := k6.add (b48.mono (by omega))
  have z1 := b977.small (by omega)
  have z2 := bat.small (by omega)
  have z3 := k2.small (by omega)
  have z4 := b48.small (by omega)
  have z5 := b31.small (by omega)
  have z6 := bM.small (by omega)
  have z7 := k3.small (by omega)
  have z8 := k4.small (by omega)
  have z9 := k5.small (by omega)
  have z10 := k6.small (by omega)
  have z11 := k7.small (by omega)
  have lg : Nat.log2 1009 < 9000 := by decide
  by_cases hb : (1000000000000000000 : Int) ≤ cell
  · exact ⟨cell, by simp [m_q_number, b_q_number, fnSem, sSeq, sIf, sbnd, eOp, obnd, eVar, eC, i2, geI, powI, ov, sRet, hb]⟩
  · refine ⟨(M * (M + 31 * at' + 7) * (M + cell + 5) * (M * (M + 31 * at' + 7) * (M + cell + 5) + 48271)).fdiv 1009, ?_⟩
    simp [m_q_number, b_q_number, fnSem, sSeq, sIf, sbnd, eOp, obnd, eVar, eC, i2, geI, powI, ov, sRet, hb, sNext, sAsg, gNm, mulI, addI, modI, divI, z1, z2, z3, z4, z5, hM, z6, z7, z8, z9, z10, z11, lg]
theorem q_whole_int (a : Int) : m_q_whole [.int a] = some (.val (.bl true)) := by
  simp [m_q_whole, b_q_whole, fnSem, sRet, sbnd, qAnd, obnd, eIsi, eVar, ov, isiB, tyD, isiN, qNot]
end BD
namespace BD
open PySem L2
theorem eqD_int (i j : Int) : eqD (.int i) (.int j) = some (.bl (i == j)) := by
  simp [eqD, eqvD, pyO, SeqAt.shaped, PyData.canLay0, PyData.depth, PyData.eqv]
theorem ix_ints {ns : List Int} {i : Int} (h0 : -(ns.length : Int) ≤ i) (h1 : i < ns.length) : ∃ c ∈ ns, ixD (.lst (ns.map .int)) (.int i) = some (.int c) := by
  have key : ∀ j : Nat, j < ns.length → ∃ c ∈ ns, (ns.map D.int)[j]? = some (.int c) := fun j hj => ⟨ns[j], List.getElem_mem hj, by simp [hj]⟩
  show ∃ c ∈ ns, atI (ns.map D.int) i = some (.int c)
  unfold atI ixN
  rw [List.length_map]
  by_cases h : 0 ≤ i
  · obtain ⟨c, hc, e⟩ := key i.toNat (by omega)
    exact ⟨c, hc, by rw [if_pos h, if_pos h1]; exact e⟩
  · obtain ⟨c, hc, e⟩ := key (i + ns.length).toNat (by omega)
    exact ⟨c, hc, by rw [if_neg h, if_pos h0]; exact e⟩
theorem mod4 (m : Int) : m.fmod 4 = 0 ∨ m.fmod 4 = 1 ∨ m.fmod 4 = 2 ∨ m.fmod 4 = 3 := by
  rw [fmod_pos (by decide)]; omega
theorem intsO_map : ∀ ns : List Int, intsO (ns.map D.int) = some ns
  | [] => rfl
  | n :: ns => by simp [intsO, intsO_map ns]
theorem Bd.sum {n : Nat} : ∀ {ns : List Int}, (∀ i ∈ ns, Bd n i) → ns.length ≤ 64 → Bd (n + ns.length) ns.sum
  | [], _, _ => by unfold Bd; simp [Nat.two_pow_pos]
  | a :: ns, h, hl => by
    have h1 := h a (List.mem_cons_self ..)
    have h2 := Bd.sum (ns := ns) (fun i hi => h i (List.mem_cons_of_mem _ hi)) (by simp at hl; omega)
    have := (h1.mono (by omega : n ≤ n + ns.length)).add h2
    simpa [Nat.add_assoc] using this
theorem cut63 {ns : List Int} (h : ns.length ≤ 63) : cutD (ns.map D.int) none (some 63) = ns.map D.int := by
  unfold cutD HT.sIx
  simp [h]
  exact List.take_of_length_le (by simp)
end BD
namespace BD
open PySem L2
theorem eqD_sh (a b c d : Int) : eqD (sh a b) (sh c d) = some (.bl (a == c && b == d)) := by
  simp [eqD, eqvD, pyO, pyOs, sh, SeqAt.shaped, PyData.canLay0, PyData.canLayAll0, PyData.depth, PyData.depthAll, PyData.eqv, PyData.eqvAll]
theorem dvd_one {p q s : Int} (h : Int.gcd p q = 1) (d : q ∣ p * s) : q ∣ s := by
  have d' : q.natAbs ∣ p.natAbs * s.natAbs := by rw [← Int.natAbs_mul]; exact Int.natAbs_dvd_natAbs.mpr d
  have c : Nat.Coprime q.natAbs p.natAbs := by
    show Nat.gcd q.natAbs p.natAbs = 1
    rw [Nat.gcd_comm]; exact h
  exact Int.natAbs_dvd_natAbs.mp (c.dvd_of_dvd_mul_left d')
theorem uniq {p q r s : Int} (h : Sh p q) (h' : Sh r s) (e : p * s = r * q) : p = r ∧ q = s := by
  have d1 : q ∣ s := dvd_one h.one ⟨r, by rw [e, Int.mul_comm]⟩
  have d2 : s ∣ q := dvd_one h'.one ⟨p, by rw [← e, Int.mul_comm]⟩
  have hq : q = s := Int.dvd_antisymm (by have := h.pos; omega) (by have := h'.pos; omega) d1 d2
  subst hq
  exact ⟨Int.eq_of_mul_eq_mul_right (by have := h.pos; omega) e, rfl⟩
theorem shr_self {p q : Int} (h : Sh p q) : shr p q = sh p q := by
  unfold shr sh
  rw [h.one]
  simp
def Wo (n : Nat) (x : Option Out) (t b : Int) : Prop := ∃ p q, x = some (.val (sh p q)) ∧ Shn n p q ∧ p * b = q * t
theorem lowest_any {n : Nat} {t b : Int} (h0 : b ≠ 0) (ht : Bd n t) (hb : Bd n b) (hn : n ≤ 8000) : Wo n (m_lowest [.int t, .int b]) t b := by
  by_cases hp : 0 < b
  · obtain ⟨p, q, k, e, s, hk, e1, e2⟩ := shr_shn hp ht hb
    refine ⟨p, q, by rw [lowest_pos hp hb hn, e], s, ?_⟩
    rw [← e1, ← e2]; grind
  · have hp' : 0 < -b := by omega
    have hl : b < 0 := by omega
    obtain ⟨p, q, k, e, s, hk, e1, e2⟩ := shr_shn hp' ht.neg hb.neg
    have gp := gcd_pos (a := -t) hp'
    have g0 : ¬ Int.gcd (-t) (-b) = 0 := by omega
    have lg : (Int.gcd (-t) (-b)).log2 < 9000 := by
      have := ((Bd.gcd (a := -t) hb.neg hp').mono (Nat.le_succ n)).log (Nat.succ_pos n)
      simp only [Int.natAbs_natCast] at this
      omega
    have cm := common_pos (-t) (-b) hp'
    refine ⟨p, q, ?_, s, ?_⟩
    · rw [← e]
      generalize hG : Int.gcd (-t) (-b) = G at *
      have f1 := fdiv_pos (a := -t) gp
      have f2 := fdiv_pos (a := -b) gp
      have gg : ¬ (G : Int) = 0 := by omega
      simp [m_lowest, b_lowest, fnSem, sSeq, sIf, sbnd, eOp, obnd, eVar, eC, i2, ltI, ov, hl, sPar, eNeg, sNext, sAsg, eCall, lbnd, aCons, aNil, obndL, lbndL, cm, gNm, sRet, eTup, divI, g0, lg, smallL, shr, hG, f1, f2]
    · have e3 : t = -(p * k) := by omega
      have e4 : b = -(q * k) := by omega
      rw [e3, e4]; grind
theorem Wo.some {n : Nat} {x : Option Out} {t b : Int} (h : Wo n x t b) : ∃ p q, x = some (.val (sh p q)) ∧ Shn n p q ∧ p * b = q * t := h
end BD
namespace BD
open PySem L2
def shR (x : Rat) : D := sh x.num x.den
theorem shR_sh (x : Rat) : Sh x.num x.den := by
  refine ⟨?_, ?_⟩
  · have := x.den_nz; omega
  · have := x.reduced
    show Nat.gcd x.num.natAbs (x.den : Int).natAbs = 1
    rw [Int.natAbs_natCast]
    exact this
theorem rat_eq (x : Rat) : (x.num : Rat) / ((x.den : Int) : Rat) = x := by
  rw [← Rat.divInt_eq_div]
  exact Rat.num_divInt_den x
theorem den_ne (x : Rat) : ((x.den : Int) : Rat) ≠ 0 := by
  intro h
  have h2 : ((x.den : Int) : Rat) = ((0 : Int) : Rat) := h
  have := Rat.intCast_inj.mp h2
  have := x.den_nz
  omega
theorem cast_ne {b : Int} (h : b ≠ 0) : (b : Rat) ≠ 0 := by
  intro z
  have h2 : (b : Rat) = ((0 : Int) : Rat) := z
  exact h (Rat.intCast_inj.mp h2)
theorem rat_inj {p q : Int} {x : Rat} (hq : q ≠ 0) (h : (p : Rat) / q = x) : p * x.den = x.num * q := by
  have e := rat_eq x
  have d := den_ne x
  have d2 := cast_ne hq
  apply Rat.intCast_inj.mp
  rw [Rat.intCast_mul, Rat.intCast_mul]
  generalize ((x.den : Int) : Rat) = D at *
  generalize (x.num : Rat) = N at *
  generalize (p : Rat) = P at *
  generalize (q : Rat) = Q at *
  grind
theorem sh_shR {p q : Int} {x : Rat} (s : Sh p q) (h : (p : Rat) / q = x) : sh p q = shR x := by
  have hp := s.pos
  obtain ⟨h1, h2⟩ := uniq s (shR_sh x) (rat_inj (by omega) h)
  unfold shR
  rw [← h1, ← h2]
structure BdR (n : Nat) (x : Rat) : Prop where
  t : Bd n x.num
  b : Bd n x.den
theorem BdR.mono {m n : Nat} {x : Rat} (h : BdR m x) (l : m ≤ n) : BdR n x := ⟨h.t.mono l, h.b.mono l⟩
theorem BdR.shn {n : Nat} {x : Rat} (h : BdR n x) : Shn n x.num x.den := ⟨shR_sh x, h.t, h.b⟩
theorem bdR_of {n : Nat} {p q : Int} {x : Rat} (s : Shn n p q) (h : (p : Rat) / q = x) : BdR n x := by
  have hp := s.s.pos
  obtain ⟨h1, h2⟩ := uniq s.s (shR_sh x) (rat_inj (by omega) h)
  exact ⟨by rw [← h1]; exact s.ba, by rw [← h2]; exact s.bb⟩
theorem cross {p q t b : Int} (hq : q ≠ 0) (hb : b ≠ 0) (h : p * b = q * t) : (p : Rat) / q = (t : Rat) / b := by
  have d1 := cast_ne hq
  have d2 := cast_ne hb
  have e : (p : Rat) * b = q * t := by rw [← Rat.intCast_mul, ← Rat.intCast_mul, h]
  generalize (p : Rat) = P at *
  generalize (q : Rat) = Q at *
  generalize (t : Rat) = T at *
  generalize (b : Rat) = B at *
  grind
theorem BdR.div {n : Nat} {t b : Int} {x : Rat} (h0 : b ≠ 0) (ht : Bd n t) (hb : Bd n b) (e : (t : Rat) / b = x) : BdR n x := by
  by_cases hp : 0 < b
  · obtain ⟨p, q, k, _, s, hk, e1, e2⟩ := shr_shn hp ht hb
    have hq := s.s.pos
    refine bdR_of s ((cross (by omega) h0 ?_).trans e)
    rw [← e1, ← e2]; grind
  · obtain ⟨p, q, k, _, s, hk, e1, e2⟩ := shr_shn (show 0 < -b by omega) ht.neg hb.neg
    have hq := s.s.pos
    refine bdR_of s ((cross (by omega) h0 ?_).trans e)
    have e3 : t = -(p * k) := by omega
    have e4 : b = -(q * k) := by omega
    rw [e3, e4]; grind
theorem lowest_R {n : Nat} {t b : Int} {x : Rat} (h0 : b ≠ 0) (ht : Bd n t) (hb : Bd n b) (hn : n ≤ 8000) (e : (t : Rat) / b = x) : m_lowest [.int t, .int b] = some (.val (shR x)) := by
  obtain ⟨p, q, e1, s, k⟩ := lowest_any h0 ht hb hn
  have hq := s.s.pos
  rw [e1, sh_shR s.s ((cross (by omega) h0 k).trans e)]
theorem low_R {n : Nat} {t b : Int} {x : Rat} (h0 : 0 < b) (hb : Bd n b) (hn : n ≤ 8000) (e : (t : Rat) / b = x) : m_q_low [.int t, .int b] = some (.val (shR x)) := by
  have lg : (Int.gcd t b).log2 < 9000 := by
    have := ((Bd.gcd (a := t) hb h0).mono (Nat.le_succ n)).log (Nat.succ_pos n)
    simp only [Int.natAbs_natCast] at this
    omega
  obtain ⟨p, q, k, e1, s, hk, e2, e3⟩ := shr_sh (a := t) h0
  have hq := s.pos
  rw [low_pos t b h0 lg, e1, sh_shR s ((cross (by omega) (by omega) ?_).trans e)]
  rw [← e2, ← e3]; grind
theorem ix_R0 (x : Rat) : ixD (shR x) (.int 0) = some (.int x.num) := rfl
theorem ix_R1 (x : Rat) : ixD (shR x) (.int 1) = some (.int x.den) := rfl
theorem eqD_R (x y : Rat) : eqD (shR x) (shR y) = some (.bl (decide (x = y))) := by
  unfold shR
  rw [eqD_sh]
  by_cases h : x = y
  · subst h; simp
  · have : ¬ (x.num = y.num ∧ (x.den : Int) = y.den) := fun z => h (Rat.ext z.1 (by omega))
    simp [h]
    intro z
    intro z2
    exact h (Rat.ext z (by omega))
section
variable {n m : Nat} {x y : Rat}
theorem add_val (x y : Rat) : ((x.num * y.den + y.num * x.den : Int) : Rat) / ((x.den * y.den : Int) : Rat) = x + y := by
  have ex := rat_eq x
  have ey := rat_eq y
  have dx := den_ne x
  have dy := den_ne y
  rw [Rat.intCast_add, Rat.intCast_mul, Rat.intCast_mul, Rat.intCast_mul]
  generalize ((x.den : Int) : Rat) = D at *
  generalize (x.num : Rat) = N at *
  generalize ((y.den : Int) : Rat) = D2 at *
  generalize (y.num : Rat) = N2 at *
  subst ex ey
  grind
theorem sub_val (x y : Rat) : ((x.num * y.den - y.num * x.den : Int) : Rat) / ((x.den * y.den : Int) : Rat) = x - y := by
  have ex := rat_eq x
  have ey := rat_eq y
  have dx := den_ne x
  have dy := den_ne y
  rw [Rat.intCast_sub, Rat.intCast_mul, Rat.intCast_mul, Rat.intCast_mul]
  generalize ((x.den : Int) : Rat) = D at *
  generalize (x.num : Rat) = N at *
  generalize ((y.den : Int) : Rat) = D2 at *
  generalize (y.num : Rat) = N2 at *
  subst ex ey
  grind
theorem mul_val (x y : Rat) : ((x.num * y.num : Int) : Rat) / ((x.den * y.den : Int) : Rat) = x * y := by
  have ex := rat_eq x
  have ey := rat_eq y
  have dx := den_ne x
  have dy := den_ne y
  rw [Rat.intCast_mul, Rat.intCast_mul]
  generalize ((x.den : Int) : Rat) = D at *
  generalize (x.num : Rat) = N at *
  generalize ((y.den : Int) : Rat) = D2 at *
  generalize (y.num : Rat) = N2 at *
  subst ex ey
  grind
theorem div_val (x y : Rat) (hy : y.num ≠ 0) : ((x.num * y.den : Int) : Rat) / ((x.den * y.num : Int) : Rat) = x / y := by
  have ex := rat_eq x
  have ey := rat_eq y
  have dx := den_ne x
  have dy := den_ne y
  have ny := cast_ne hy
  rw [Rat.intCast_mul, Rat.intCast_mul]
  generalize ((x.den : Int) : Rat) = D at *
  generalize (x.num : Rat) = N at *
  generalize ((y.den : Int) : Rat) = D2 at *
  generalize (y.num : Rat) = N2 at *
  subst ex ey
  grind
theorem den_pos (x : Rat) : (0 : Int) < x.den := (shR_sh x).pos
theorem dd_pos (x y : Rat) : (0 : Int) < x.den * y.den := Int.mul_pos (den_pos x) (den_pos y)
theorem BdR.add (hx : BdR n x) (hy : BdR m y) : BdR (n + m + 1) (x + y) := by
  have := dd_pos x y
  exact BdR.div (by omega) ((hx.t.mul hy.b).add ((hy.t.mul hx.b).mono (by omega))) ((hx.b.mul hy.b).mono (by omega)) (add_val x y)
theorem BdR.sub (hx : BdR n x) (hy : BdR m y) : BdR (n + m + 1) (x - y) := by
  have := dd_pos x y
  exact BdR.div (by omega) ((hx.t.mul hy.b).sub ((hy.t.mul hx.b).mono (by omega))) ((hx.b.mul hy.b).mono (by omega)) (sub_val x y)
theorem BdR.mul (hx : BdR n x) (hy : BdR m y) : BdR (n + m) (x * y) := by
  have := dd_pos x y
  exact BdR.div (by omega) (hx.t.mul hy.t) (hx.b.mul hy.b) (mul_val x y)
theorem BdR.quot (hx : BdR n x) (hy : BdR m y) (h0 : y.num ≠ 0) : BdR (n + m) (x / y) := by
  have := den_pos x
  exact BdR.div (Int.mul_ne_zero (by omega) h0) (hx.t.mul hy.b) (hx.b.mul hy.t) (div_val x y h0)
theorem BdR.small (hx : BdR n x) (hn : n ≤ 8000) : smallI x.num = true ∧ smallI x.den = true := ⟨hx.t.small (by omega), hx.b.small (by omega)⟩
end
theorem is_share_R (x : Rat) : m_is_share [shR x] = some (.val (.bl true)) := is_share_sh (shR_sh x)
end BD
namespace BD
open PySem L2
section
variable {n m : Nat} {x y : Rat}
theorem added_R (hx : BdR n x) (hy : BdR m y) (h : n + m ≤ 7900) : m_added [shR x, shR y] = some (.val (shR (x + y))) := by
  obtain ⟨s1, s2⟩ := hx.small (by omega)
  obtain ⟨s3, s4⟩ := hy.small (by omega)
  have hp := dd_pos x y
  have e := lowest_R (by omega) ((hx.t.mul hy.b).add ((hy.t.mul hx.b).mono (by omega))) ((hx.b.mul hy.b).mono (by omega)) (by omega) (add_val x y)
  simp [m_added, b_added, fnSem, sRet, sbnd, eCall, lbnd, aCons, aNil, obndL, lbndL, eOp, obnd, eVar, eC, ix_R0, ix_R1, ov, i2, mulI, addI, s1, s2, s3, s4, e]
theorem lessened_R (hx : BdR n x) (hy : BdR m y) (h : n + m ≤ 7900) : m_lessened [shR x, shR y] = some (.val (shR (x - y))) := by
  obtain ⟨s1, s2⟩ := hx.small (by omega)
  obtain ⟨s3, s4⟩ := hy.small (by omega)
  have hp := dd_pos x y
  have e := lowest_R (by omega) ((hx.t.mul hy.b).sub ((hy.t.mul hx.b).mono (by omega))) ((hx.b.mul hy.b).mono (by omega)) (by omega) (sub_val x y)
  simp [m_lessened, b_lessened, fnSem, sRet, sbnd, eCall, lbnd, aCons, aNil, obndL, lbndL, eOp, obnd, eVar, eC, ix_R0, ix_R1, ov, i2, mulI, subI, s1, s2, s3, s4, e]
theorem multiplied_R (hx : BdR n x) (hy : BdR m y) (h : n + m ≤ 7900) : m_multiplied [shR x, shR y] = some (.val (shR (x * y))) := by
  obtain ⟨s1, s2⟩ := hx.small (by omega)
  obtain ⟨s3, s4⟩ := hy.small (by omega)
  have hp := dd_pos x y
  have e := lowest_R (by omega) (hx.t.mul hy.t) (hx.b.mul hy.b) (by omega) (mul_val x y)
  simp [m_multiplied, b_multiplied, fnSem, sRet, sbnd, eCall, lbnd, aCons, aNil, obndL, lbndL, eOp, obnd, eVar, eC, ix_R0, ix_R1, ov, i2, mulI, s1, s2, s3, s4, e]
theorem parted_R (hx : BdR n x) (hy : BdR m y) (h0 : y.num ≠ 0) (h : n + m ≤ 7900) : m_parted [shR x, shR y] = some (.val (shR (x / y))) := by
  obtain ⟨s1, s2⟩ := hx.small (by omega)
  obtain ⟨s3, s4⟩ := hy.small (by omega)
  have hp := den_pos x
  have e := lowest_R (Int.mul_ne_zero (by omega) h0) (hx.t.mul hy.b) (hx.b.mul hy.t) (by omega) (div_val x y h0)
  simp [m_parted, b_parted, fnSem, sRet, sbnd, eCall, lbnd, aCons, aNil, obndL, lbndL, eOp, obnd, eVar, eC, ix_R0, ix_R1, ov, i2, mulI, s1, s2, s3, s4, e]
theorem q_sum_R (hx : BdR n x) (hy : BdR m y) (h : n + m ≤ 7900) : m_q_sum [shR x, shR y] = some (.val (shR (x + y))) := by
  obtain ⟨s1, s2⟩ := hx.small (by omega)
  obtain ⟨s3, s4⟩ := hy.small (by omega)
  have e := low_R (dd_pos x y) (hx.b.mul hy.b) (by omega) (add_val x y)
  simp [m_q_sum, b_q_sum, fnSem, sRet, sbnd, eCall, lbnd, aCons, aNil, obndL, lbndL, eOp, obnd, eVar, eC, ix_R0, ix_R1, ov, i2, mulI, addI, s1, s2, s3, s4, e]
theorem q_by_R (hx : BdR n x) (hy : BdR m y) (h : n + m ≤ 7900) : m_q_by [shR x, shR y] = some (.val (shR (x * y))) := by
  obtain ⟨s1, s2⟩ := hx.small (by omega)
  obtain ⟨s3, s4⟩ := hy.small (by omega)
  have e := low_R (dd_pos x y) (hx.b.mul hy.b) (by omega) (mul_val x y)
  simp [m_q_by, b_q_by, fnSem, sRet, sbnd, eCall, lbnd, aCons, aNil, obndL, lbndL, eOp, obnd, eVar, eC, ix_R0, ix_R1, ov, i2, mulI, s1, s2, s3, s4, e]
theorem q_is_share_R (hx : BdR n x) (hn : n ≤ 8000) : m_q_is_share [shR x] = some (.val (.bl true)) := by
  have h := hx.shn
  have hp := h.s.pos
  have lg : (Int.gcd x.num x.den).log2 < 9000 := by rw [h.s.one]; decide
  have l := low_pos x.num x.den hp lg
  rw [shr_self h.s] at l
  have e2 : neD (.int 2) (.int 2) = some (.bl false) := by kernel_rfl
  have ln : lenB [shR x] = some (.int 2) := rfl
  have it : isiB "tuple" (shR x) = some (.bl true) := rfl
  have hp2 : 0 < x.den := by omega
  have e3 : eqD (sh x.num x.den) (shR x) = some (.bl true) := by rw [show sh x.num x.den = shR x from rfl, eqD_R]; simp
  simp [m_q_is_share, b_q_is_share, fnSem, sSeq, sIf, sbnd, qOr, qNot, qV, obnd, eIsi, eVar, ov, it, truthD, eOp, eB, lbnd, aCons, aNil, obndL, lbndL, ln, eC, e2, eCall, ix_R0, ix_R1, q_whole_int, sNext, sRet, qAnd, i2, gtI, hp, hp2, l, e3]
end
end BD
namespace BD
open PySem L2
theorem is_weight_ok {w : Int} (h1 : 1 ≤ w) (h2 : w ≤ 60) : m_is_weight [.int w] = some (.val (.bl true)) := by
  simp [m_is_weight, b_is_weight, fnSem, sRet, sbnd, qAnd, obnd, eCall, lbnd, aCons, aNil, obndL, lbndL, eVar, is_whole_int, eChain, eC, ov, i2, leI, h1, h2]
theorem blsO_true {α : Type} : ∀ (xs : List α), blsO (xs.map fun _ => D.bl true) = some (xs.map fun _ => true)
  | [] => rfl
  | x :: xs => by simp [blsO, blsO_true xs]
theorem all_true {α : Type} (xs : List α) : (xs.map fun _ => true).all id = true := by
  induction xs with
  | nil => rfl
  | cons x xs ih => simpa using ih
end BD
namespace BD
open PySem L2
structure Bead where
  w : Int
  x : Rat
  v : Rat
def bD (b : Bead) : D := .tup [.int b.w, shR b.x, shR b.v]
structure RS (x : Rat) : Prop where
  lo : -1000000 ≤ x.num
  hi : x.num ≤ 1000000
  den : x.den ≤ 60
structure GB (b : Bead) : Prop where
  w1 : 1 ≤ b.w
  w2 : b.w ≤ 60
  x : RS b.x
  v : RS b.v
theorem RS.bd {x : Rat} (h : RS x) : BdR 20 x := by
  have h1 := h.lo
  have h2 := h.hi
  have h3 := h.den
  exact ⟨by unfold Bd; omega, by unfold Bd; omega⟩
theorem is_row_share_ok {x : Rat} (h : RS x) : m_is_row_share [shR x] = some (.val (.bl true)) := by
  have h1 := h.lo
  have h2 := h.hi
  have h3 := h.den
  have h4 : (x.den : Int) ≤ 60 := by omega
  simp [m_is_row_share, b_is_row_share, fnSem, sRet, sbnd, qAnd, obnd, eCall, lbnd, aCons, aNil, obndL, lbndL, eVar, is_share_R, eChain, eC, eNeg, eOp, ix_R0, ix_R1, ov, i2, leI, h1, h2, h3, h4]
theorem is_bead_ok {b : Bead} (h : GB b) : m_is_bead [bD b] = some (.val (.bl true)) := by
  have e : neD (.int 3) (.int 3) = some (.bl false) := by kernel_rfl
  have it : isiB "tuple" (bD b) = some (.bl true) := rfl
  have ln : lenB [bD b] = some (.int 3) := rfl
  have e1 := is_weight_ok h.w1 h.w2
  have e2 := is_row_share_ok h.x
  have e3 := is_row_share_ok h.v
  simp [m_is_bead, b_is_bead, fnSem, sSeq, sIf, sbnd, qOr, qNot, qV, obnd, eIsi, eVar, it, ov, truthD, eOp, eB, lbnd, aCons, aNil, obndL, lbndL, ln, eC, e, sNext, sAsg]
  simp [bD, gTp, gsCons, gNm, gsNil, sRet, sbnd, qAnd, obnd, eCall, lbnd, aCons, aNil, obndL, lbndL, eVar, e1, e2, e3]
theorem compared_lt {x y : Rat} (hx : RS x) (hy : RS y) (h : x < y) : m_compared [shR x, shR y] = some (.val (.int (-1))) := by
  obtain ⟨s1, s2⟩ := hx.bd.small (by decide)
  obtain ⟨s3, s4⟩ := hy.bd.small (by decide)
  have hl : x.num * y.den < y.num * x.den := (Rat.lt_iff x y).mp h
  have hg : ¬ (y.num * x.den < x.num * y.den) := by omega
  simp [m_compared, b_compared, fnSem, sSeq, sAsg, sbnd, eOp, obnd, eVar, eC, ix_R0, ix_R1, ov, i2, mulI, s1, s2, s3, s4, gNm, sIf, gtI, ltI, hg, hl, sNext, sRet, eNeg]
theorem compS_map {α : Type} {f h : α → D} {g : Gv} {q e : Ev} {ρ : Rho} : ∀ {xs : List α}, (∀ x ∈ xs, ∃ ρ', g (f x) ρ = some ρ' ∧ q ρ' = some (.val (.bl true)) ∧ e ρ' = some (.val (h x))) → compS g q e ρ (xs.map f) = some (xs.map h)
  | [], _ => rfl
  | x :: xs, H => by
    obtain ⟨ρ', e1, e2, e3⟩ := H x (List.mem_cons_self ..)
    have ih := compS_map (xs := xs) fun y hy => H y (List.mem_cons_of_mem _ hy)
    simp [compS, e1, e2, e3, ih]
structure GR (r : List Bead) : Prop where
  one : 1 ≤ r.length
  ten : r.length ≤ 10
  good : ∀ b ∈ r, GB b
  rise : ∀ (i : Nat) (a b : Bead), r[i]? = some a → r[i + 1]? = some b → a.x < b.x
theorem ix_map {α : Type} {f : α → D} {xs : List α} {i : Nat} {x : α} (h : xs[i]? = some x) : ixD (.lst (xs.map f)) (.int (i : Int)) = some (f x) := by
  obtain ⟨hl, e⟩ := List.getElem?_eq_some_iff.mp h
  show atI (xs.map f) (i : Int) = some (f x)
  unfold atI ixN
  rw [List.length_map, if_pos (by omega), if_pos (by omega)]
  simp [hl, e]
theorem bD1 (b : Bead) : ixD (bD b) (.int 1) = some (shR b.x) := rfl
theorem get_lt {α : Type} {xs : List α} {i : Nat} (h : i < xs.length) : ∃ x, xs[i]? = some x ∧ x ∈ xs := ⟨xs[i], by simp [h], List.getElem_mem h⟩
theorem lComp_map {α : Type} {f : EvL} {g : Gv} {q e : Ev} {vs : List Nat} {ρ : Rho} {xs : List α} {F h : α → D} (hf : f ρ = some (.vals (xs.map F))) (hl : xs.length ≤ 1000)
    (H : ∀ x ∈ xs, ∃ ρ', g (F x) (wipeR ρ vs) = some ρ' ∧ q ρ' = some (.val (.bl true)) ∧ e ρ' = some (.val (h x))) : lComp f g q e vs ρ = some (.vals (xs.map h)) := by
  have sl : smallL (xs.map F) = true := decide_eq_true (by rw [List.length_map]; omega)
  unfold lComp lbndL
  rw [hf]
  dsimp only
  rw [if_pos sl, compS_map H]
  rfl
theorem eFr_of {f : EvL} {ρ : Rho} {ds : List D} (h : f ρ = some (.vals ds)) : eFr f ρ = some (.val (.lst ds)) := by
  unfold eFr lbnd
  rw [h]
theorem all_comp {α : Type} {f : EvL} {g : Gv} {q e : Ev} {vs : List Nat} {ρ : Rho} {xs : List α} {F : α → D} (hf : f ρ = some (.vals (xs.map F))) (hl : xs.length ≤ 1000)
    (H : ∀ x ∈ xs, ∃ ρ', g (F x) (wipeR ρ vs) = some ρ' ∧ q ρ' = some (.val (.bl true)) ∧ e ρ' = some (.val (.bl true))) : eB allB (aCons (eFr (lComp f g q e vs)) aNil) ρ = some (.val (.bl true)) := by
  have e1 := eFr_of (lComp_map (h := fun _ => D.bl true) hf hl H)
  have a : allB [.lst (xs.map fun _ => D.bl true)] = some (.bl true) := by
    simp only [allB, blsO_true, Option.map_some, all_true]
  unfold eB aCons lbnd obndL
  rw [e1]
  simp only [aNil, lbndL, a]
  rfl
theorem fn_rt {n m : Nat} {body : Sv} {ds : List D} {d : D} {ρ : Rho} (hl : ds.length = n) (hρ : ds.map (fun d => some (Sl.sh d)) ++ List.replicate m none = ρ) (h : body ρ = some (.rt d)) : fnSem n m body ds = some (.val d) := by
  subst hρ
  unfold fnSem
  rw [if_pos hl, h]
theorem ret_of {f : Ev} {ρ : Rho} {d : D} (h : f ρ = some (.val d)) : sRet f ρ = some (.rt d) := by
  unfold sRet sbnd
  rw [h]
theorem seq_nx {f g : Sv} {ρ ρ' : Rho} {x : Option Fl} (h : f ρ = some (.nx ρ')) (k : g ρ' = x) : sSeq f g ρ = x := by unfold sSeq; rw [h]; exact k
theorem if_no {q : Ev} {f : Sv} {ρ : Rho} (h : q ρ = some (.val (.bl false))) : sIf q f sNext ρ = some (.nx ρ) := by
  unfold sIf sbnd
  rw [h]
  rfl
theorem expr_of {f : Ev} {ρ : Rho} {d : D} (h : f ρ = some (.val d)) : sExpr f ρ = some (.nx ρ) := by
  unfold sExpr sbnd
  rw [h]
theorem set_of {f : Ev} {ρ : Rho} {d : D} {i : Nat} (h : f ρ = some (.val d)) : sAsg f (gNm i) ρ = some (.nx (ρ.set i (some (.sh d)))) := by
  unfold sAsg sbnd
  rw [h]
  rfl
theorem call1 {g : List D → Option Out} {f : Ev} {ρ : Rho} {d : D} {o : Option Out} (h : f ρ = some (.val d)) (k : g [d] = o) : eCall g (aCons f aNil) ρ = o := by
  unfold eCall lbnd aCons obndL
  rw [h]
  exact k
theorem call2 {g : List D → Option Out} {f f2 : Ev} {ρ : Rho} {d d2 : D} {o : Option Out} (h : f ρ = some (.val d)) (h2 : f2 ρ = some (.val d2)) (k : g [d, d2] = o) : eCall g (aCons f (aCons f2 aNil)) ρ = o := by
  unfold eCall lbnd aCons obndL lbndL
  rw [h]
  dsimp only
  rw [h2]
  exact k
theorem call3 {g : List D → Option Out} {f f2 f3 : Ev} {ρ : Rho} {d d2 d3 : D} {o : Option Out} (h : f ρ = some (.val d)) (h2 : f2 ρ = some (.val d2)) (h3 : f3 ρ = some (.val d3)) (k : g [d, d2, d3] = o) : eCall g (aCons f (aCons f2 (aCons f3 aNil))) ρ = o := by
  unfold eCall lbnd aCons obndL lbndL
  rw [h]
  dsimp only
  rw [h2]
  dsimp only
  rw [h3]
  exact k
theorem and_of {f g : Ev} {ρ : Rho} {o : Option Out} (h : f ρ = some (.val (.bl true))) (k : g ρ = o) : qAnd f g ρ = o := by
  unfold qAnd obnd
  rw [h]
  exact k
theorem or_of {f g : Ev} {ρ : Rho} {o : Option Out} (h : f ρ = some (.val (.bl false))) (k : g ρ = o) : qOr f g ρ = o := by
  unfold qOr obnd
  rw [h]
  exact k
theorem not_of {f : Ev} {ρ : Rho} {b : Bool} (h : f ρ = some (.val (.bl b))) : qNot f ρ = some (.val (.bl (!b))) := by
  unfold qNot obnd
  rw [h]
theorem not_yes {f : Ev} {ρ : Rho} (h : f ρ = some (.val (.bl true))) : qNot (qV f) ρ = some (.val (.bl false)) := not_of (b := true) (by unfold qV obnd; rw [h]; rfl)
theorem op_of {g : D → D → Option D} {f f2 : Ev} {ρ : Rho} {d d2 d3 : D} (h : f ρ = some (.val d)) (h2 : f2 ρ = some (.val d2)) (k : g d d2 = some d3) : eOp g f f2 ρ = some (.val d3) := by
  unfold eOp obnd
  rw [h]
  dsimp only
  rw [h2]
  dsimp only
  rw [k]
  rfl
theorem wRng2_of {fa fb : Ev} {ρ : Rho} {i j : Int} (h1 : fa ρ = some (.val (.int i))) (h2 : fb ρ = some (.val (.int j))) (b1 : big62 i = true) (b2 : big62 j = true) : wRng2 (aCons fa (aCons fb aNil)) ρ = some (.vals (rngD i 1 (j - i).toNat)) := by
  simp only [wRng2, lbndL, aCons, aNil, obndL, h1, h2, b1, b2, Bool.and_self, if_true]
theorem len_of {f : Ev} {ρ : Rho} {ds : List D} (h : f ρ = some (.val (.lst ds))) : eB lenB (aCons f aNil) ρ = some (.val (.int (ds.length : Int))) := by
  unfold eB lbnd aCons obndL
  rw [h]
  rfl
theorem tup2_of {f f2 : Ev} {ρ : Rho} {d d2 : D} (h : f ρ = some (.val d)) (h2 : f2 ρ = some (.val d2)) : eTup (aCons f (aCons f2 aNil)) ρ = some (.val (.tup [d, d2])) := by
  simp [eTup, lbnd, aCons, aNil, obndL, lbndL, h, h2, smallL]
theorem big_few {n : Nat} (h : n ≤ 1000) : big62 (n : Int) = true := by simp [big62]; omega
theorem places_rise_ok {r : List Bead} (h : GR r) : m_places_rise [.lst (r.map bD)] = some (.val (.bl true)) := by
  have h1 := h.one
  have h10 := h.ten
  have rg : rngD 1 1 ((r.length : Int) - 1).toNat = (List.range (r.length - 1)).map fun k : Nat => D.int (((k + 1 : Nat)) : Int) := by
    rw [show ((r.length : Int) - 1).toNat = r.length - 1 by omega]
    unfold rngD
    congr 1
    funext k
    congr 1
    omega
  have hw : wRng2 (aCons (eC (.int 1)) (aCons (eB lenB (aCons (eVar 0) aNil)) aNil)) [some (.sh (.lst (r.map bD))), none] = some (.vals ((List.range (r.length - 1)).map fun k : Nat => D.int (((k + 1 : Nat)) : Int))) := by
    have l := len_of (f := eVar 0) (ρ := [some (.sh (.lst (r.map bD))), none]) (ds := r.map bD) rfl
    rw [List.length_map] at l
    rw [← rg]
    exact wRng2_of rfl l (by decide) (big_few (by omega))
  have al := all_comp (g := gNm 1) (q := qYes) (e := eOp (i2 ltI) (eCall m_compared (aCons (eOp ixD (eOp ixD (eVar 0) (eOp (i2 subI) (eVar 1) (eC (.int 1)))) (eC (.int 1))) (aCons (eOp ixD (eOp ixD (eVar 0) (eVar 1)) (eC (.int 1))) aNil))) (eC (.int 0))) (vs := [1]) hw (by simp; omega) fun k hk => by
    have hk := List.mem_range.mp hk
    obtain ⟨a, ea, ma⟩ := get_lt (xs := r) (i := k) (by omega)
    obtain ⟨b, eb, mb⟩ := get_lt (xs := r) (i := k + 1) (by omega)
    have cl := compared_lt (h.good a ma).x (h.good b mb).x (h.rise k a b ea eb)
    have i1 := ix_map (f := bD) ea
    have i2' := ix_map (f := bD) eb
    have ek : (((k + 1 : Nat)) : Int) - 1 = (k : Int) := by omega
    refine ⟨[some (.sh (.lst (r.map bD))), some (.sh (.int (((k + 1 : Nat)) : Int)))], rfl, rfl, ?_⟩
    generalize (((k + 1 : Nat)) : Int) = K at *
    simp [eOp, obnd, eCall, lbnd, aCons, aNil, obndL, lbndL, eVar, eC, ov, i2, subI, ek, i1, i2', bD1, cl, ltI]
  unfold m_places_rise b_places_rise
  exact fn_rt rfl rfl (ret_of al)
theorem is_row_ok {r : List Bead} (h : GR r) : m_is_row [.lst (r.map bD)] = some (.val (.bl true)) := by
  have h1 : (1 : Int) ≤ r.length := by have := h.one; omega
  have h10 : (r.length : Int) ≤ 10 := by have := h.ten; omega
  have h10' := h.ten
  have it : isiB "list" (.lst (r.map bD)) = some (.bl true) := rfl
  have a1 : decide ((1 : Int) ≤ r.length) = true := decide_eq_true h1
  have a2 : decide ((r.length : Int) ≤ 10) = true := decide_eq_true h10
  have hA : sIf (qOr (qNot (qV (eIsi "list" (eVar 0)))) (qNot (eChain (i2 leI) (i2 leI) (eC (.int 1)) (eB lenB (aCons (eVar 0) aNil)) (eC (.int 10))))) (sRet (eC (.bl false))) sNext [some (.sh (.lst (r.map bD))), none] = some (.nx [some (.sh (.lst (r.map bD))), none]) := by
    simp only [sIf, sbnd, qOr, qNot, qV, obnd, eIsi, eVar, List.getElem?_cons_zero, it, ov, Option.map, truthD, eChain, eC, eB, lbnd, aCons, aNil, obndL, lbndL, lenB, List.length_map, i2, leI, a1, a2, Bool.not_true, sNext]
  have al := all_comp (f := wSeq (eVar 0)) (g := gNm 1) (q := qYes) (e := eCall m_is_bead (aCons (eVar 1) aNil)) (vs := [1]) (ρ := [some (.sh (.lst (r.map bD))), none]) (xs := r) (F := bD) rfl (by omega) fun b hb => by
    refine ⟨[some (.sh (.lst (r.map bD))), some (.sh (bD b))], rfl, rfl, ?_⟩
    simp [eCall, lbnd, aCons, aNil, obndL, lbndL, eVar, is_bead_ok (h.good b hb)]
  have pr := places_rise_ok h
  unfold m_is_row b_is_row
  exact fn_rt rfl rfl (seq_nx hA (ret_of (and_of al (call1 rfl pr))))
theorem need_row_ok {r : List Bead} (h : GR r) : m_need_row [.lst (r.map bD)] = some (.val .non) := by
  simp [m_need_row, b_need_row, fnSem, sIf, sbnd, qNot, qV, obnd, eCall, lbnd, aCons, aNil, obndL, lbndL, eVar, is_row_ok h, ov, truthD, sNext]
def str (r : List Bead) (a b : Nat) : List Bead := (r.drop a).take (b + 1 - a)
theorem str_mem {r : List Bead} {a b : Nat} {x : Bead} (h : x ∈ str r a b) : x ∈ r := List.mem_of_mem_drop (List.mem_of_mem_take h)
theorem str_len {r : List Bead} {a b : Nat} (h : b < r.length) (ha : a ≤ b) : (str r a b).length = b + 1 - a := by
  unfold str
  rw [List.length_take, List.length_drop]
  omega
end BD
namespace BD
open PySem L2
theorem frz_of {g : Sv} {ρ : Rho} {ds : List D} {i : Nat} {o : Option Fl} (h : ρ[i]? = some (some (.own ds))) (k : g (ρ.set i (some (.sh (.lst ds)))) = o) : sFrz i g ρ = o := by
  unfold sFrz
  rw [h]
  exact k
theorem sum_of {f : Ev} {ρ : Rho} {ns : List Int} (h : f ρ = some (.val (.lst (ns.map .int)))) : eB sumB (aCons f aNil) ρ = some (.val (.int ns.sum)) := by
  unfold eB lbnd aCons obndL
  rw [h]
  simp [aNil, lbndL, sumB, intsO_map, ov]
def Bead.at (m : Rat) (b : Bead) : Rat := b.x + b.v * m
structure St (r : List Bead) (a b : Nat) : Prop where
  g : GR r
  lt : b < r.length
  le : a ≤ b
section
variable {r : List Bead} {a b : Nat} {m : Rat}
theorem St.good (h : St r a b) : ∀ x ∈ str r a b, GB x := fun x hx => h.g.good x (str_mem hx)
theorem St.len (h : St r a b) : (str r a b).length = b + 1 - a := str_len h.lt h.le
theorem St.few (h : St r a b) : (str r a b).length ≤ 10 := by
  have := h.len
  have := h.lt
  have := h.g.ten
  omega
theorem St.ne (h : St r a b) : (str r a b).map Bead.w ≠ [] := fun z => by
  have e := congrArg List.length z
  rw [List.length_map, h.len] at e
  have := h.le
  simp at e
  omega
theorem St.sz (h : St r a b) : 1 + ((str r a b).map Bead.w).length * (71 + 7) ≤ 781 := by
  have := h.few
  rw [List.length_map]
  omega
theorem St.row (h : St r a b) : m_need_row [.lst (r.map bD)] = some (.val .non) := need_row_ok h.g
end
end BD
namespace BD
open PySem L2
theorem for_cons {g : Gv} {body : Sv} {d : D} {ds : List D} {ρ ρ1 ρ2 : Rho} {x : Option Fl} (h1 : g d ρ = some ρ1) (h2 : body ρ1 = some (.nx ρ2)) (h3 : forS g body ds ρ2 = x) : forS g body (d :: ds) ρ = x := by
  rw [forS, h1]
  simp only [Option.bind]
  rw [h2]
  exact h3
theorem for_of {f : EvL} {g : Gv} {body : Sv} {ρ : Rho} {ds : List D} {x : Option Fl} (h : f ρ = some (.vals ds)) (k : forS g body ds ρ = x) : sFor f g body ρ = x := by
  unfold sFor lbndS
  rw [h]
  exact k
theorem one_of {f : Ev} {ρ : Rho} {d : D} (h : f ρ = some (.val d)) : aCons f aNil ρ = some (.vals [d]) := by
  unfold aCons obndL
  rw [h]
  rfl
theorem wRng1_of {f : Ev} {ρ : Rho} {n : Nat} (h : f ρ = some (.val (.int (n : Int)))) (hn : n ≤ 1000) : wRng1 (aCons f aNil) ρ = some (.vals ((List.range' 0 n).map fun k : Nat => D.int ((k : Nat) : Int))) := by
  have b := big_few hn
  have r : rngD 0 1 n = (List.range' 0 n).map fun k : Nat => D.int ((k : Nat) : Int) := by
    simp [rngD, List.range_eq_range']
  unfold wRng1 lbndL
  rw [one_of h]
  dsimp only
  rw [if_pos b, Int.toNat_natCast, r]
theorem if_yes {q : Ev} {f g : Sv} {ρ : Rho} {x : Option Fl} (h : q ρ = some (.val (.bl true))) (k : f ρ = x) : sIf q f g ρ = x := by
  unfold sIf sbnd
  rw [h]
  exact k
theorem par_of {f g : Ev} {ρ : Rho} {x y : D} {i j : Nat} (h : f ρ = some (.val x)) (h2 : g ρ = some (.val y)) : sPar i j f g ρ = some (.nx ((ρ.set i (some (.sh x))).set j (some (.sh y)))) := by
  unfold sPar sbnd
  rw [h]
  dsimp only
  rw [h2]
theorem cat_of {fa fb : Ev} {ρ : Rho} {xs ys : List D} (h1 : fa ρ = some (.val (.lst xs))) (h2 : fb ρ = some (.val (.lst ys))) (l1 : xs.length ≤ 1000) (l2 : ys.length ≤ 1000) : lCat fa fb ρ = some (.vals (xs ++ ys)) := by
  have s1 : smallL xs = true := decide_eq_true (by omega)
  have s2 : smallL ys = true := decide_eq_true (by omega)
  simp [lCat, obndL, h1, h2, s1, s2]
theorem slice_of {f : Ev} {lo hi : EvO} {ρ : Rho} {ds : List D} {l h : Option Int} (h1 : f ρ = some (.val (.lst ds))) (h2 : lo ρ = some l) (h3 : hi ρ = some h) : lSlice f lo hi ρ = some (.vals (cutD ds l h)) := by
  simp [lSlice, obndL, h1, h2, h3]
theorem seq_rt {f g : Sv} {ρ : Rho} {d : D} (h : f ρ = some (.rt d)) : sSeq f g ρ = some (.rt d) := by unfold sSeq; rw [h]
theorem or_yes {f g : Ev} {ρ : Rho} (h : f ρ = some (.val (.bl true))) : qOr f g ρ = some (.val (.bl true)) := by
  unfold qOr obnd; rw [h]
theorem and_no {f g : Ev} {ρ : Rho} (h : f ρ = some (.val (.bl false))) : qAnd f g ρ = some (.val (.bl false)) := by
  unfold qAnd obnd; rw [h]
theorem two_of {f f2 : Ev} {ρ : Rho} {d d2 : D} (h : f ρ = some (.val d)) (h2 : f2 ρ = some (.val d2)) : aCons f (aCons f2 aNil) ρ = some (.vals [d, d2]) := by
  simp [aCons, aNil, obndL, lbndL, h, h2]
end BD
namespace BD
open PySem L2
theorem RS.of {t b : Int} {x : Rat} (h : 0 < b) (hb : b ≤ 60) (lo : -1000000 ≤ t) (hi : t ≤ 1000000) (e : (t : Rat) / b = x) : RS x := by
  obtain ⟨p, q, k, _, s, hk, e1, e2⟩ := shr_sh (a := t) h
  have hq := s.pos
  have hx : (p : Rat) / q = x := (cross (by omega) (by omega) (by rw [← e1, ← e2]; grind)).trans e
  obtain ⟨h1, h2⟩ := uniq s (shR_sh x) (rat_inj (by omega) hx)
  have a1 := abs_le_of_mul e1 hk
  have a2 := abs_le_of_mul e2 hk
  refine ⟨?_, ?_, ?_⟩ <;> omega
theorem pick6 (a b c d e f m : Int) : ∃ x, (x = a ∨ x = b ∨ x = c ∨ x = d ∨ x = e ∨ x = f) ∧ ixD (.tup [.int a, .int b, .int c, .int d, .int e, .int f]) (.int (m.fmod 6)) = some (.int x) := by
  have : m.fmod 6 = 0 ∨ m.fmod 6 = 1 ∨ m.fmod 6 = 2 ∨ m.fmod 6 = 3 ∨ m.fmod 6 = 4 ∨ m.fmod 6 = 5 := by rw [fmod_pos (by decide)]; omega
  rcases this with h | h | h | h | h | h <;> rw [h]
  · exact ⟨a, .inl rfl, rfl⟩
  · exact ⟨b, .inr (.inl rfl), rfl⟩
  · exact ⟨c, .inr (.inr (.inl rfl)), rfl⟩
  · exact ⟨d, .inr (.inr (.inr (.inl rfl))), rfl⟩
  · exact ⟨e, .inr (.inr (.inr (.inr (.inl rfl)))), rfl⟩
  · exact ⟨f, .inr (.inr (.inr (.inr (.inr rfl)))), rfl⟩
theorem pick3' (a b c m : Int) : ∃ x, (x = a ∨ x = b ∨ x = c) ∧ ixD (.tup [.int a, .int b, .int c]) (.int (m.fmod 3)) = some (.int x) := by
  have : m.fmod 3 = 0 ∨ m.fmod 3 = 1 ∨ m.fmod 3 = 2 := by rw [fmod_pos (by decide)]; omega
  rcases this with h | h | h <;> rw [h]
  · exact ⟨a, .inl rfl, rfl⟩
  · exact ⟨b, .inr (.inl rfl), rfl⟩
  · exact ⟨c, .inr (.inr rfl), rfl⟩
theorem pick2' (a b m : Int) : ∃ x, (x = a ∨ x = b) ∧ ixD (.tup [.int a, .int b]) (.int (m.fmod 2)) = some (.int x) := by
  have : m.fmod 2 = 0 ∨ m.fmod 2 = 1 := by rw [fmod_pos (by decide)]; omega
  rcases this with h | h <;> rw [h]
  · exact ⟨a, .inl rfl, rfl⟩
  · exact ⟨b, .inr rfl, rfl⟩
theorem modR {m : Int} (N : Int) (h : 0 < m) : 0 ≤ N.fmod m ∧ N.fmod m < m := by
  rw [fmod_pos h]
  exact ⟨Int.emod_nonneg _ (by omega), Int.emod_lt_of_pos _ h⟩
structure Cells (n : Nat) (cs : List Int) : Prop where
  ne : 0 < cs.length
  few : cs.length ≤ 63
  bits : ∀ i ∈ cs, Bd n i
structure Plan (B G K Lt : Int) : Prop where
  b1 : 0 < B
  b2 : B ≤ 60
  g1 : 0 < G
  g2 : G ≤ 90000
  k : ∃ m : Int, K = m.fmod 4
  l1 : 0 < Lt
  l2 : Lt ≤ 60
structure GX (r : List Bead) : Prop where
  gap : ∀ (i : Nat) (a b : Bead), r[i]? = some a → r[i + 1]? = some b → (1 : Rat) / 60 ≤ b.x - a.x
  slow : ∀ b ∈ r, -200000 ≤ b.v ∧ b.v ≤ 200000
theorem gap60 {L L' B : Int} (h : L < L') (b1 : 0 < B) (b2 : B ≤ 60) : (1 : Rat) / 60 ≤ (L' : Rat) / (B : Rat) - (L : Rat) / (B : Rat) := by
  have bp : (0 : Rat) < (B : Rat) := Rat.intCast_pos.mpr b1
  have cp : (0 : Rat) < (B : Rat)⁻¹ := Rat.inv_pos.mpr bp
  have e : (B : Rat) * (B : Rat)⁻¹ = 1 := Rat.mul_inv_cancel _ (by grind)
  have h1 : (L : Rat) + 1 ≤ (L' : Rat) := by
    have : ((L + 1 : Int) : Rat) ≤ (L' : Rat) := Rat.intCast_le_intCast.mpr (by omega)
    rw [Rat.intCast_add] at this
    exact this
  have h2 : (B : Rat) ≤ 60 := by
    have : ((B : Int) : Rat) ≤ ((60 : Int) : Rat) := Rat.intCast_le_intCast.mpr b2
    exact this
  have m1 : 0 ≤ ((L' : Rat) - (L : Rat) - 1) * (B : Rat)⁻¹ := Rat.mul_nonneg (by grind) (by grind)
  have m2 : 0 ≤ (60 - (B : Rat)) * (B : Rat)⁻¹ := Rat.mul_nonneg (by grind) (by grind)
  rw [Rat.div_def (L' : Rat), Rat.div_def (L : Rat)]
  grind
theorem slow_of {t b : Int} (h1 : -200000 ≤ t) (h2 : t ≤ 200000) (hb : 0 < b) : -200000 ≤ (t : Rat) / (b : Rat) ∧ (t : Rat) / (b : Rat) ≤ 200000 := by
  have bp : (0 : Rat) < (b : Rat) := Rat.intCast_pos.mpr hb
  have cp : (0 : Rat) < (b : Rat)⁻¹ := Rat.inv_pos.mpr bp
  have e : (b : Rat) * (b : Rat)⁻¹ = 1 := Rat.mul_inv_cancel _ (by grind)
  have h0 : (1 : Rat) ≤ (b : Rat) := by
    have : ((1 : Int) : Rat) ≤ (b : Rat) := Rat.intCast_le_intCast.mpr (by omega)
    exact this
  have c1 : (b : Rat)⁻¹ ≤ 1 := by
    have m0 : 0 ≤ ((b : Rat) - 1) * (b : Rat)⁻¹ := Rat.mul_nonneg (by grind) (by grind)
    grind
  have g1 : (-200000 : Rat) ≤ (t : Rat) := by
    have : ((-200000 : Int) : Rat) ≤ (t : Rat) := Rat.intCast_le_intCast.mpr h1
    exact this
  have g2 : (t : Rat) ≤ 200000 := by
    have : (t : Rat) ≤ ((200000 : Int) : Rat) := Rat.intCast_le_intCast.mpr h2
    exact this
  rw [Rat.div_def]
  have m1 : 0 ≤ ((t : Rat) + 200000) * (b : Rat)⁻¹ := Rat.mul_nonneg (by grind) (by grind)
  have m2 : 0 ≤ (200000 - (t : Rat)) * (b : Rat)⁻¹ := Rat.mul_nonneg (by grind) (by grind)
  constructor <;> grind
theorem row_step {n : Nat} {cs : List Int} {W B G K L Lt Y Sm at' : Int} {al : Bool} {r : List Bead} (hY : 0 ≤ Y ∧ Y ≤ 20) (hSm : 1 ≤ Sm ∧ Sm ≤ 60) (hc : Cells n cs) (hW : Bd n W) (hn : n ≤ 20000000) (hn0 : 40 ≤ n) (p : Plan B G K Lt) (ha : 0 ≤ at' ∧ at' < 10) (hl : r.length ≤ 10) (hL : -450000 ≤ L ∧ L ≤ 90000 * at') (x0 x3 x6 x13 x16 x17 x18 x19 : Option Sl) :
    ∃ (b : Bead) (L' : Int) (y16 y17 y18 y19 : Option Sl), GB b ∧ (-200000 ≤ b.v ∧ b.v ≤ 200000) ∧ (al = true → b.w = Sm) ∧ L < L' ∧ L' ≤ 90000 * (at' + 1) ∧ b.x = (L' : Rat) / (B : Rat) ∧
      l1_q_row [x0, some (.sh (.int Y)), some (.sh (.bl al)), x3, some (.sh (.lst (cs.map .int))), some (.sh (.int W)), x6, some (.sh (.int B)), some (.sh (.int G)), some (.sh (.int K)), some (.sh (.int L)), some (.sh (.int at')), some (.own (r.map bD)), x13, some (.sh (.int Sm)), some (.sh (.int Lt)), x16, x17, x18, x19] =
      some (.nx [x0, some (.sh (.int Y)), some (.sh (.bl al)), x3, some (.sh (.lst (cs.map .int))), some (.sh (.int W)), x6, some (.sh (.int B)), some (.sh (.int G)), some (.sh (.int K)), some (.sh (.int L')), some (.sh (.int at')), some (.own ((r ++ [b]).map bD)), x13, some (.sh (.int Sm)), some (.sh (.int Lt)), y16, y17, y18, y19]) := by
  obtain ⟨b1, b2, g1, g2, ⟨km, rfl⟩, l1, l2⟩ := p
  have ne := hc.ne
  have cne : ¬ cs.length = 0 := by omega
  have md := modR (at' + Y) (show (0 : Int) < cs.length by omega)
  obtain ⟨c, mc, ec⟩ := ix_ints (ns := cs) (i := (at' + Y).fmod (cs.length : Int)) (by omega) (by omega)
  obtain ⟨N, en⟩ := q_number (hc.bits c mc) hW (at' := at' + 11 * Y) (by omega) (by omega) hn hn0
  have hM : ∃ A M C : Int, 0 < A ∧ A ≤ 400001 ∧ 0 ≤ M ∧ M ≤ 200000 ∧ A ≤ 2 * M + 1 ∧ 0 < C ∧ C ≤ 60 ∧ ixD (.tup [.int 5, .int 11, .int 41, .int 400001]) (.int (km.fmod 4)) = some (.int A) ∧ ixD (.tup [.int 2, .int 5, .int 20, .int 200000]) (.int (km.fmod 4)) = some (.int M) ∧ ixD (.tup [.int 1, .int 1, .int 4, .int 60]) (.int (km.fmod 4)) = some (.int C) := by
    rcases mod4 km with h | h | h | h <;> rw [h]
    · exact ⟨5, 2, 1, by decide, by decide, by decide, by decide, by decide, by decide, by decide, rfl, rfl, rfl⟩
    · exact ⟨11, 5, 1, by decide, by decide, by decide, by decide, by decide, by decide, by decide, rfl, rfl, rfl⟩
    · exact ⟨41, 20, 4, by decide, by decide, by decide, by decide, by decide, by decide, by decide, rfl, rfl, rfl⟩
    · exact ⟨400001, 200000, 60, by decide, by decide, by decide, by decide, by decide, by decide, by decide, rfl, rfl, rfl⟩
  obtain ⟨A, M, C, a1, a2, m1, m2, m3, c1, c2, i1, i2', i3⟩ := hM
  have d1 := modR (N.fdiv 3) g1
  have d2 := modR (N.fdiv 270000) l1
  have d3 := modR (N.fdiv 16200000) a1
  have d4 := modR (N.fdiv 6480016200000) c1
  have gne : ¬ G = 0 := by omega
  have lne : ¬ Lt = 0 := by omega
  have ane : ¬ A = 0 := by omega
  have cne2 : ¬ C = 0 := by omega
  have q1 : Nat.log2 3 < 9000 := by decide
  have q2 : Nat.log2 270000 < 9000 := by decide
  have q3 : Nat.log2 16200000 < 9000 := by decide
  have q4 : Nat.log2 6480016200000 < 9000 := by decide
  have z1 : smallI 11 = true := by decide
  have z2 : smallI Y = true := (by unfold Bd; omega : Bd 20 Y).small (by decide)
  have sl : r.length ≤ 1000000 := by omega
  generalize hX1 : (N.fdiv 3).fmod G = X1 at *
  generalize hX2 : (N.fdiv 270000).fmod Lt = X2 at *
  generalize hX3 : (N.fdiv 16200000).fmod A = X3 at *
  generalize hX4 : (N.fdiv 6480016200000).fmod C = X4 at *
  have lo1 := low_R (t := X3 - M) (b := 1 + X4) (n := 20) (by omega) (by unfold Bd; omega) (by decide) rfl
  have lo2 := low_R (t := L + 1 + X1) (b := B) (n := 20) (by omega) (by unfold Bd; omega) (by decide) rfl
  obtain ⟨Wt, hWt, ew⟩ : ∃ Wt : Int, (1 ≤ Wt ∧ Wt ≤ 60) ∧ Wt = (if al = true then Sm else 1 + X2) := ⟨_, by split <;> omega, rfl⟩
  refine ⟨⟨Wt, ((L + 1 + X1 : Int) : Rat) / (B : Rat), ((X3 - M : Int) : Rat) / ((1 + X4 : Int) : Rat)⟩, L + 1 + X1, some (.sh (.int N)), some (.sh (.int Wt)), some (.sh (.int (X3 - M))), some (.sh (shR (((X3 - M : Int) : Rat) / ((1 + X4 : Int) : Rat)))), ⟨hWt.1, hWt.2, RS.of (by omega) (by omega) (by omega) (by omega) rfl, RS.of (by omega) (by omega) (by omega) (by omega) rfl⟩, slow_of (by omega) (by omega) (by omega), (fun h => by show Wt = Sm; rw [ew, if_pos h]), by omega, by omega, rfl, ?_⟩
  generalize ((X3 - M : Int) : Rat) / ((1 + X4 : Int) : Rat) = R1 at *
  generalize ((L + 1 + X1 : Int) : Rat) / (B : Rat) = R2 at *
  cases al <;> simp only [if_true, Bool.false_eq_true, if_false] at ew <;> subst ew <;> simp [l1_q_row, sSeq, sAsg, sbnd, eCall, lbnd, aCons, aNil, obndL, lbndL, eOp, obnd, eVar, i2, addI, modI, eB, lenB, ov, cne, ec, mulI, z1, z2, eC, en, gNm, divI, q1, q2, q3, q4, gne, hX1, eIf, qV, truthD, lne, hX2, eTup, smallL, i1, i2', i3, ane, cne2, hX3, hX4, subI, lo1, lo2, sApp, sl, bD]
theorem row_for {n : Nat} {cs : List Int} {W B G K Lt Y Sm : Int} {al : Bool} (hY : 0 ≤ Y ∧ Y ≤ 20) (hSm : 1 ≤ Sm ∧ Sm ≤ 60) (hc : Cells n cs) (hW : Bd n W) (hn : n ≤ 20000000) (hn0 : 40 ≤ n) (p : Plan B G K Lt) (x0 x3 x6 x13 : Option Sl) : ∀ (j i : Nat) (r : List Bead) (L : Int), i + j ≤ 10 → r.length = i → (∀ b ∈ r, GB b) → (∀ (i : Nat) (a b : Bead), r[i]? = some a → r[i + 1]? = some b → a.x < b.x) → GX r → (al = true → ∀ b ∈ r, b.w = Sm) → (∀ b, r.getLast? = some b → b.x = (L : Rat) / (B : Rat)) → -450000 ≤ L → L ≤ 90000 * (i : Int) → ∀ (x11 x16 x17 x18 x19 : Option Sl),
    ∃ (r' : List Bead) (y10 y11 y16 y17 y18 y19 : Option Sl), r'.length = i + j ∧ (∀ b ∈ r', GB b) ∧ (∀ (i : Nat) (a b : Bead), r'[i]? = some a → r'[i + 1]? = some b → a.x < b.x) ∧ GX r' ∧ (al = true → ∀ b ∈ r', b.w = Sm) ∧
      forS (gNm 11) l1_q_row ((List.range' i j).map fun k : Nat => D.int ((k : Nat) : Int)) [x0, some (.sh (.int Y)), some (.sh (.bl al)), x3, some (.sh (.lst (cs.map .int))), some (.sh (.int W)), x6, some (.sh (.int B)), some (.sh (.int G)), some (.sh (.int K)), some (.sh (.int L)), x11, some (.own (r.map bD)), x13, some (.sh (.int Sm)), some (.sh (.int Lt)), x16, x17, x18, x19] =
      some (.nx [x0, some (.sh (.int Y)), some (.sh (.bl al)), x3, some (.sh (.lst (cs.map .int))), some (.sh (.int W)), x6, some (.sh (.int B)), some (.sh (.int G)), some (.sh (.int K)), y10, y11, some (.own (r'.map bD)), x13, some (.sh (.int Sm)), some (.sh (.int Lt)), y16, y17, y18, y19])
  | 0, i, r, L, _, hl, hg, hr, hX, hA, _, _, _, x11, x16, x17, x18, x19 => ⟨r, _, x11, x16, x17, x18, x19, by omega, hg, hr, hX, hA, rfl⟩
  | j + 1, i, r, L, hs, hl, hg, hr, hX, hA, hla, hL1, hL2, x11, x16, x17, x18, x19 => by
    obtain ⟨b, L', y16, y17, y18, y19, gb, sl, wb, lt, le, bx, e⟩ := row_step (al := al) (at' := (i : Int)) (r := r) (L := L) hY hSm hc hW hn hn0 p (by omega) (by omega) ⟨hL1, hL2⟩ x0 x3 x6 x13 x16 x17 x18 x19
    have bp : (0 : Rat) < (B : Rat) := Rat.intCast_pos.mpr p.b1
    have lt' : (L : Rat) / (B : Rat) < (L' : Rat) / (B : Rat) := by
      have h1 : (L : Rat) < (L' : Rat) := Rat.intCast_lt_intCast.mpr lt
      rw [Rat.div_def, Rat.div_def]
      exact Rat.mul_lt_mul_of_pos_right h1 (Rat.inv_pos.mpr bp)
    obtain ⟨r', y10, y11, z16, z17, z18, z19, q1, q2, q3, q4, q5, e2⟩ := row_for (al := al) hY hSm hc hW hn hn0 p x0 x3 x6 x13 j (i + 1) (r ++ [b]) L' (by omega) (by simp [hl]) (fun c hc => by rcases List.mem_append.mp hc with h | h; exact hg c h; rw [List.mem_singleton.mp h]; exact gb)
      (fun k u v hu hv => by
        by_cases hk : k + 1 < r.length
        · rw [List.getElem?_append_left (by omega)] at hu
          rw [List.getElem?_append_left hk] at hv
          exact hr k u v hu hv
        · obtain ⟨hk2, _⟩ := List.getElem?_eq_some_iff.mp hv
          simp only [List.length_append, List.length_cons, List.length_nil] at hk2
          have hk3 : k + 1 = r.length := by omega
          rw [List.getElem?_append_left (by omega)] at hu
          rw [List.getElem?_append_right (by omega), hk3, Nat.sub_self] at hv
          have hv' : b = v := by simpa using hv
          have hla2 : r.getLast? = some u := by rw [List.getLast?_eq_getElem?, ← hk3]; exact hu
          rw [hla u hla2, ← hv', bx]
          exact lt')
      ⟨fun k u v hu hv => by
        by_cases hk : k + 1 < r.length
        · rw [List.getElem?_append_left (by omega)] at hu
          rw [List.getElem?_append_left hk] at hv
          exact hX.gap k u v hu hv
        · obtain ⟨hk2, _⟩ := List.getElem?_eq_some_iff.mp hv
          simp only [List.length_append, List.length_cons, List.length_nil] at hk2
          have hk3 : k + 1 = r.length := by omega
          rw [List.getElem?_append_left (by omega)] at hu
          rw [List.getElem?_append_right (by omega), hk3, Nat.sub_self] at hv
          have hv' : b = v := by simpa using hv
          have hla2 : r.getLast? = some u := by rw [List.getLast?_eq_getElem?, ← hk3]; exact hu
          rw [hla u hla2, ← hv', bx]
          exact gap60 lt p.b1 p.b2, fun c hc => by rcases List.mem_append.mp hc with h | h; exact hX.slow c h; rw [List.mem_singleton.mp h]; exact sl⟩
      (fun h c hc => by rcases List.mem_append.mp hc with z | z; exact hA h c z; rw [List.mem_singleton.mp z]; exact wb h)
      (fun c hc => by
        rw [List.getLast?_append] at hc
        have hc' : b = c := by simpa using hc
        rw [← hc', bx]) (by omega) (by omega) (some (.sh (.int (i : Int)))) y16 y17 y18 y19
    refine ⟨r', y10, y11, z16, z17, z18, z19, by omega, q2, q3, q4, q5, ?_⟩
    rw [List.range'_succ, List.map_cons]
    exact for_cons rfl e e2
end BD
namespace BD
open PySem L2
structure Nice (k : Nat) (d : D) : Prop where
  ex : ∃ p, pyO d = some p ∧ p.canLay0 = true ∧ p.depth ≤ k
theorem nice_int (i : Int) : Nice 0 (.int i) := ⟨_, rfl, rfl, Nat.le_refl _⟩
theorem nice_list {k : Nat} : ∀ {ds : List D}, (∀ d ∈ ds, Nice k d) → ∃ ps, pyOs ds = some ps ∧ PyData.canLayAll0 ps = true ∧ PyData.depthAll ps ≤ k
  | [], _ => ⟨[], rfl, rfl, Nat.zero_le _⟩
  | d :: ds, h => by
    obtain ⟨p, e, c, l⟩ := (h d (List.mem_cons_self ..)).ex
    obtain ⟨ps, e2, c2, l2⟩ := nice_list (ds := ds) fun x hx => h x (List.mem_cons_of_mem _ hx)
    refine ⟨p :: ps, by simp only [pyOs, e, e2], by simp only [PyData.canLayAll0, c, c2, Bool.and_self], ?_⟩
    simp only [PyData.depthAll]
    omega
theorem nice_lst {k : Nat} {ds : List D} (h : ∀ d ∈ ds, Nice k d) : Nice (k + 1) (.lst ds) := by
  obtain ⟨ps, e, c, l⟩ := nice_list h
  exact ⟨.list ps, by simp only [pyO, e, Option.map_some], by simp only [PyData.canLay0, c], by simp only [PyData.depth]; omega⟩
theorem nice_tup {k : Nat} {ds : List D} (h : ∀ d ∈ ds, Nice k d) : Nice (k + 1) (.tup ds) := by
  obtain ⟨ps, e, c, l⟩ := nice_list h
  exact ⟨.tuple ps, by simp only [pyO, e, Option.map_some], by simp only [PyData.canLay0, c], by simp only [PyData.depth]; omega⟩
theorem nice_R (x : Rat) : Nice 1 (shR x) := nice_tup fun d hd => by
  rcases List.mem_cons.mp hd with rfl | hd
  · exact nice_int _
  · rcases List.mem_cons.mp hd with rfl | hd
    · exact nice_int _
    · cases hd
theorem Nice.mono {k m : Nat} {d : D} (h : Nice k d) (l : k ≤ m) : Nice m d := by
  obtain ⟨p, e, c, x⟩ := h.ex
  exact ⟨p, e, c, by omega⟩
theorem nice_map {α : Type} {k : Nat} {f : α → D} {xs : List α} (h : ∀ x, Nice k (f x)) : Nice (k + 1) (.lst (xs.map f)) := nice_lst fun d hd => by
  obtain ⟨x, _, rfl⟩ := List.mem_map.mp hd
  exact h x
theorem eqvD_refl {k : Nat} {d : D} (h : Nice k d) (hk : k ≤ 64) : eqvD d d = some true := by
  obtain ⟨p, e, c, l⟩ := h.ex
  have s : SeqAt.shaped p = true := by
    unfold SeqAt.shaped
    rw [c, decide_eq_true (show p.depth ≤ 64 by omega)]
    rfl
  unfold eqvD
  rw [e]
  simp only [s, Bool.and_self, if_true]
  rw [SeqAt.eqv_refl p (by first | exact c | exact s)]
theorem neD_refl {k : Nat} {d : D} (h : Nice k d) (hk : k ≤ 64) : neD d d = some (.bl false) := by unfold neD; rw [eqvD_refl h hk]; rfl
theorem eqD_refl {k : Nat} {d : D} (h : Nice k d) (hk : k ≤ 64) : eqD d d = some (.bl true) := by unfold eqD; rw [eqvD_refl h hk]; rfl
theorem neD_cons_nil {k : Nat} {d : D} {ds : List D} (h : Nice k (.lst (d :: ds))) (hk : k ≤ 64) : neD (.lst (d :: ds)) (.lst []) = some (.bl true) := by
  obtain ⟨p, e, c, l⟩ := h.ex
  have s : SeqAt.shaped p = true := by
    unfold SeqAt.shaped
    rw [c, decide_eq_true (show p.depth ≤ 64 by omega)]
    rfl
  have s0 : SeqAt.shaped (.list []) = true := by simp [SeqAt.shaped, PyData.canLay0, PyData.canLayAll0, PyData.depth, PyData.depthAll]
  simp only [pyO, pyOs] at e
  cases q1 : pyO d with
  | none => rw [q1] at e; cases e
  | some p1 =>
    cases q2 : pyOs ds with
    | none => rw [q1, q2] at e; cases e
    | some ps =>
      rw [q1, q2] at e
      cases e
      simp [neD, eqvD, pyO, pyOs, q1, q2, s, s0, PyData.eqv, PyData.eqvAll]
end BD
namespace BD
open PySem L2
theorem parM_of {fs : EvL} {f : Ev} {ρ : Rho} {xs : List D} {y : D} {i j : Nat} (h : fs ρ = some (.vals xs)) (h2 : f ρ = some (.val y)) : sParM i j fs f ρ = some (.nx ((ρ.set i (some (.own xs))).set j (some (.sh y)))) := by
  unfold sParM lbndS sbnd
  rw [h]
  dsimp only
  rw [h2]
theorem bits {n : Nat} {cs : List Int} (hc : Cells n cs) : Bd (n + 64) cs.sum := (Bd.sum hc.bits (by have := hc.few; omega)).mono (by have := hc.few; omega)
theorem row_okM {ns : List Int} (hl : ns.length ≤ 63) (hb : ∀ i ∈ ns, Bd 1048576 i) {Y Mo : Int} (hY : 0 ≤ Y ∧ Y ≤ 20) (hMo : 1 ≤ Mo ∧ Mo ≤ 10) (al : Bool) : ∃ r, GR r ∧ GX r ∧ (al = true → ∃ W : Int, ∀ z ∈ r, z.w = W) ∧ ((r.length : Nat) : Int) ≤ Mo ∧ m_q_row [.lst (ns.map .int), .int Y, .bl al, .int Mo] = some (.val (.lst (r.map bD))) := by
  have hcs : ∃ cs, Cells 1048576 cs ∧ ∀ ρ : Rho, ρ[0]? = some (some (.sh (.lst (ns.map .int)))) → (eIf (eOp neD (eVar 0) (eFr (lLst aNil))) (eFr (lSlice (eVar 0) oNone (oSome (eC (.int 63))))) (eFr (lLst (aCons (eC (.int 2)) aNil)))) ρ = some (.val (.lst (cs.map .int))) := by
    cases hns : ns with
    | nil =>
      refine ⟨[2], ⟨by decide, by decide, fun i hi => ?_⟩, fun ρ hρ => ?_⟩
      · rw [List.mem_singleton.mp hi]
        exact (by unfold Bd; decide : Bd 2 2).mono (by decide)
      · have z : neD (.lst []) (.lst []) = some (.bl false) := by kernel_rfl
        rw [List.map_nil] at hρ
        simp [eIf, obnd, eOp, eVar, hρ, eFr, lLst, aNil, lbnd, lbndL, smallL, ov, z, aCons, eC, obndL]
    | cons a as =>
      refine ⟨a :: as, ⟨by simp, by rw [← hns]; exact hl, fun i hi => hb i (by rw [hns]; exact hi)⟩, fun ρ hρ => ?_⟩
      have z : neD (.lst (.int a :: as.map .int)) (.lst []) = some (.bl true) := neD_cons_nil (k := 1) (by have := nice_map (xs := a :: as) fun i => nice_int i; simpa using this) (by decide)
      have c : cutD (.int a :: as.map .int) none (some 63) = .int a :: as.map .int := by
        have := cut63 (ns := a :: as) (by rw [← hns]; exact hl)
        simpa using this
      rw [List.map_cons] at hρ
      simp [eIf, obnd, eOp, eVar, hρ, eFr, lLst, aNil, lbnd, lbndL, smallL, ov, z, lSlice, obndL, oNone, oSome, eC, c]
  obtain ⟨cs, hc, ec⟩ := hcs
  have hW : Bd 1048700 (cs.sum + Y) := ((bits hc).add ((by unfold Bd; omega : Bd 5 Y).mono (by decide))).mono (by decide)
  have hc2 : Cells 1048700 cs := ⟨hc.ne, hc.few, fun i hi => (hc.bits i hi).mono (by decide)⟩
  generalize hS : cs.sum + Y = W at *
  obtain ⟨B, hB, eB'⟩ := pick6 1 1 2 3 4 60 (W.fdiv 10)
  obtain ⟨G, hG, eG⟩ := pick3' 3 9 90000 (W.fdiv 60)
  obtain ⟨NB, nb⟩ := q_number (cell := W) (whole := 5) (at' := Y + 3) hW ((by unfold Bd; decide : Bd 3 5).mono (by decide)) (by omega) (by omega) (by decide : 1048700 ≤ 20000000) (by decide)
  obtain ⟨Lt, hLt, eLt⟩ := pick2' 3 60 (NB.fdiv 259200)
  have pl : Plan B G ((W.fdiv 180).fmod 4) Lt := ⟨by omega, by omega, by omega, by omega, ⟨_, rfl⟩, by omega, by omega⟩
  have mm := modR W (show (0 : Int) < Mo by omega)
  have m6 := modR (W.fdiv 720) (show (0 : Int) < 6 by decide)
  generalize hM6 : (W.fdiv 720).fmod 6 = M6 at *
  have lo : -450000 ≤ -G * M6 ∧ -G * M6 ≤ 0 := by
    have h6 : M6 = 0 ∨ M6 = 1 ∨ M6 = 2 ∨ M6 = 3 ∨ M6 = 4 ∨ M6 = 5 := by omega
    rcases h6 with h | h | h | h | h | h <;> subst h <;> rcases hG with h | h | h <;> subst h <;> decide
  obtain ⟨cn, hcn⟩ : ∃ cn : Nat, 1 + W.fmod Mo = (cn : Int) := ⟨(1 + W.fmod Mo).toNat, by omega⟩
  obtain ⟨r, y10, y11, y16, y17, y18, y19, q1, q2, q3, qx, qa, f⟩ := row_for (al := al) (Sm := 1 + (NB.fdiv 4320).fmod 60) hY (by have := modR (NB.fdiv 4320) (show (0 : Int) < 60 by decide); omega) hc2 hW (by decide) (by decide) pl (some (.sh (.lst (ns.map .int)))) (some (.sh (.int Mo))) (some (.sh (.int (cn : Int)))) (some (.sh (.int NB))) cn 0 [] (-G * M6) (by omega) rfl (fun _ h => nomatch h) (fun _ _ _ h => nomatch h) ⟨(fun _ _ _ h => nomatch h), (fun _ h => nomatch h)⟩ (fun _ _ h => nomatch h) (fun _ h => nomatch h) lo.1 (by simpa using lo.2) none none none none none
  refine ⟨r, ⟨by omega, by omega, q2, q3⟩, qx, (fun h => ⟨_, qa h⟩), by omega, ?_⟩
  have z1 : smallI (-G) = true := (by unfold Bd; omega : Bd 20 (-G)).small (by decide)
  have z2 : smallI M6 = true := (by unfold Bd; omega : Bd 20 M6).small (by decide)
  have k10 : Nat.log2 10 < 9000 := by decide
  have k60 : Nat.log2 60 < 9000 := by decide
  have k180 : Nat.log2 180 < 9000 := by decide
  have k720 : Nat.log2 720 < 9000 := by decide
  have k4320 : Nat.log2 4320 < 9000 := by decide
  have k259 : Nat.log2 259200 < 9000 := by decide
  generalize hK : (W.fdiv 180).fmod 4 = K at *
  generalize hSm : 1 + (NB.fdiv 4320).fmod 60 = Sm at *
  have a0 := ec [some (.sh (.lst (ns.map .int))), some (.sh (.int Y)), some (.sh (.bl al)), some (.sh (.int Mo)), none, none, none, none, none, none, none, none, none, none, none, none, none, none, none, none] rfl
  have a1 : (eOp (i2 addI) (eB sumB (aCons (eVar 4) aNil)) (eVar 1)) [some (.sh (.lst (ns.map .int))), some (.sh (.int Y)), some (.sh (.bl al)), some (.sh (.int Mo)), some (.sh (.lst (cs.map .int))), none, none, none, none, none, none, none, none, none, none, none, none, none, none, none] = some (.val (.int W)) := op_of (sum_of (ns := cs) rfl) rfl (by simp [i2, addI, hS])
  have mo : Mo ≠ 0 := by omega
  unfold m_q_row b_q_row
  refine fn_rt rfl rfl (seq_nx (set_of a0) (seq_nx (set_of a1) ?_))
  refine seq_nx (set_of (d := .int (cn : Int)) (by simp [eOp, obnd, eC, eVar, ov, i2, modI, addI, hcn, mo])) ?_
  refine seq_nx (set_of (d := .int B) (by simp [eOp, obnd, eC, eVar, ov, i2, modI, divI, k10, eTup, lbnd, aCons, aNil, obndL, lbndL, smallL, eB'])) ?_
  refine seq_nx (set_of (d := .int G) (by simp [eOp, obnd, eC, eVar, ov, i2, modI, divI, k60, eTup, lbnd, aCons, aNil, obndL, lbndL, smallL, eG])) ?_
  refine seq_nx (set_of (d := .int K) (by simp [eOp, obnd, eC, eVar, ov, i2, modI, divI, k180, hK])) ?_
  refine seq_nx (set_of (d := .int (-G * M6)) (by simp [eOp, obnd, eC, eNeg, eVar, ov, i2, modI, divI, k720, hM6, mulI, z1, z2])) ?_
  refine seq_nx (parM_of (xs := []) (y := .int NB) rfl (call3 rfl (op_of rfl rfl rfl) rfl nb)) ?_
  refine seq_nx (par_of (x := .int Sm) (y := .int Lt) (by simp [eOp, obnd, eC, eVar, ov, i2, modI, divI, addI, k4320, hSm]) (by simp [eOp, obnd, eC, eVar, ov, i2, modI, divI, k259, eTup, lbnd, aCons, aNil, obndL, lbndL, smallL, eLt])) ?_
  refine seq_nx (for_of (wRng1_of (n := cn) rfl (by omega)) f) ?_
  exact frz_of rfl (ret_of rfl)
theorem row_ok {ns : List Int} (hl : ns.length ≤ 63) (hb : ∀ i ∈ ns, Bd 1048576 i) {Y : Int} (hY : 0 ≤ Y ∧ Y ≤ 20) (al : Bool) : ∃ r, GR r ∧ GX r ∧ withD 10 m_q_row [.lst (ns.map .int), .int Y, .bl al] = some (.val (.lst (r.map bD))) := by
  obtain ⟨r, g, x, _, _, e⟩ := row_okM hl hb hY (Mo := 10) (by decide) al
  exact ⟨r, g, x, e⟩
end BD
namespace BD
open PySem L2
def wholeD : D → Bool
  | .int _ => true
  | _ => false
def plainD : D → Bool
  | .fn _ => false
  | .exn _ => false
  | .obj _ _ => false
  | .cell _ => false
  | .dic _ _ => false
  | _ => true
inductive BadSh : D → Prop
  | kind {d : D} (h : plainD d = true) (n : ∀ ds, d ≠ .tup ds) : BadSh d
  | len {ds : List D} (h : ds.length ≠ 2) : BadSh (.tup ds)
  | top {a b : D} (h : plainD a = true) (w : wholeD a = false) : BadSh (.tup [a, b])
  | bot {a : Int} {b : D} (h : plainD b = true) (w : wholeD b = false) : BadSh (.tup [.int a, b])
  | low {a b : Int} (h : b < 1) : BadSh (.tup [.int a, .int b])
  | gcd {a b : Int} (h : 0 < b) (g : Int.gcd a b ≠ 1) : BadSh (.tup [.int a, .int b])
end BD
namespace BD
open PySem L2
theorem blsO_of {α : Type} {h : α → Bool} : ∀ (xs : List α), blsO (xs.map fun x => D.bl (h x)) = some (xs.map h)
  | [] => rfl
  | x :: xs => by simp [blsO, blsO_of xs]
theorem seq_of {f : Ev} {ρ : Rho} {ds : List D} (h : f ρ = some (.val (.lst ds))) : wSeq f ρ = some (.vals ds) := by
  simp [wSeq, obndL, h]
theorem fmod_pos_range {a : Int} {n : Int} (h : 0 < n) : 0 ≤ a.fmod n ∧ a.fmod n < n := by
  rw [fmod_pos h]
  exact ⟨Int.emod_nonneg a (by omega), Int.emod_lt_of_pos a h⟩
theorem mod_of {i j : Int} (h : 0 < j) : i2 modI (.int i) (.int j) = some (.int (i.fmod j)) := by
  have : j ≠ 0 := by omega
  simp [i2, modI, this]
end BD
namespace BD
open PySem L2
section
variable {f g q : MEv} {ρ ρ' : Rho} {M M1 M2 : Mem} {d : D} {ds : List D}
theorem mfn_rt {n m : Nat} {body : MSv} {M' : Mem} (hl : ds.length = n) (hρ : ds.map (fun d => some (Sl.sh d)) ++ List.replicate m none = ρ) (h : body ρ M = some (.rt d, M')) : fnSemM n m body ds M = some (.val d, M') := by
  unfold fnSemM
  rw [if_pos hl, hρ, h]
theorem mseq_nx {f g : MSv} {x : Option (Fl × Mem)} (h : f ρ M = some (.nx ρ', M1)) (k : g ρ' M1 = x) : mSeq f g ρ M = x := by unfold mSeq; rw [h]; exact k
theorem mseq_rt {f g : MSv} (h : f ρ M = some (.rt d, M1)) : mSeq f g ρ M = some (.rt d, M1) := by unfold mSeq; rw [h]
theorem mexpr_of (h : f ρ M = some (.val d, M1)) : mExpr f ρ M = some (.nx ρ, M1) := by unfold mExpr sbM; rw [h]
theorem mret_of (h : f ρ M = some (.val d, M1)) : mRet f ρ M = some (.rt d, M1) := by unfold mRet sbM; rw [h]
theorem mset_of {i : Nat} (h : f ρ M = some (.val d, M1)) : mSet f i ρ M = some (.nx (ρ.set i (some (.sh d))), M1) := by unfold mSet sbM; rw [h]
theorem mifS_no {s t : MSv} {x : Option (Fl × Mem)} (h : q ρ M = some (.val (.bl false), M1)) (k : t ρ M1 = x) : mIfS q s t ρ M = x := by unfold mIfS sbM; rw [h]; exact k
theorem mifS_yes {s t : MSv} {x : Option (Fl × Mem)} (h : q ρ M = some (.val (.bl true), M1)) (k : s ρ M1 = x) : mIfS q s t ρ M = x := by unfold mIfS sbM; rw [h]; exact k
theorem mifN {s : MSv} (h : q ρ M = some (.val (.bl false), M1)) : mIfS q s mNext ρ M = some (.nx ρ, M1) := mifS_no h rfl
theorem mL_of {f : Ev} {o : Out} (h : f ρ = some o) : mL f ρ M = some (o, M) := by unfold mL; rw [h]; rfl
theorem mS0_of {is : List Nat} {f : Ev} (hρ : seeR (see0 M 4) is 0 ρ = ρ') (h : f ρ' = some (.val d)) (k : flatD d = true) : mS0 is f ρ M = some (.val d, M) := by unfold mS0 chk; rw [hρ, h]; dsimp only; rw [if_pos k]
theorem mQ0_of {is : List Nat} {f : Ev} {o : Out} (hρ : seeR (see0 M 4) is 0 ρ = ρ') (h : f ρ' = some o) : mQ0 is f ρ M = some (o, M) := by unfold mQ0; rw [hρ, h]; rfl
theorem mnil_of : mNil ρ M = some (.vals [], M) := rfl
theorem mcons_of {gs : MEvL} (h : f ρ M = some (.val d, M1)) (k : gs ρ M1 = some (.vals ds, M2)) : mCons f gs ρ M = some (.vals (d :: ds), M2) := by unfold mCons mbndL; rw [h]; dsimp only; unfold lmbndL; rw [k]
theorem mtup_of {gs : MEvL} (h : gs ρ M = some (.vals ds, M1)) (s : smallL ds = true) : mTup gs ρ M = some (.val (.tup ds), M1) := by unfold mTup lmbnd; rw [h]; dsimp only; rw [if_pos s]
theorem mcall_of {gs : MEvL} {k : List D → Mem → Option (Out × Mem)} {o : Option (Out × Mem)} (h : gs ρ M = some (.vals ds, M1)) (e : k ds M1 = o) : mCall k gs ρ M = o := by unfold mCall lmbnd; rw [h]; exact e
theorem mnew_of {f : EvL} (h : f ρ = some (.vals ds)) : mNew f ρ M = some (.val (.cell M.length), M ++ [.lst ds]) := by unfold mNew; rw [h]
theorem mnot_of {b : Bool} (h : f ρ M = some (.val (.bl b), M1)) : mNot f ρ M = some (.val (.bl (!b)), M1) := by unfold mNot mbnd; rw [h]
theorem mV_bl {b : Bool} (h : f ρ M = some (.val (.bl b), M1)) : mV f ρ M = some (.val (.bl b), M1) := by unfold mV mbnd; rw [h]; rfl
theorem mnotV_yes (h : f ρ M = some (.val (.bl true), M1)) : mNot (mV f) ρ M = some (.val (.bl false), M1) := mnot_of (b := true) (mV_bl h)
theorem mor_no {o : Option (Out × Mem)} (h : f ρ M = some (.val (.bl false), M1)) (k : g ρ M1 = o) : mOr f g ρ M = o := by unfold mOr mbnd; rw [h]; exact k
theorem mcapp_of {n : Nat} {fo fe : MEv} {es es' : List D} (h1 : fo ρ M = some (.val (.cell n), M1)) (h2 : M1[n]? = some (.lst es)) (h3 : fe ρ M1 = some (.val d, M2)) (h4 : M2[n]? = some (.lst es')) (s : smallL es' = true) : mCApp fo fe ρ M = some (.nx ρ, M2.set n (.lst (es' ++ [d]))) := by
  unfold mCApp sbM; rw [h1]; dsimp only; rw [h2]; dsimp only; rw [h3]; dsimp only; rw [h4]; dsimp only; rw [if_pos s]
theorem mwseq_of (h : f ρ M = some (.val (.lst ds), M1)) : wSeqM f ρ M = some (.vals ds, M1) := by unfold wSeqM mbndL; rw [h]
theorem mfor_of {fs : MEvL} {g : Gv} {body : MSv} {x : Option (Fl × Mem)} (h : fs ρ M = some (.vals ds, M1)) (k : forM g body ds ρ M1 = x) : mFor fs g body ρ M = x := by unfold mFor slM; rw [h]; exact k
theorem mfor_cons {g : Gv} {body : MSv} {ρ1 ρ2 : Rho} {x : Option (Fl × Mem)} (h1 : g d ρ = some ρ1) (n1 : noOwn ρ1 = true) (h2 : body ρ1 M = some (.nx ρ2, M2)) (h3 : forM g body ds ρ2 M2 = x) : forM g body (d :: ds) ρ M = x := by
  unfold forM; rw [h1]; dsimp only; rw [if_pos n1, h2]; exact h3
end
end BD
namespace BD
open PySem L2
section
variable {f g q : MEv} {ρ ρ' : Rho} {M M1 M2 : Mem} {d : D} {ds : List D} {n : Nat}
theorem mrng1_of {fs : MEvL} {n : Nat} (h : fs ρ M = some (.vals [.int (n : Int)], M1)) (hn : n ≤ 1000) : wArgM kRng1 fs ρ M = some (.vals ((List.range' 0 n).map fun k : Nat => D.int ((k : Nat) : Int)), M1) := by
  have b := big_few hn
  have r : rngD 0 1 n = (List.range' 0 n).map fun k : Nat => D.int ((k : Nat) : Int) := by
    simp [rngD, List.range_eq_range']
  unfold wArgM lmbndL; rw [h]; dsimp only; unfold kRng1; dsimp only; rw [if_pos b, Int.toNat_natCast, r]; rfl
end
abbrev os (x : Option D) : Option Sl := x.map Sl.sh
theorem noOwn_os {x : Option D} {ρ : Rho} : noOwn (os x :: ρ) = noOwn ρ := by cases x <;> rfl
theorem noOwn_no {ρ : Rho} : noOwn (none :: ρ) = noOwn ρ := rfl
theorem noOwn_sh {x : D} {ρ : Rho} : noOwn (some (.sh x) :: ρ) = noOwn ρ := rfl
end BD
namespace BD
open PySem L2
structure Run where
  a : Nat
  b : Nat
  p : Rat
  v : Rat
def runD (R : Run) : D := .tup [.int (R.a : Int), .int (R.b : Int), shR R.p, shR R.v]
def Run.at (t : Rat) (R : Run) : Run := ⟨R.a, R.b, R.p + R.v * t, R.v⟩
def runK (r : List Bead) (k : Nat) : Run := match r[k]? with
  | some b => ⟨k, k, b.x, b.v⟩
  | none => ⟨k, k, 0, 0⟩
def runsOf (r : List Bead) : List Run := (List.range r.length).map (runK r)
theorem runK_at {r : List Bead} {k : Nat} {b : Bead} (h : r[k]? = some b) : runK r k = ⟨k, k, b.x, b.v⟩ := by unfold runK; rw [h]
theorem runsOf_len {r : List Bead} : (runsOf r).length = r.length := by simp [runsOf]
theorem runsOf_at {r : List Bead} {k : Nat} {b : Bead} (h : r[k]? = some b) : (runsOf r)[k]? = some ⟨k, k, b.x, b.v⟩ := by
  have hk : k < r.length := (List.getElem?_eq_some_iff.mp h).1
  rw [← runK_at h]
  simp [runsOf, hk]
theorem runsOf_mem {r : List Bead} {R : Run} (h : R ∈ runsOf r) : ∃ b ∈ r, R.p = b.x ∧ R.v = b.v := by
  obtain ⟨k, hk, rfl⟩ := List.mem_map.mp h
  obtain ⟨b, hb, mb⟩ := get_lt (List.mem_range.mp hk)
  rw [runK_at hb]
  exact ⟨b, mb, rfl, rfl⟩
theorem runs_of_ok {r : List Bead} (h : r.length ≤ 10) : m_runs_of [.lst (r.map bD)] = some (.val (.lst ((runsOf r).map runD))) := by
  have e0 : (runsOf r).map runD = (List.range r.length).map (fun k => runD (runK r k)) := by simp [runsOf, Function.comp_def]
  rw [e0]
  unfold m_runs_of b_runs_of
  refine fn_rt rfl rfl (ret_of (eFr_of (lComp_map (xs := List.range r.length) (F := fun k : Nat => D.tup [.int ((k : Nat) : Int), ((r.map bD)[k]?).getD .non]) ?_ (by simp; omega) fun k hk => ?_)))
  · show wEnum _ _ = _
    simp [wEnum, lbndL, aCons, aNil, obndL, eVar, enumD]
  · have hk := List.mem_range.mp hk
    obtain ⟨b, hb, _⟩ := get_lt hk
    have e : ((r.map bD)[k]?).getD .non = bD b := by rw [List.getElem?_map, hb]; rfl
    refine ⟨_, by rw [e]; rfl, rfl, ?_⟩
    rw [runK_at hb]
    rfl
def BRs (n : Nat) (rs : List Run) : Prop := ∀ R ∈ rs, BdR n R.p ∧ BdR n R.v
theorem brs_of {r : List Bead} (h : ∀ b ∈ r, GB b) : BRs 20 (runsOf r) := fun R hR => by
  obtain ⟨b, mb, e1, e2⟩ := runsOf_mem hR
  rw [e1, e2]
  exact ⟨(h b mb).x.bd, (h b mb).v.bd⟩
theorem tup4_of {f f2 f3 f4 : Ev} {ρ : Rho} {d d2 d3 d4 : D} (h : f ρ = some (.val d)) (h2 : f2 ρ = some (.val d2)) (h3 : f3 ρ = some (.val d3)) (h4 : f4 ρ = some (.val d4)) : eTup (aCons f (aCons f2 (aCons f3 (aCons f4 aNil)))) ρ = some (.val (.tup [d, d2, d3, d4])) := by
  simp [eTup, lbnd, lbndL, aCons, aNil, obndL, h, h2, h3, h4, smallL]
theorem moved_comp {n m : Nat} {rs : List Run} {t : Rat} (hb : BRs n rs) (ht : BdR m t) (hs : n + n + m ≤ 7900) (hl : rs.length ≤ 1000) :
    lComp (wSeq (eVar 0)) (gTp (gsCons (gNm 2) (gsCons (gNm 3) (gsCons (gNm 4) (gsCons (gNm 5) gsNil))))) qYes (eTup (aCons (eVar 2) (aCons (eVar 3) (aCons (eCall m_added (aCons (eVar 4) (aCons (eCall m_multiplied (aCons (eVar 5) (aCons (eVar 1) aNil))) aNil))) (aCons (eVar 5) aNil))))) [2, 3, 4, 5] [some (.sh (.lst (rs.map runD))), some (.sh (shR t)), none, none, none, none] = some (.vals ((rs.map (Run.at t)).map runD)) := by
  rw [List.map_map]
  refine lComp_map (xs := rs) (F := runD) (h := runD ∘ Run.at t) rfl hl fun R hR => ?_
  obtain ⟨b1, b2⟩ := hb R hR
  have e1 := multiplied_R b2 ht (by omega)
  have e2 := added_R b1 (b2.mul ht) (by omega)
  refine ⟨[some (.sh (.lst (rs.map runD))), some (.sh (shR t)), some (.sh (.int (R.a : Int))), some (.sh (.int (R.b : Int))), some (.sh (shR R.p)), some (.sh (shR R.v))], by simp [gTp, gsCons, gNm, gsNil, runD, wipeR], rfl, ?_⟩
  have e3 : eCall m_added (aCons (eVar 4) (aCons (eCall m_multiplied (aCons (eVar 5) (aCons (eVar 1) aNil))) aNil)) [some (.sh (.lst (rs.map runD))), some (.sh (shR t)), some (.sh (.int (R.a : Int))), some (.sh (.int (R.b : Int))), some (.sh (shR R.p)), some (.sh (shR R.v))] = some (.val (shR (R.p + R.v * t))) := call2 rfl (call2 rfl rfl e1) e2
  exact tup4_of rfl rfl e3 rfl
theorem moved_ok {n m : Nat} {rs : List Run} {t : Rat} (hb : BRs n rs) (ht : BdR m t) (hs : n + n + m ≤ 7900) (hl : rs.length ≤ 1000) : m_moved [.lst (rs.map runD), shR t] = some (.val (.lst ((rs.map (Run.at t)).map runD))) := by
  unfold m_moved b_moved
  exact fn_rt rfl rfl (ret_of (eFr_of (moved_comp hb ht hs hl)))
def cmpI (x y : Rat) : Int := if y < x then 1 else if x < y then -1 else 0
theorem compared_ok {n m : Nat} {x y : Rat} (hx : BdR n x) (hy : BdR m y) (hn : n ≤ 8000) (hm : m ≤ 8000) : m_compared [shR x, shR y] = some (.val (.int (cmpI x y))) := by
  obtain ⟨s1, s2⟩ := hx.small hn
  obtain ⟨s3, s4⟩ := hy.small hm
  have h1 := Rat.lt_iff x y
  have h2 := Rat.lt_iff y x
  unfold cmpI
  by_cases g : y < x
  · rw [if_pos g]
    have g1 := h2.mp g
    simp [m_compared, b_compared, fnSem, sSeq, sAsg, sbnd, eOp, obnd, eVar, eC, ix_R0, ix_R1, ov, i2, mulI, s1, s2, s3, s4, gNm, sIf, gtI, ltI, g1, sNext, sRet, eNeg]
  · rw [if_neg g]
    have g1 : ¬ (y.num * x.den < x.num * y.den) := fun z => g (h2.mpr z)
    by_cases l : x < y
    · rw [if_pos l]
      have l1 := h1.mp l
      simp [m_compared, b_compared, fnSem, sSeq, sAsg, sbnd, eOp, obnd, eVar, eC, ix_R0, ix_R1, ov, i2, mulI, s1, s2, s3, s4, gNm, sIf, gtI, ltI, g1, l1, sNext, sRet, eNeg]
    · rw [if_neg l]
      have l1 : ¬ (x.num * y.den < y.num * x.den) := fun z => l (h1.mpr z)
      simp [m_compared, b_compared, fnSem, sSeq, sAsg, sbnd, eOp, obnd, eVar, eC, ix_R0, ix_R1, ov, i2, mulI, s1, s2, s3, s4, gNm, sIf, gtI, ltI, g1, l1, sNext, sRet, eNeg]
theorem cmp_lt {x y : Rat} : cmpI x y < 0 ↔ x < y := by
  unfold cmpI
  by_cases g : y < x
  · rw [if_pos g]
    exact ⟨fun h => by omega, fun h => by grind⟩
  · rw [if_neg g]
    by_cases l : x < y
    · rw [if_pos l]; simp [l]
    · rw [if_neg l]; simp [l]
def waitR (A B : Run) : Option Rat := if A.v ≤ B.v then none else some ((B.p - A.p) / (A.v - B.v))
def optD : Option Rat → D
  | none => .non
  | some x => shR x
theorem num_le {q : Rat} : q.num ≤ 0 ↔ q ≤ 0 := by
  have := Rat.le_iff q 0
  simp at this
  exact this.symm
theorem wait_of {n : Nat} {A B : Run} (ha : BdR n A.p ∧ BdR n A.v) (hb : BdR n B.p ∧ BdR n B.v) (hn : n ≤ 1900) : m_wait_between [runD A, runD B] = some (.val (optD (waitR A B))) := by
  have c1 := lessened_R ha.2 hb.2 (by omega)
  have c2 := lessened_R hb.1 ha.1 (by omega)
  unfold m_wait_between b_wait_between
  refine fn_rt rfl rfl (seq_nx (ρ' := [some (.sh (runD A)), some (.sh (runD B)), none, some (.sh (.int A.a)), some (.sh (.int A.b)), some (.sh (shR A.p)), some (.sh (shR A.v)), none, none, none, none]) ?_ (seq_nx (ρ' := [some (.sh (runD A)), some (.sh (runD B)), none, some (.sh (.int A.a)), some (.sh (.int A.b)), some (.sh (shR A.p)), some (.sh (shR A.v)), some (.sh (.int B.a)), some (.sh (.int B.b)), some (.sh (shR B.p)), some (.sh (shR B.v))]) ?_ (seq_nx (set_of (call2 rfl rfl c1)) ?_)))
  · simp [sAsg, sbnd, eVar, runD, gTp, gsCons, gNm, gsNil]
  · simp [sAsg, sbnd, eVar, runD, gTp, gsCons, gNm, gsNil]
  by_cases h : A.v ≤ B.v
  · have h1 : (A.v - B.v).num ≤ 0 := num_le.mpr (by grind)
    have e : waitR A B = none := by unfold waitR; rw [if_pos h]
    rw [e]
    exact seq_rt (if_yes (op_of (op_of rfl rfl (ix_R0 _)) rfl (by simp [i2, leI, h1])) (ret_of rfl))
  · have h1 : ¬ (A.v - B.v).num ≤ 0 := fun z => h (by have := num_le.mp z; grind)
    have e : waitR A B = some ((B.p - A.p) / (A.v - B.v)) := by unfold waitR; rw [if_neg h]
    rw [e]
    exact seq_nx (if_no (op_of (op_of rfl rfl (ix_R0 _)) rfl (by simp [i2, leI, h1]))) (ret_of (call2 (call2 rfl rfl c2) rfl (parted_R (hb.1.sub ha.1) (ha.2.sub hb.2) (by omega) (by omega))))
theorem wait_bd {n : Nat} {A B : Run} {w : Rat} (ha : BdR n A.p ∧ BdR n A.v) (hb : BdR n B.p ∧ BdR n B.v) (e : waitR A B = some w) : BdR (4 * n + 2) w := by
  unfold waitR at e
  split at e
  · cases e
  · next h =>
    cases e
    exact ((hb.1.sub ha.1).quot (ha.2.sub hb.2) (fun z => h (by have := num_le.mp (Int.le_of_eq z); grind))).mono (by omega)
def upW : Option Rat → Option Rat → Option Rat
  | a, none => a
  | none, some w => some w
  | some a, some w => if w < a then some w else some a
def foldW (f : Nat → Option Rat) : Nat → Nat → Option Rat → Option Rat
  | _, 0, a => a
  | i, j + 1, a => foldW f (i + 1) j (upW a (f i))
theorem upW_prop {P : Rat → Prop} {a b : Option Rat} (ha : ∀ x, a = some x → P x) (hb : ∀ x, b = some x → P x) : ∀ x, upW a b = some x → P x := fun x e => by
  cases b with
  | none => exact ha x (by cases a <;> exact e)
  | some w =>
    cases a with
    | none => exact hb x e
    | some y =>
      unfold upW at e
      dsimp only at e
      split at e
      · exact hb x e
      · exact ha x e
theorem foldW_prop {P : Rat → Prop} {f : Nat → Option Rat} : ∀ (j i : Nat) (a : Option Rat), (∀ x, a = some x → P x) → (∀ k x, i ≤ k → k < i + j → f k = some x → P x) → ∀ x, foldW f i j a = some x → P x
  | 0, _, _, ha, _ => ha
  | j + 1, i, a, ha, hf => foldW_prop j (i + 1) (upW a (f i)) (upW_prop ha fun x e => hf i x (by omega) (by omega) e) fun k x h1 h2 => hf k x (by omega) (by omega)
def waitK (rs : List Run) (k : Nat) : Option Rat := match rs[k - 1]?, rs[k]? with
  | some A, some B => waitR A B
  | _, _ => none
def firstW (rs : List Run) : Option Rat := foldW (waitK rs) 1 (rs.length - 1) none
theorem waitK_bd {n : Nat} {rs : List Run} (hb : BRs n rs) {k : Nat} {w : Rat} (e : waitK rs k = some w) : BdR (4 * n + 2) w := by
  unfold waitK at e
  split at e
  · next A B h1 h2 => exact wait_bd (hb A (List.mem_of_getElem? h1)) (hb B (List.mem_of_getElem? h2)) e
  · cases e
theorem first_step {n : Nat} {rs : List Run} (hb : BRs n rs) (hn : n ≤ 1900) {a : Option Rat} (ha : ∀ x, a = some x → BdR (4 * n + 2) x) {i : Nat} (h1 : 1 ≤ i) (hi : i < rs.length) (x3 : Option Sl) :
    ∃ y3, l1_first_wait [some (.sh (.lst (rs.map runD))), some (.sh (optD a)), some (.sh (.int (i : Int))), x3] = some (.nx [some (.sh (.lst (rs.map runD))), some (.sh (optD (upW a (waitK rs i)))), some (.sh (.int (i : Int))), y3]) := by
  obtain ⟨A, eA, mA⟩ := get_lt (show i - 1 < rs.length by omega)
  obtain ⟨B, eB', mB⟩ := get_lt hi
  have ek : waitK rs i = waitR A B := by unfold waitK; rw [eA, eB']
  have w := wait_of (hb A mA) (hb B mB) hn
  have hi1 : i2 subI (.int (i : Int)) (.int 1) = some (.int ((i - 1 : Nat) : Int)) := by simp [i2, subI]; omega
  have s1 : sAsg (eCall m_wait_between (aCons (eOp ixD (eVar 0) (eOp (i2 subI) (eVar 2) (eC (.int 1)))) (aCons (eOp ixD (eVar 0) (eVar 2)) aNil))) (gNm 3) [some (.sh (.lst (rs.map runD))), some (.sh (optD a)), some (.sh (.int (i : Int))), x3] = some (.nx [some (.sh (.lst (rs.map runD))), some (.sh (optD a)), some (.sh (.int (i : Int))), some (.sh (optD (waitR A B)))]) :=
    set_of (i := 3) (call2 (op_of rfl (op_of rfl rfl hi1) (ix_map eA)) (op_of rfl rfl (ix_map eB')) w)
  refine ⟨some (.sh (optD (waitR A B))), seq_nx s1 ?_⟩
  rw [ek]
  cases e : waitR A B with
  | none =>
    have : upW a none = a := by cases a <;> rfl
    rw [this]
    exact if_no (and_no (op_of rfl rfl rfl))
  | some x =>
    have bx : BdR (4 * n + 2) x := wait_bd (hb A mA) (hb B mB) e
    cases a with
    | none => exact if_yes (and_of (op_of rfl rfl rfl) (or_yes (op_of rfl rfl rfl))) (set_of (i := 1) rfl)
    | some y =>
      have c := compared_ok bx (ha y rfl) (by omega) (by omega)
      by_cases l : x < y
      · have lt := cmp_lt.mpr l
        have : upW (some y) (some x) = some x := by unfold upW; dsimp only; rw [if_pos l]
        rw [this]
        exact if_yes (and_of (op_of rfl rfl rfl) (or_of (op_of rfl rfl rfl) (op_of (call2 rfl rfl c) rfl (by simp [i2, ltI, lt])))) (set_of (i := 1) rfl)
      · have lt : ¬ cmpI x y < 0 := fun z => l (cmp_lt.mp z)
        have : upW (some y) (some x) = some y := by unfold upW; dsimp only; rw [if_neg l]
        rw [this]
        exact if_no (and_of (op_of rfl rfl rfl) (or_of (op_of rfl rfl rfl) (op_of (call2 rfl rfl c) rfl (by simp [i2, ltI, lt]))))
theorem first_for {n : Nat} {rs : List Run} (hb : BRs n rs) (hn : n ≤ 1900) : ∀ (j i : Nat) (a : Option Rat), (∀ x, a = some x → BdR (4 * n + 2) x) → 1 ≤ i → i + j ≤ rs.length → ∀ (x2 x3 : Option Sl),
    ∃ y2 y3, forS (gNm 2) l1_first_wait ((List.range' i j).map fun k : Nat => D.int ((k : Nat) : Int)) [some (.sh (.lst (rs.map runD))), some (.sh (optD a)), x2, x3] = some (.nx [some (.sh (.lst (rs.map runD))), some (.sh (optD (foldW (waitK rs) i j a))), y2, y3])
  | 0, i, a, _, _, _, x2, x3 => ⟨x2, x3, rfl⟩
  | j + 1, i, a, ha, h1, hs, x2, x3 => by
    obtain ⟨y3, e⟩ := first_step hb hn ha h1 (show i < rs.length by omega) x3
    obtain ⟨z2, z3, e2⟩ := first_for hb hn j (i + 1) (upW a (waitK rs i)) (upW_prop ha fun x e => waitK_bd hb e) (by omega) (by omega) (some (.sh (.int (i : Int)))) y3
    refine ⟨z2, z3, ?_⟩
    rw [List.range'_succ, List.map_cons]
    exact for_cons rfl e e2
theorem rng_from1 {n : Nat} (h : 1 ≤ n) : rngD 1 1 (((n : Int) - 1).toNat) = (List.range' 1 (n - 1)).map fun k : Nat => D.int ((k : Nat) : Int) := by
  have e : ((n : Int) - 1).toNat = n - 1 := by omega
  rw [e]
  unfold rngD
  rw [List.range_eq_range', show List.range' 1 (n - 1) = (List.range' 0 (n - 1)).map (1 + ·) from by rw [List.map_add_range']]
  rw [List.map_map]
  exact List.map_congr_left fun k _ => by simp
theorem first_ok {n : Nat} {rs : List Run} (hb : BRs n rs) (hn : n ≤ 1900) (h1 : 1 ≤ rs.length) (hl : rs.length ≤ 1000) : m_first_wait [.lst (rs.map runD)] = some (.val (optD (firstW rs))) := by
  obtain ⟨y2, y3, e⟩ := first_for hb hn (rs.length - 1) 1 none (fun _ z => nomatch z) (by omega) (by omega) none none
  unfold m_first_wait b_first_wait
  refine fn_rt rfl rfl (seq_nx (set_of (i := 1) rfl) (seq_nx (for_of (wRng2_of (i := 1) (j := (rs.length : Int)) rfl (by have := len_of (f := eVar 0) (ρ := [some (.sh (.lst (rs.map runD))), some (.sh D.non), none, none]) (ds := rs.map runD) rfl; rw [List.length_map] at this; exact this) rfl (big_few hl)) (by rw [rng_from1 h1]; exact e)) (ret_of rfl)))
theorem firstW_bd {n : Nat} {rs : List Run} (hb : BRs n rs) {w : Rat} (e : firstW rs = some w) : BdR (4 * n + 2) w := foldW_prop _ _ none (fun _ z => nomatch z) (fun k x _ _ z => waitK_bd hb z) w e
def knotD (m : Rat) (rs : List Run) (st : List D) (u : Int) : D := .obj 0 [shR m, .lst (rs.map runD), .lst st, .int u]
end BD
namespace BD
open PySem L2
def rowD (r : List Bead) : D := .lst (r.map bD)
theorem see0_int {M : Mem} {j : Nat} {i : Int} : see0 M j (.int i) = .int i := by cases j <;> rfl
theorem see0_R {M : Mem} {j : Nat} {x : Rat} : see0 M j (shR x) = shR x := by
  cases j with
  | zero => rfl
  | succ j => simp [shR, sh, see0, see0_int]
theorem see0_run {M : Mem} {j : Nat} {R : Run} : see0 M j (runD R) = runD R := by
  cases j with
  | zero => rfl
  | succ j => simp [runD, see0, see0_int, see0_R]
theorem see0_runs {M : Mem} {j : Nat} {rs : List Run} : (rs.map runD).map (see0 M j) = rs.map runD := by
  rw [List.map_map]
  exact List.map_congr_left fun R _ => see0_run
theorem get_last {M : Mem} {c : Cell} : (M ++ [c])[M.length]? = some c := by simp
theorem get_old {M N : Mem} {c : Cell} {n : Nat} (h : M[n]? = some c) : (M ++ N)[n]? = some c := by
  rw [List.getElem?_append_left (List.getElem?_eq_some_iff.mp h).1]
  exact h
theorem lstE_of {fs : EvL} {ρ : Rho} {ds : List D} (h : fs ρ = some (.vals ds)) (s : smallL ds = true) : lLst fs ρ = some (.vals ds) := by
  unfold lLst lbndL
  rw [h]
  dsimp only
  rw [if_pos s]
end BD
namespace BD
open PySem L2 TL PySem.StrLaws
theorem eB_of {g : List D → Option D} {fs : EvL} {ρ : Rho} {ds : List D} {d : D} (h : fs ρ = some (.vals ds)) (k : g ds = some d) : eB g fs ρ = some (.val d) := by
  unfold eB lbnd
  rw [h]
  dsimp only
  rw [k]
  rfl
theorem tup3_of {f f2 f3 : Ev} {ρ : Rho} {d d2 d3 : D} (h : f ρ = some (.val d)) (h2 : f2 ρ = some (.val d2)) (h3 : f3 ρ = some (.val d3)) : eTup (aCons f (aCons f2 (aCons f3 aNil))) ρ = some (.val (.tup [d, d2, d3])) := by
  simp [eTup, lbnd, aCons, aNil, obndL, lbndL, h, h2, h3, smallL]
end BD
namespace BD
open PySem L2
end BD
namespace BD
open PySem L2
def pD (p : List Run) : D := .lst (p.map runD)
def grp (ps : List (List Run)) (R : Run) : List (List Run) := match ps.getLast? with
  | some q => (match q.head? with
    | some A => if A.p = R.p then ps.dropLast ++ [q ++ [R]] else ps ++ [[R]]
    | none => ps ++ [[R]])
  | none => ps ++ [[R]]
def parts (rs : List Run) : List (List Run) := rs.foldl grp []
theorem parts_snoc (rs : List Run) (R : Run) : parts (rs ++ [R]) = grp (parts rs) R := by
  unfold parts
  rw [List.foldl_append]
  rfl
structure Grp (ps : List (List Run)) (rs : List Run) : Prop where
  cat : ps.flatten = rs
  ne : ∀ p ∈ ps, p ≠ []
  same : ∀ p ∈ ps, ∀ A ∈ p, ∀ B ∈ p, A.p = B.p
theorem Grp.nil : Grp [] [] := ⟨rfl, (fun _ h => nomatch h), (fun _ h => nomatch h)⟩
theorem grp_none {ps : List (List Run)} {R : Run} (h : ps = []) : grp ps R = [[R]] := by subst h; rfl
theorem grp_new {ps : List (List Run)} {q : List Run} {A R : Run} (h : ps.getLast? = some q) (hq : q.head? = some A) (ne : A.p ≠ R.p) : grp ps R = ps ++ [[R]] := by
  unfold grp
  rw [h]
  dsimp only
  rw [hq]
  dsimp only
  rw [if_neg ne]
theorem grp_more {ps : List (List Run)} {q : List Run} {A R : Run} (h : ps.getLast? = some q) (hq : q.head? = some A) (e : A.p = R.p) : grp ps R = ps.dropLast ++ [q ++ [R]] := by
  unfold grp
  rw [h]
  dsimp only
  rw [hq]
  dsimp only
  rw [if_pos e]
theorem last_split {α : Type} {ps : List α} {q : α} (h : ps.getLast? = some q) : ps = ps.dropLast ++ [q] := by
  have ne : ps ≠ [] := fun z => by rw [z] at h; cases h
  have e := List.dropLast_concat_getLast ne
  rw [List.getLast?_eq_some_getLast ne] at h
  rw [← Option.some.inj h, e]
theorem head_of {α : Type} {q : List α} (h : q ≠ []) : ∃ A, q.head? = some A ∧ A ∈ q := by
  cases q with
  | nil => exact absurd rfl h
  | cons A l => exact ⟨A, rfl, List.mem_cons_self ..⟩
theorem grp_cases {ps : List (List Run)} {rs : List Run} (g : Grp ps rs) (R : Run) : (ps = [] ∧ grp ps R = [[R]]) ∨
    (∃ l q A, ps = l ++ [q] ∧ q.head? = some A ∧ A ∈ q ∧ A.p ≠ R.p ∧ grp ps R = ps ++ [[R]]) ∨ (∃ l q A, ps = l ++ [q] ∧ q.head? = some A ∧ A ∈ q ∧ A.p = R.p ∧ grp ps R = l ++ [q ++ [R]]) := by
  cases h : ps.getLast? with
  | none =>
    have : ps = [] := List.getLast?_eq_none_iff.mp h
    exact .inl ⟨this, grp_none this⟩
  | some q =>
    have e := last_split h
    obtain ⟨A, hA, mA⟩ := head_of (g.ne q (by rw [e]; simp))
    by_cases hp : A.p = R.p
    · exact .inr (.inr ⟨ps.dropLast, q, A, e, hA, mA, hp, grp_more h hA hp⟩)
    · exact .inr (.inl ⟨ps.dropLast, q, A, e, hA, mA, hp, grp_new h hA hp⟩)
theorem Grp.step {ps : List (List Run)} {rs : List Run} (g : Grp ps rs) (R : Run) : Grp (grp ps R) (rs ++ [R]) := by
  rcases grp_cases g R with ⟨h, e⟩ | ⟨l, q, A, h, _, _, _, e⟩ | ⟨l, q, A, h, hA, mA, hp, e⟩
  · rw [e]
    have : rs = [] := by rw [← g.cat, h]; rfl
    subst this
    refine ⟨rfl, fun p hp => ?_, fun p hp A hA B hB => ?_⟩
    · rw [List.mem_singleton.mp hp]; simp
    · rw [List.mem_singleton.mp hp] at hA hB
      rw [List.mem_singleton.mp hA, List.mem_singleton.mp hB]
  · rw [e]
    refine ⟨by rw [List.flatten_append, g.cat]; rfl, fun p hp => ?_, fun p hp A hA B hB => ?_⟩
    · rcases List.mem_append.mp hp with hp | hp
      · exact g.ne p hp
      · rw [List.mem_singleton.mp hp]; simp
    · rcases List.mem_append.mp hp with hp | hp
      · exact g.same p hp A hA B hB
      · rw [List.mem_singleton.mp hp] at hA hB
        rw [List.mem_singleton.mp hA, List.mem_singleton.mp hB]
  · rw [e]
    subst h
    refine ⟨?_, fun p hp => ?_, fun p hp' B hB C hC => ?_⟩
    · rw [← g.cat, List.flatten_append, List.flatten_append]
      simp
    · rcases List.mem_append.mp hp with hp | hp
      · exact g.ne p (List.mem_append_left _ hp)
      · rw [List.mem_singleton.mp hp]; simp
    · rcases List.mem_append.mp hp' with hp' | hp'
      · exact g.same p (List.mem_append_left _ hp') B hB C hC
      · rw [List.mem_singleton.mp hp'] at hB hC
        have qs : ∀ X ∈ q ++ [R], X.p = A.p := fun X hX => by
          rcases List.mem_append.mp hX with hX | hX
          · exact g.same q (by simp) X hX A mA
          · rw [List.mem_singleton.mp hX]; exact hp.symm
        rw [qs B hB, qs C hC]
theorem parts_grp (rs : List Run) : Grp (parts rs) rs := by
  have h : ∀ (q : List Run) (ps : List (List Run)) (done : List Run), Grp ps done → Grp (q.foldl grp ps) (done ++ q) := fun q => by
    induction q with
    | nil => intro ps done g; rw [List.append_nil]; exact g
    | cons R q ih =>
      intro ps done g
      have := ih (grp ps R) (done ++ [R]) (g.step R)
      rw [List.append_assoc] at this
      exact this
  exact h rs [] [] .nil
theorem grp_len {ps : List (List Run)} {rs : List Run} (g : Grp ps rs) : ps.length ≤ rs.length := by
  rw [← g.cat]
  have ne := g.ne
  clear g
  induction ps with
  | nil => simp
  | cons p ps ih =>
    have : 1 ≤ p.length := List.length_pos_iff.mpr (ne p (List.mem_cons_self ..))
    have := ih fun q hq => ne q (List.mem_cons_of_mem _ hq)
    rw [List.flatten_cons, List.length_append, List.length_cons]
    omega
theorem part_len {ps : List (List Run)} {rs p : List Run} (g : Grp ps rs) (h : p ∈ ps) : p.length ≤ rs.length := by
  rw [← g.cat]
  obtain ⟨a, b, rfl⟩ := List.append_of_mem h
  simp
  omega
def memP (ps : List (List Run)) : Mem := .lst ((List.range' 1 ps.length).map D.cell) :: ps.map fun p => Cell.lst (p.map runD)
theorem memP_at {ps : List (List Run)} {i : Nat} {p : List Run} (h : ps[i]? = some p) : (memP ps)[i + 1]? = some (.lst (p.map runD)) := by
  unfold memP
  rw [List.getElem?_cons_succ, List.getElem?_map, h]
  rfl
theorem memP_len (ps : List (List Run)) : (memP ps).length = ps.length + 1 := by simp [memP]
theorem runD_pure (R : Run) : pureD (runD R) = true := rfl
theorem pD_pure (p : List Run) : pureDs (p.map runD) = true := by
  induction p with
  | nil => rfl
  | cons R p ih => simp [pureDs, runD_pure, ih]
theorem see0_part {ps : List (List Run)} {i j : Nat} {p : List Run} (h : ps[i]? = some p) : see0 (memP ps) (j + 1) (.cell (i + 1)) = pD p := by
  show (match (memP ps)[i + 1]? with | some (.ins m k fs) => _ | some (.lst ds) => _ | _ => _) = _
  rw [memP_at h]
  show D.lst ((p.map runD).map (see0 (memP ps) j)) = _
  rw [see0_runs]
  rfl
theorem see0_parts (ps : List (List Run)) {j : Nat} : see0 (memP ps) (j + 2) (.cell 0) = .lst (ps.map pD) := by
  show D.lst (((List.range' 1 ps.length).map D.cell).map (see0 (memP ps) (j + 1))) = _
  congr 1
  refine List.ext_getElem? fun i => ?_
  rw [List.getElem?_map, List.getElem?_map, List.getElem?_map]
  by_cases h : i < ps.length
  · have e : ps[i]? = some ps[i] := by simp [h]
    rw [List.getElem?_range' h, e]
    show some (see0 (memP ps) (j + 1) (.cell (1 + 1 * i))) = some (pD ps[i])
    rw [show 1 + 1 * i = i + 1 by omega, see0_part e]
  · rw [List.getElem?_eq_none (by simp; omega), List.getElem?_eq_none (by omega)]
    rfl
theorem by_step {ps : List (List Run)} {rs : List Run} {R : Run} (g : Grp ps rs) (hl : rs.length ≤ 500) (x0 : Option Sl) : L1_by_places [x0, some (.sh (.cell 0)), some (.sh (runD R))] (memP ps) = some (.nx [x0, some (.sh (.cell 0)), some (.sh (runD R))], memP (grp ps R)) := by
  have lp := grp_len g
  have sees : seeR (see0 (memP ps) 4) [1] 0 [x0, some (.sh (.cell 0)), some (.sh (runD R))] = [x0, some (.sh (.lst (ps.map pD))), some (.sh (runD R))] := by
    show [x0, some (Sl.sh (see0 (memP ps) 4 (.cell 0))), some (Sl.sh (runD R))] = _
    rw [see0_parts]
  have m0 : (memP ps)[0]? = some (.lst ((List.range' 1 ps.length).map D.cell)) := rfl
  have sm : smallL ((List.range' 1 ps.length).map D.cell) = true := decide_eq_true (by simp; omega)
  have new : grp ps R = ps ++ [[R]] → mCApp (mL (eVar 1)) (mNew (lLst (aCons (eVar 2) aNil))) [x0, some (.sh (.cell 0)), some (.sh (runD R))] (memP ps) = some (.nx [x0, some (.sh (.cell 0)), some (.sh (runD R))], memP (grp ps R)) := fun e => by
    have n : mNew (lLst (aCons (eVar 2) aNil)) [x0, some (.sh (.cell 0)), some (.sh (runD R))] (memP ps) = some (.val (.cell (memP ps).length), memP ps ++ [.lst [runD R]]) := mnew_of (lstE_of (one_of rfl) rfl)
    rw [mcapp_of (n := 0) (es := (List.range' 1 ps.length).map D.cell) (es' := (List.range' 1 ps.length).map D.cell) (mL_of (o := .val (.cell 0)) rfl) m0 n (get_old m0) sm, e]
    rw [memP_len]
    congr 2
    unfold memP
    rw [List.map_append]
    simp only [List.cons_append, List.set_cons_zero, List.length_append, List.length_singleton]
    congr 2
    rw [List.range'_concat, List.map_append]
    congr 3
    omega
  unfold L1_by_places
  rcases grp_cases g R with ⟨h, e⟩ | ⟨l, q, A, h, hA, mA, hp, e⟩ | ⟨l, q, A, h, hA, mA, hp, e⟩
  · have t : (qAnd (qV (eVar 1)) (eOp eqD (eOp ixD (eOp ixD (eOp ixD (eVar 1) (eNeg (eC (.int 1)))) (eC (.int 0))) (eC (.int 2))) (eOp ixD (eVar 2) (eC (.int 2))))) [x0, some (.sh (.lst (ps.map pD))), some (.sh (runD R))] = some (.val (.bl false)) := by
      subst h
      exact and_no rfl
    exact mifS_no (mQ0_of sees t) (new (by rw [e, h]; rfl))
  all_goals
    have hlast : atI (ps.map pD) (-1) = some (pD q) := by
      subst h
      rw [List.map_append]
      unfold atI ixN
      rw [if_neg (by decide)]
      have : (-(1 : Int)) + (((l.map pD) ++ [q].map pD).length : Int) = ((l.length : Nat) : Int) := by simp; omega
      rw [this, if_pos (by simp; omega), Int.toNat_natCast]
      show ((l.map pD) ++ [pD q])[l.length]? = _
      rw [List.getElem?_append_right (by simp)]
      simp
    have hhead : ixD (pD q) (.int 0) = some (runD A) := by
      cases q with
      | nil => cases hA
      | cons B q' =>
        have : B = A := Option.some.inj hA
        subst this
        show atI ((B :: q').map runD) 0 = _
        unfold atI ixN
        rw [if_pos (by decide), if_pos (by simp)]
        rfl
    have v1 : qV (eVar 1) [x0, some (.sh (.lst (ps.map pD))), some (.sh (runD R))] = some (.val (.bl true)) := by
      subst h
      show ov ((truthD (.lst _)).map .bl) = _
      simp [truthD, ov]
    have lk : eOp ixD (eOp ixD (eOp ixD (eVar 1) (eNeg (eC (.int 1)))) (eC (.int 0))) (eC (.int 2)) [x0, some (.sh (.lst (ps.map pD))), some (.sh (runD R))] = some (.val (shR A.p)) := op_of (op_of (op_of rfl rfl hlast) rfl hhead) rfl rfl
    have t : (qAnd (qV (eVar 1)) (eOp eqD (eOp ixD (eOp ixD (eOp ixD (eVar 1) (eNeg (eC (.int 1)))) (eC (.int 0))) (eC (.int 2))) (eOp ixD (eVar 2) (eC (.int 2))))) [x0, some (.sh (.lst (ps.map pD))), some (.sh (runD R))] = some (.val (.bl (decide (A.p = R.p)))) := and_of v1 (op_of lk (op_of rfl rfl rfl) (eqD_R A.p R.p))
  · rw [decide_eq_false hp] at t
    exact mifS_no (mQ0_of sees t) (new e)
  · rw [decide_eq_true hp] at t
    have at' : ps[l.length]? = some q := by subst h; simp
    have sq : smallL (q.map runD) = true := decide_eq_true (by have := part_len g (p := q) (by subst h; simp); rw [List.length_map]; omega)
    have ix : mIx (mL (eVar 1)) (mL (eNeg (eC (.int 1)))) [x0, some (.sh (.cell 0)), some (.sh (runD R))] (memP ps) = some (.val (.cell (l.length + 1)), memP ps) := by
      unfold mIx mbnd
      rw [mL_of (o := .val (.cell 0)) rfl]
      dsimp only
      rw [mL_of (o := .val (.int (-1))) rfl]
      dsimp only
      rw [m0]
      dsimp only
      have : atI ((List.range' 1 ps.length).map D.cell) (-1) = some (.cell (l.length + 1)) := by
        unfold atI ixN
        rw [if_neg (by decide)]
        have e2 : ps.length = l.length + 1 := by subst h; simp
        have : (-(1 : Int)) + (((List.range' 1 ps.length).map D.cell).length : Int) = ((l.length : Nat) : Int) := by simp; omega
        rw [this, if_pos (by simp; omega), Int.toNat_natCast]
        show ((List.range' 1 ps.length).map D.cell)[l.length]? = _
        rw [List.getElem?_map, List.getElem?_range' (by omega)]
        show some (D.cell (1 + 1 * l.length)) = _
        rw [show 1 + 1 * l.length = l.length + 1 by omega]
      rw [this]
      rfl
    refine mifS_yes (mQ0_of sees t) ?_
    rw [mcapp_of (n := l.length + 1) (es := q.map runD) (es' := q.map runD) ix (memP_at at') (mL_of (o := .val (runD R)) rfl) (memP_at at') sq, e]
    congr 2
    unfold memP
    subst h
    simp only [List.set_cons_succ, List.length_append, List.length_singleton, List.map_append, List.map_cons, List.map_nil]
    congr 1
    rw [List.set_append_right _ _ (by simp)]
    simp
theorem by_for (x0 : Option Sl) : ∀ (q : List Run) (ps : List (List Run)) (done : List Run) (x2 : Option D), Grp ps done → (done ++ q).length ≤ 500 → (x0 = none ∨ ∃ d, x0 = some (.sh d)) → ∃ y2, forM (gNm 2) L1_by_places (q.map runD) [x0, some (.sh (.cell 0)), os x2] (memP ps) = some (.nx [x0, some (.sh (.cell 0)), os y2], memP (q.foldl grp ps))
  | [], ps, done, x2, g, _, _ => ⟨x2, rfl⟩
  | R :: q, ps, done, x2, g, hl, hx => by
    obtain ⟨y2, f⟩ := by_for x0 q (grp ps R) (done ++ [R]) (some (runD R)) (g.step R) (by rw [List.append_assoc]; exact hl) hx
    refine ⟨y2, mfor_cons (ρ1 := [x0, some (.sh (.cell 0)), some (.sh (runD R))]) rfl ?_ (by_step g (by simp at hl; omega) x0) f⟩
    rcases hx with rfl | ⟨d, rfl⟩ <;> rfl
theorem by_places_ok {rs : List Run} (hl : rs.length ≤ 500) : m_by_places [.lst (rs.map runD)] = some (.val (.lst ((parts rs).map pD))) := by
  obtain ⟨y2, f⟩ := by_for (some (.sh (.lst (rs.map runD)))) rs [] [] none .nil hl (.inr ⟨_, rfl⟩)
  have m : M_by_places [.lst (rs.map runD)] [] = some (.val (.cell 0), memP (parts rs)) := by
    unfold M_by_places B_by_places
    exact mfn_rt rfl rfl (mseq_nx (mset_of (i := 1) (d := .cell 0) (M1 := memP []) rfl) (mseq_nx (mfor_of (mwseq_of (mL_of (o := .val (.lst (rs.map runD))) rfl)) f) (mret_of (mL_of (o := .val (.cell 0)) rfl))))
  have pu : pureDs [.lst (rs.map runD)] = true := by simp only [pureDs, pureD, pD_pure, Bool.and_self]
  have pp : pureD (.lst ((parts rs).map pD)) = true := by
    simp only [pureD]
    have : ∀ ps : List (List Run), pureDs (ps.map pD) = true := fun ps => by
      induction ps with
      | nil => rfl
      | cons p ps ih => simp only [List.map_cons, pureDs, pD, pureD, pD_pure, Bool.true_and]; exact ih
    exact this _
  unfold m_by_places pSem
  rw [if_pos pu, m]
  dsimp only
  rw [see0_parts (parts rs) (j := 2), if_pos pp]
end BD
namespace BD
open PySem L2
theorem compS_filter {α : Type} {f h : α → D} {tb : α → Bool} {g : Gv} {q e : Ev} {ρ : Rho} : ∀ {xs : List α}, (∀ x ∈ xs, ∃ ρ', g (f x) ρ = some ρ' ∧ q ρ' = some (.val (.bl (tb x))) ∧ (tb x = true → e ρ' = some (.val (h x)))) → compS g q e ρ (xs.map f) = some ((xs.filter tb).map h)
  | [], _ => rfl
  | x :: xs, H => by
    obtain ⟨ρ', e1, e2, e3⟩ := H x (List.mem_cons_self ..)
    have ih := compS_filter (xs := xs) fun y hy => H y (List.mem_cons_of_mem _ hy)
    cases ht : tb x with
    | true =>
      rw [ht] at e2
      simp [compS, e1, e2, e3 ht, ih, ht]
    | false =>
      rw [ht] at e2
      simp [compS, e1, e2, ih, ht]
theorem lComp_filter {α : Type} {f : EvL} {g : Gv} {q e : Ev} {vs : List Nat} {ρ : Rho} {xs : List α} {F h : α → D} {tb : α → Bool} (hf : f ρ = some (.vals (xs.map F))) (hl : xs.length ≤ 1000)
    (H : ∀ x ∈ xs, ∃ ρ', g (F x) (wipeR ρ vs) = some ρ' ∧ q ρ' = some (.val (.bl (tb x))) ∧ (tb x = true → e ρ' = some (.val (h x)))) : lComp f g q e vs ρ = some (.vals ((xs.filter tb).map h)) := by
  have sl : smallL (xs.map F) = true := decide_eq_true (by rw [List.length_map]; omega)
  unfold lComp lbndL
  rw [hf]
  dsimp only
  rw [if_pos sl, compS_filter H]
  rfl
def strD (s : Nat × Nat) : D := .tup [.int (s.1 : Int), .int (s.2 : Int)]
def strOf (p : List Run) : Nat × Nat := (((p.head?).map Run.a).getD 0, ((p.getLast?).map Run.b).getD 0)
def mets (ps : List (List Run)) : List (Nat × Nat) := (ps.filter fun p => decide (1 < p.length)).map strOf
theorem at_last {α : Type} {xs : List α} {x : α} {f : α → D} (h : xs.getLast? = some x) : atI (xs.map f) (-1) = some (f x) := by
  rw [List.getLast?_eq_getElem?] at h
  have hl : xs.length - 1 < xs.length := (List.getElem?_eq_some_iff.mp h).1
  unfold atI ixN
  rw [if_neg (by decide), List.length_map]
  have : (-(1 : Int)) + (xs.length : Int) = ((xs.length - 1 : Nat) : Int) := by omega
  rw [this, if_pos (by omega), Int.toNat_natCast]
  show (xs.map f)[xs.length - 1]? = _
  rw [List.getElem?_map, h]
  rfl
theorem at_first {α : Type} {xs : List α} {x : α} {f : α → D} (h : xs.head? = some x) : atI (xs.map f) 0 = some (f x) := by
  cases xs with
  | nil => cases h
  | cons y l =>
    have : y = x := Option.some.inj h
    subst this
    unfold atI ixN
    rw [if_pos (by decide), if_pos (by simp)]
    rfl
theorem last_of {α : Type} {q : List α} (h : q ≠ []) : ∃ A, q.getLast? = some A ∧ A ∈ q := ⟨q.getLast h, List.getLast?_eq_some_getLast h, List.getLast_mem h⟩
theorem part_stretch_ok {p : List Run} (h : p ≠ []) : m_part_stretch [pD p] = some (.val (strD (strOf p))) := by
  obtain ⟨A, hA, _⟩ := head_of h
  obtain ⟨B, hB, _⟩ := last_of h
  unfold m_part_stretch b_part_stretch
  refine fn_rt rfl rfl (ret_of ((tup2_of (op_of (op_of rfl rfl (at_first (f := runD) hA)) rfl rfl) (op_of (op_of rfl rfl (at_last (f := runD) hB)) rfl rfl)).trans ?_))
  unfold strD strOf
  rw [hA, hB]
  rfl
theorem met_stretches_ok {ps : List (List Run)} (ne : ∀ p ∈ ps, p ≠ []) (hl : ps.length ≤ 1000) : m_met_stretches [.lst (ps.map pD)] = some (.val (.lst ((mets ps).map strD))) := by
  unfold m_met_stretches b_met_stretches
  refine fn_rt rfl rfl (ret_of ((eFr_of (lComp_filter (F := pD) (xs := ps) (h := fun p => strD (strOf p)) (tb := fun p => decide (1 < p.length)) (seq_of rfl) hl fun p hp => ⟨_, rfl, ?_, fun _ => call1 rfl (part_stretch_ok (ne p hp))⟩)).trans ?_))
  · refine op_of (len_of (ds := p.map runD) rfl) rfl ?_
    show some (D.bl (decide ((1 : Int) < ((p.map runD).length : Int)))) = _
    rw [List.length_map]
    congr 2
    rw [decide_eq_decide]
    omega
  · unfold mets
    rw [List.map_map]
    rfl
structure Kn where
  m : Rat
  rs : List Run
  st : List (Nat × Nat)
  u : Int
def Kn.d (k : Kn) : D := knotD k.m k.rs (k.st.map strD) k.u
structure KB (N : Nat) (k : Kn) : Prop where
  m : BdR N k.m
  rs : BRs N k.rs
  one : 1 ≤ k.rs.length
  ten : k.rs.length ≤ 10
structure Past (N : Nat) (ks : List Kn) (t : Rat) : Prop where
  ne : ks ≠ []
  few : ks.length ≤ 500
  kb : ∀ k ∈ ks, KB N k
  le : ∀ k ∈ ks, k.m ≤ t
  tb : BdR N t
  t0 : 0 ≤ t
section
variable {N : Nat} {r : List Bead} {kd : Str} {ks : List Kn} {t : Rat} (c : Past N ks t) (hN : N ≤ 1500)
include c hN
end
end BD
namespace BD
open PySem L2
theorem upW_le {a b : Option Rat} {x : Rat} (h : upW a b = some x) : (∀ y, a = some y → x ≤ y) ∧ (∀ y, b = some y → x ≤ y) := by
  cases b with
  | none =>
    have : a = some x := by cases a <;> exact h
    subst this
    exact ⟨fun y e => by cases e; exact Rat.le_refl, (fun y e => nomatch e)⟩
  | some w =>
    cases a with
    | none =>
      have : w = x := Option.some.inj h
      subst this
      exact ⟨(fun y e => nomatch e), fun y e => by cases e; exact Rat.le_refl⟩
    | some z =>
      unfold upW at h
      dsimp only at h
      split at h
      · rename_i lt
        cases h
        exact ⟨fun y e => by cases e; exact Rat.le_of_lt lt, fun y e => by cases e; exact Rat.le_refl⟩
      · rename_i lt
        cases h
        exact ⟨fun y e => by cases e; exact Rat.le_refl, fun y e => by cases e; exact Rat.not_lt.mp lt⟩
theorem upW_none {a b : Option Rat} (h : upW a b = none) : a = none ∧ b = none := by
  cases b with
  | none => cases a with | none => exact ⟨rfl, rfl⟩ | some z => cases h
  | some w =>
    cases a with
    | none => cases h
    | some z => unfold upW at h; dsimp only at h; split at h <;> cases h
theorem upW_eq {a b : Option Rat} {x : Rat} (h : upW a b = some x) : a = some x ∨ b = some x := by
  cases b with
  | none => exact .inl (by cases a <;> exact h)
  | some w =>
    cases a with
    | none => exact .inr h
    | some z =>
      unfold upW at h
      dsimp only at h
      split at h
      · exact .inr h
      · exact .inl h
theorem foldW_least {f : Nat → Option Rat} : ∀ (j i : Nat) (a : Option Rat) (x : Rat), foldW f i j a = some x → (∀ y, a = some y → x ≤ y) ∧ (∀ k y, i ≤ k → k < i + j → f k = some y → x ≤ y) ∧ (a = some x ∨ ∃ k, i ≤ k ∧ k < i + j ∧ f k = some x)
  | 0, i, a, x, h => ⟨fun y e => by have h : a = some x := h; rw [h] at e; cases e; exact Rat.le_refl, fun k y h1 h2 => absurd h2 (by omega), .inl h⟩
  | j + 1, i, a, x, h => by
    obtain ⟨h1, h2, h3⟩ := foldW_least j (i + 1) (upW a (f i)) x h
    have up : ∀ y, a = some y ∨ f i = some y → x ≤ y := fun y hy => by
      cases q : upW a (f i) with
      | none => obtain ⟨q1, q2⟩ := upW_none q; rcases hy with hy | hy <;> simp_all
      | some z =>
        have := h1 z q
        obtain ⟨l1, l2⟩ := upW_le q
        rcases hy with hy | hy
        · have := l1 y hy; grind
        · have := l2 y hy; grind
    refine ⟨fun y e => up y (.inl e), fun k y k1 k2 e => ?_, ?_⟩
    · by_cases hk : k = i
      · subst hk; exact up y (.inr e)
      · exact h2 k y (by omega) (by omega) e
    · rcases h3 with h3 | ⟨k, k1, k2, e⟩
      · rcases upW_eq h3 with h3 | h3
        · exact .inl h3
        · exact .inr ⟨i, by omega, by omega, h3⟩
      · exact .inr ⟨k, by omega, by omega, e⟩
theorem foldW_nones {f : Nat → Option Rat} : ∀ (j i : Nat) (a : Option Rat), foldW f i j a = none → a = none ∧ ∀ k, i ≤ k → k < i + j → f k = none
  | 0, i, a, h => ⟨h, fun k h1 h2 => absurd h2 (by omega)⟩
  | j + 1, i, a, h => by
    obtain ⟨h1, h2⟩ := foldW_nones j (i + 1) (upW a (f i)) h
    obtain ⟨u1, u2⟩ := upW_none h1
    refine ⟨u1, fun k k1 k2 => ?_⟩
    by_cases hk : k = i
    · subst hk; exact u2
    · exact h2 k (by omega) (by omega)
def Adj (rs : List Run) (A B : Run) : Prop := ∃ i, rs[i]? = some A ∧ rs[i + 1]? = some B
theorem firstW_none {rs : List Run} (h : firstW rs = none) {A B : Run} (ab : Adj rs A B) : A.v ≤ B.v := by
  obtain ⟨i, ha, hb⟩ := ab
  have hi : i + 1 < rs.length := (List.getElem?_eq_some_iff.mp hb).1
  have := (foldW_nones _ _ _ h).2 (i + 1) (by omega) (by omega)
  unfold waitK at this
  rw [show i + 1 - 1 = i by omega, ha, hb] at this
  dsimp only at this
  unfold waitR at this
  split at this
  · assumption
  · cases this
theorem firstW_some {rs : List Run} {w : Rat} (h : firstW rs = some w) : (∀ A B, Adj rs A B → B.v < A.v → w ≤ (B.p - A.p) / (A.v - B.v)) ∧ ∃ A B, Adj rs A B ∧ B.v < A.v ∧ w = (B.p - A.p) / (A.v - B.v) := by
  obtain ⟨_, h2, h3⟩ := foldW_least _ _ _ _ h
  constructor
  · rintro A B ⟨i, ha, hb⟩ lt
    have hi : i + 1 < rs.length := (List.getElem?_eq_some_iff.mp hb).1
    refine h2 (i + 1) _ (by omega) (by omega) ?_
    unfold waitK
    rw [show i + 1 - 1 = i by omega, ha, hb]
    dsimp only
    unfold waitR
    rw [if_neg (by grind)]
  · rcases h3 with h3 | ⟨k, k1, k2, e⟩
    · cases h3
    · unfold waitK at e
      split at e
      · rename_i A B ha hb
        refine ⟨A, B, ⟨k - 1, ha, by rw [show k - 1 + 1 = k by omega]; exact hb⟩, ?_⟩
        unfold waitR at e
        split at e
        · cases e
        · rename_i nle
          exact ⟨Rat.not_le.mp nle, (Option.some.inj e).symm⟩
      · cases e
end BD
namespace BD
open PySem L2
section
variable {n m : Nat} {x y : Rat}
theorem BdR.neg (h : BdR n x) : BdR n (-x) := ⟨h.t.neg, h.b⟩
theorem far_w (hx : BdR n x) (hy : BdR m y) (hn : n ≤ 8000) (hm : m ≤ 8000) : m_q_far [shR x, shR y] = some (.val (.int (x.num * y.den - y.num * x.den))) := by
  obtain ⟨s1, s2⟩ := hx.small hn
  obtain ⟨s3, s4⟩ := hy.small hm
  simp [m_q_far, b_q_far, fnSem, sRet, sbnd, eOp, obnd, eVar, eC, ix_R0, ix_R1, ov, i2, mulI, subI, s1, s2, s3, s4]
theorem far_pos' {x y : Rat} : 0 < x.num * y.den - y.num * x.den ↔ y < x := by
  have := Rat.lt_iff y x
  constructor
  · intro h; exact this.mpr (by omega)
  · intro h; have := this.mp h; omega
end
theorem nice_str (s : Nat × Nat) : Nice 2 (strD s) := (nice_tup (k := 0) fun d hd => by
  simp only [List.mem_cons, List.not_mem_nil, or_false] at hd
  rcases hd with rfl | rfl
  · exact nice_int _
  · exact nice_int _).mono (by decide)
end BD
namespace BD
open PySem L2
theorem eqD_cons_nil {k : Nat} {d : D} {ds : List D} (h : Nice k (.lst (d :: ds))) (hk : k ≤ 64) : eqD (.lst (d :: ds)) (.lst []) = some (.bl false) := by
  have h1 := neD_cons_nil h hk
  unfold neD at h1
  unfold eqD
  cases q : eqvD (.lst (d :: ds)) (.lst []) with
  | none => rw [q] at h1; cases h1
  | some b => rw [q] at h1; cases b <;> simp at h1 ⊢
end BD
namespace BD
open PySem L2
def Kn.ln (k : Kn) : List Run := k.rs.map (Run.at (-k.m))
end BD
namespace BD
open PySem L2 TL PySem.StrLaws PySem.NumText
end BD
set_option maxHeartbeats 2500000
namespace BD
open PySem L2
def subL : List Nat → List (List Nat)
  | [] => [[]]
  | x :: l => subL l ++ (subL l).map (x :: ·)
theorem filter_sub (f : Nat → Bool) : ∀ l : List Nat, l.filter f ∈ subL l
  | [] => List.mem_singleton.mpr rfl
  | x :: l => by
    unfold subL
    rw [List.filter_cons]
    cases f x with
    | true => exact List.mem_append_right _ (List.mem_map.mpr ⟨_, filter_sub f l, rfl⟩)
    | false => exact List.mem_append_left _ (filter_sub f l)
def setOkN (l : List Nat) : Bool := decide (setSort true (l.map fun i : Nat => (i : Int)) = some (l.map fun i : Nat => (i : Int))) && decide (setSort false (l.map fun i : Nat => (i : Int)) = some (l.map fun i : Nat => (i : Int)))
theorem all9 : ((subL [0, 1, 2, 3, 4, 5, 6, 7, 8]).all setOkN) = true := by decide +kernel
theorem range_sub {n : Nat} (h : n ≤ 9) (f : Nat → Bool) : (List.range n).filter f ∈ subL [0, 1, 2, 3, 4, 5, 6, 7, 8] := by
  have e : (List.range n).filter f = (List.range 9).filter (fun i => decide (i < n) && f i) := by
    have : List.range 9 = List.range n ++ (List.range 9).drop n := by
      have t : (List.range 9).take n = List.range n := by rw [List.take_range, Nat.min_eq_left h]
      rw [← t, List.take_append_drop]
    rw [this, List.filter_append]
    have z : ((List.range 9).drop n).filter (fun i => decide (i < n) && f i) = [] := by
      refine List.filter_eq_nil_iff.mpr fun i hi => ?_
      have : n ≤ i := by
        obtain ⟨j, hj⟩ := List.mem_iff_getElem?.mp hi
        rw [List.getElem?_drop] at hj
        have := (List.getElem?_eq_some_iff.mp hj).2
        rw [List.getElem_range] at this
        omega
      simp
      omega
    rw [z, List.append_nil]
    refine List.filter_congr fun i hi => ?_
    rw [decide_eq_true (List.mem_range.mp hi), Bool.true_and]
  rw [e]
  exact filter_sub _ [0, 1, 2, 3, 4, 5, 6, 7, 8]
theorem sort_join {n : Nat} (h : n ≤ 9) (f : Nat → Bool) {led : Bool} : setSort led (((List.range n).filter f).map fun i : Nat => (i : Int)) = some (((List.range n).filter f).map fun i : Nat => (i : Int)) := by
  have := List.all_eq_true.mp all9 _ (range_sub h f)
  unfold setOkN at this
  rw [Bool.and_eq_true, decide_eq_true_eq, decide_eq_true_eq] at this
  cases led with
  | true => exact this.1
  | false => exact this.2
end BD
set_option maxHeartbeats 2500000
namespace BD
open PySem L2
def rngN (s : Nat × Nat) : List Nat := List.range' s.1 (s.2 - s.1)
def joinN (ss : List (Nat × Nat)) : List Nat := (ss.map rngN).flatten
def sameAt (rs : List Run) (i : Nat) : Bool := match rs[i]?, rs[i + 1]? with
  | some A, some B => decide (A.p = B.p)
  | _, _ => false
structure PI (rs : List Run) (ps : List (List Run)) : Prop where
  g : Grp ps rs
  hs : (ps.map strOf).Pairwise fun s t => s.2 < t.1
  lt : ∀ p ∈ ps, (strOf p).2 < rs.length ∧ (strOf p).1 + p.length = (strOf p).2 + 1
  last : ∀ q, ps.getLast? = some q → (strOf q).2 + 1 = rs.length
  jo : joinN (ps.map strOf) = (List.range (rs.length - 1)).filter (sameAt rs)
theorem sameAt_old {done : List Run} {R : Run} {i : Nat} (h : i + 1 < done.length) : sameAt (done ++ [R]) i = sameAt done i := by
  unfold sameAt
  rw [List.getElem?_append_left (by omega), List.getElem?_append_left h]
theorem str_snoc {q : List Run} (R : Run) (h : q ≠ []) : strOf (q ++ [R]) = ((strOf q).1, R.b) := by
  unfold strOf
  cases q with
  | nil => exact absurd rfl h
  | cons A q =>
    have : (A :: (q ++ [R])).getLast? = some R := by
      show ((A :: q) ++ [R]).getLast? = some R
      rw [List.getLast?_append]
      rfl
    rw [List.cons_append, this]
    rfl
theorem str_one (R : Run) : strOf [R] = (R.a, R.b) := rfl
theorem joinN_app (a b : List (Nat × Nat)) : joinN (a ++ b) = joinN a ++ joinN b := by
  unfold joinN
  rw [List.map_append, List.flatten_append]
theorem filter_snoc {done : List Run} {R : Run} (ne : done ≠ []) : (List.range ((done ++ [R]).length - 1)).filter (sameAt (done ++ [R])) = (List.range (done.length - 1)).filter (sameAt done) ++ (if sameAt (done ++ [R]) (done.length - 1) then [done.length - 1] else []) := by
  have l1 : 1 ≤ done.length := List.length_pos_iff.mpr ne
  rw [List.length_append, List.length_singleton, show done.length + 1 - 1 = (done.length - 1) + 1 by omega, List.range_succ, List.filter_append]
  congr 1
  · refine List.filter_congr fun i hi => ?_
    have := List.mem_range.mp hi
    exact sameAt_old (by omega)
  · rw [List.filter_cons]
    rfl
theorem PI.step {done : List Run} {ps : List (List Run)} {R : Run} (I : PI done ps) (ha : R.a = done.length) (hb : R.b = done.length) : PI (done ++ [R]) (grp ps R) := by
  have g' := I.g.step R
  rcases grp_cases I.g R with ⟨h, e⟩ | ⟨l, q, A, h, hA, mA, hp, e⟩ | ⟨l, q, A, h, hA, mA, hp, e⟩
  · have d0 : done = [] := by rw [← I.g.cat, h]; rfl
    subst d0
    rw [e] at g' ⊢
    refine ⟨g', by simp, fun p hp => ?_, fun q hq => ?_, ?_⟩
    · rw [List.mem_singleton.mp hp, str_one, ha, hb]
      exact ⟨by simp, by simp⟩
    · have eq' : [R] = q := by simpa using hq
      subst eq'
      rw [str_one, hb]
      rfl
    · unfold joinN rngN
      rw [List.map_singleton, str_one, ha, hb]
      rfl
  all_goals
    have lq : ps.getLast? = some q := by rw [h]; simp
    have ql := I.last q lq
    obtain ⟨S, hS, mS⟩ := last_of (I.g.ne q (by rw [h]; simp))
    have eS : done.getLast? = some S := by
      rw [← I.g.cat, h, List.flatten_append]
      have : [q].flatten = q := by simp
      rw [this, List.getLast?_append, hS]
      rfl
    have ne : done ≠ [] := fun z => by rw [z] at eS; cases eS
    have l1 : 1 ≤ done.length := List.length_pos_iff.mpr ne
    have pS : S.p = A.p := I.g.same q (by rw [h]; simp) S mS A mA
    have sm : sameAt (done ++ [R]) (done.length - 1) = decide (A.p = R.p) := by
      unfold sameAt
      rw [List.getElem?_append_left (by omega), show done.length - 1 + 1 = done.length by omega, ← List.getLast?_eq_getElem?, eS]
      simp [pS]
    have fs := filter_snoc (R := R) ne
    rw [sm] at fs
  · rw [e] at g' ⊢
    refine ⟨g', ?_, fun p hp' => ?_, fun q' hq => ?_, ?_⟩
    · rw [List.map_append, List.pairwise_append]
      refine ⟨I.hs, by simp, fun s hs t ht => ?_⟩
      obtain ⟨p, hp', rfl⟩ := List.mem_map.mp hs
      rw [List.map_singleton, List.mem_singleton] at ht
      subst ht
      rw [str_one, ha]
      exact (I.lt p hp').1
    · rw [List.length_append, List.length_singleton]
      rcases List.mem_append.mp hp' with hp' | hp'
      · have := I.lt p hp'
        exact ⟨by omega, this.2⟩
      · rw [List.mem_singleton.mp hp', str_one, ha, hb]
        exact ⟨by simp, by simp⟩
    · have eq' : [R] = q' := by simpa using hq
      subst eq'
      rw [str_one, hb, List.length_append, List.length_singleton]
    · rw [fs, if_neg (by simp [hp]), List.append_nil, List.map_append, joinN_app, I.jo, List.map_singleton]
      unfold joinN rngN
      rw [List.map_singleton, str_one, ha, hb]
      simp
  · rw [e] at g' ⊢
    have neq : q ≠ [] := I.g.ne q (by rw [h]; simp)
    have es : strOf (q ++ [R]) = ((strOf q).1, done.length) := by rw [str_snoc R neq, hb]
    have lq' := I.lt q (by rw [h]; simp)
    have I1 := I.hs
    rw [h, List.map_append, List.pairwise_append, List.map_singleton] at I1
    have jo := I.jo
    rw [h, List.map_append, joinN_app, List.map_singleton] at jo
    have jq : ∀ s, joinN [s] = rngN s := fun s => by simp [joinN]
    have qpos : 1 ≤ q.length := List.length_pos_iff.mpr neq
    refine ⟨g', ?_, fun p hp' => ?_, fun q' hq => ?_, ?_⟩
    · rw [List.map_append, List.pairwise_append, List.map_singleton, es]
      refine ⟨I1.1, by simp, fun s hs t ht => ?_⟩
      rw [List.mem_singleton] at ht
      subst ht
      exact I1.2.2 s hs (strOf q) (List.mem_singleton.mpr rfl)
    · rw [List.length_append, List.length_singleton]
      rcases List.mem_append.mp hp' with hp' | hp'
      · have := I.lt p (by rw [h]; exact List.mem_append_left _ hp')
        exact ⟨by omega, this.2⟩
      · rw [List.mem_singleton.mp hp', es, List.length_append, List.length_singleton]
        exact ⟨by show done.length < _; omega, by show (strOf q).1 + (q.length + 1) = done.length + 1; omega⟩
    · have eq' : q ++ [R] = q' := by simpa using hq
      subst eq'
      rw [es, List.length_append, List.length_singleton]
    · rw [fs, if_pos (by simp [hp]), ← jo, List.map_append, joinN_app, List.map_singleton, es, jq, jq, List.append_assoc]
      congr 1
      unfold rngN
      show List.range' (strOf q).1 (done.length - (strOf q).1) = List.range' (strOf q).1 ((strOf q).2 - (strOf q).1) ++ [done.length - 1]
      rw [show done.length - (strOf q).1 = ((strOf q).2 - (strOf q).1) + 1 by omega, List.range'_concat]
      congr 2
      omega
theorem parts_PI {rs : List Run} (ha : ∀ (i : Nat) (R : Run), rs[i]? = some R → R.a = i ∧ R.b = i) : PI rs (parts rs) := by
  have h : ∀ (q done : List Run), rs = done ++ q → PI done (parts done) → PI rs (parts rs) := fun q => by
    induction q with
    | nil => intro done e I; rw [List.append_nil] at e; rw [e]; exact I
    | cons R q ih =>
      intro done e I
      have hr := ha done.length R (by rw [e]; simp)
      refine ih (done ++ [R]) (by rw [e]; simp) ?_
      rw [parts_snoc]
      exact I.step hr.1 hr.2
  exact h rs [] rfl ⟨.nil, .nil, (fun _ z => nomatch z), (fun _ z => by cases z), rfl⟩
theorem join_mets {rs : List Run} {ps : List (List Run)} (I : PI rs ps) : joinN (mets ps) = joinN (ps.map strOf) := by
  have : ∀ qs : List (List Run), (∀ p ∈ qs, p ∈ ps) → joinN (mets qs) = joinN (qs.map strOf) := fun qs => by
    induction qs with
    | nil => intro _; rfl
    | cons p qs ih =>
      intro h
      have ih := ih fun q hq => h q (List.mem_cons_of_mem _ hq)
      have lp := I.lt p (h p (List.mem_cons_self ..))
      unfold mets at ih ⊢
      rw [List.filter_cons]
      by_cases c : 1 < p.length
      · rw [if_pos (by simpa using c), List.map_cons, List.map_cons]
        show joinN ([strOf p] ++ _) = joinN ([strOf p] ++ _)
        rw [joinN_app, joinN_app, ih]
      · rw [if_neg (by simpa using c), List.map_cons]
        show _ = joinN ([strOf p] ++ _)
        rw [joinN_app, ih]
        have np : 1 ≤ p.length := List.length_pos_iff.mpr (I.g.ne p (h p (List.mem_cons_self ..)))
        have : joinN [strOf p] = [] := by
          unfold joinN rngN
          rw [List.map_singleton, show (strOf p).2 - (strOf p).1 = 0 by omega]
          rfl
        rw [this, List.nil_append]
  exact this ps fun _ h => h
theorem mets_in {rs : List Run} {ps : List (List Run)} (I : PI rs ps) {s : Nat × Nat} (h : s ∈ mets ps) : s.1 < s.2 ∧ s.2 < rs.length := by
  obtain ⟨p, hp, rfl⟩ := List.mem_map.mp h
  obtain ⟨h1, h2⟩ := List.mem_filter.mp hp
  have := I.lt p h1
  have h2 : 1 < p.length := of_decide_eq_true h2
  omega
theorem mets_pw {rs : List Run} {ps : List (List Run)} (I : PI rs ps) : (mets ps).Pairwise fun s t => s.2 < t.1 := by
  unfold mets
  exact I.hs.sublist (List.Sublist.map _ List.filter_sublist)
theorem ends_off {ss : List (Nat × Nat)} (pw : ss.Pairwise fun s t => s.2 < t.1) (lt : ∀ s ∈ ss, s.1 < s.2) : ∀ s ∈ ss, ∀ t ∈ ss, s.1 ≠ t.2 := by
  induction ss with
  | nil => intro s hs; cases hs
  | cons x ss ih =>
    rw [List.pairwise_cons] at pw
    have ih := ih pw.2 fun s hs => lt s (List.mem_cons_of_mem _ hs)
    intro s hs t ht
    have hx := lt x (List.mem_cons_self ..)
    rcases List.mem_cons.mp hs with e1 | h1
    · rcases List.mem_cons.mp ht with e2 | h2
      · rw [e1, e2]; omega
      · have := pw.1 t h2; have := lt t (List.mem_cons_of_mem _ h2); rw [e1]; omega
    · rcases List.mem_cons.mp ht with e2 | h2
      · have := pw.1 s h1; have := lt s (List.mem_cons_of_mem _ h1); rw [e2]; omega
      · exact ih s h1 t h2
end BD
set_option maxHeartbeats 2500000
namespace BD
open PySem L2
theorem mF0_of {is : List Nat} {f : EvL} {ρ ρ' : Rho} {M : Mem} {ds : List D} (hρ : seeR (see0 M 4) is 0 ρ = ρ') (h : f ρ' = some (.vals ds)) (k : flatDs ds = true) : mF0 is f ρ M = some (.val (.lst ds), M) := by
  unfold mF0
  rw [hρ, h]
  dsimp only
  rw [if_pos k]
theorem flat_map {α : Type} {F : α → D} (h : ∀ x, flatD (F x) = true) : ∀ xs : List α, flatDs (xs.map F) = true
  | [] => rfl
  | x :: xs => by
    show (flatD (F x) && flatDs (xs.map F)) = true
    rw [h x, flat_map h xs]
    rfl
theorem flOs_ints : ∀ ns : List Int, flOs (ns.map D.int) = some (ns.map V.int)
  | [] => rfl
  | n :: ns => by
    show (match flO (.int n), flOs (ns.map D.int) with | some v, some vs => some (v :: vs) | _, _ => none) = _
    rw [flOs_ints ns]
    rfl
theorem in_ints (x : Int) (ns : List Int) : inD false (.int x) (.lst (ns.map D.int)) = some (.bl (ns.any fun y => y == x)) := by
  have h2 : (seqO (.lst (ns.map D.int))).bind flOs = some (ns.map V.int) := flOs_ints ns
  unfold inD
  rw [h2]
  show some (D.bl (inV (.int x) (ns.map V.int))) = _
  congr 2
  unfold inV
  rw [List.any_map]
  congr 1
theorem neD_bl (a b : Bool) : neD (.bl a) (.bl b) = some (.bl (!(a == b))) := by cases a <;> cases b <;> rfl
def clo (r : List Bead) (i : Nat) : Bool := match r[i]?, r[i + 1]? with
  | some a, some b => decide (b.v < a.v)
  | _, _ => false
theorem clo_none {r : List Bead} (h : firstW (runsOf r) = none) (i : Nat) : clo r i = false := by
  unfold clo
  cases ha : r[i]? with
  | none => rfl
  | some a =>
    cases hb : r[i + 1]? with
    | none => rfl
    | some b =>
      have := firstW_none h ⟨i, runsOf_at ha, runsOf_at hb⟩
      have this : a.v ≤ b.v := this
      dsimp only
      rw [decide_eq_false (Rat.not_lt.mpr this)]
theorem clo_some {r : List Bead} (g : GR r) {w : Rat} (h : firstW (runsOf r) = some w) : ∃ i a b, i + 1 < r.length ∧ r[i]? = some a ∧ r[i + 1]? = some b ∧ clo r i = true ∧ a.x + a.v * w = b.x + b.v * w ∧ 0 < w := by
  obtain ⟨_, A, B, ⟨i, hA, hB⟩, lt, e⟩ := firstW_some h
  have li : i + 1 < r.length := by have := (List.getElem?_eq_some_iff.mp hB).1; rw [runsOf_len] at this; exact this
  obtain ⟨a, ha, _⟩ := get_lt (xs := r) (i := i) (by omega)
  obtain ⟨b, hb, _⟩ := get_lt li
  have eA := runsOf_at ha
  have eB := runsOf_at hb
  rw [hA] at eA
  rw [hB] at eB
  cases Option.some.inj eA
  cases Option.some.inj eB
  have lt : b.v < a.v := lt
  have e : w = (b.x - a.x) / (a.v - b.v) := e
  have dz : a.v - b.v ≠ 0 := by grind
  have key : w * (a.v - b.v) = b.x - a.x := by rw [e]; exact Rat.div_mul_cancel dz
  have rise := g.rise i a b ha hb
  have pos : 0 < w := by
    rw [e, Rat.div_def]
    exact Rat.mul_pos (by grind) (Rat.inv_pos.mpr (by grind))
  refine ⟨i, a, b, li, ha, hb, ?_, by grind, pos⟩
  unfold clo
  rw [ha, hb]
  dsimp only
  rw [decide_eq_true lt]
abbrev asW (r : List Bead) (w : Rat) : List Run := (runsOf r).map (Run.at w)
theorem asW_at {r : List Bead} {w : Rat} {i : Nat} {b : Bead} (h : r[i]? = some b) : (asW r w)[i]? = some ⟨i, i, b.x + b.v * w, b.v⟩ := by
  unfold asW
  rw [List.getElem?_map, runsOf_at h]
  rfl
theorem asW_ix {r : List Bead} {w : Rat} (i : Nat) (R : Run) (h : (asW r w)[i]? = some R) : R.a = i ∧ R.b = i := by
  have li : i < r.length := by
    have := (List.getElem?_eq_some_iff.mp h).1
    unfold asW at this
    rw [List.length_map, runsOf_len] at this
    exact this
  obtain ⟨b, hb, _⟩ := get_lt li
  rw [asW_at hb] at h
  cases h
  exact ⟨rfl, rfl⟩
theorem asW_len {r : List Bead} {w : Rat} : (asW r w).length = r.length := by
  unfold asW
  rw [List.length_map, runsOf_len]
theorem asW_le {r : List Bead} (g : GR r) {w : Rat} (h : firstW (runsOf r) = some w) {i : Nat} {a b : Bead} (ha : r[i]? = some a) (hb : r[i + 1]? = some b) : a.x + a.v * w ≤ b.x + b.v * w := by
  have rise := g.rise i a b ha hb
  obtain ⟨_, _, _, _, _, _, _, _, w0⟩ := clo_some g h
  by_cases c : b.v < a.v
  · have := (firstW_some h).1 _ _ ⟨i, runsOf_at ha, runsOf_at hb⟩ c
    have this : w ≤ (b.x - a.x) / (a.v - b.v) := this
    have dz : 0 < a.v - b.v := by grind
    have k := Rat.mul_le_mul_of_nonneg_right this (Rat.le_of_lt dz)
    rw [Rat.div_mul_cancel (by grind)] at k
    grind
  · have c : a.v ≤ b.v := Rat.not_lt.mp c
    have := Rat.mul_le_mul_of_nonneg_right c (Rat.le_of_lt w0)
    grind
theorem mets_some {r : List Bead} (g : GR r) {w : Rat} (h : firstW (runsOf r) = some w) : mets (parts (asW r w)) ≠ [] := by
  obtain ⟨i, a, b, li, ha, hb, _, eq, _⟩ := clo_some g h
  have I := parts_PI (rs := asW r w) asW_ix
  intro z
  have j := join_mets I
  rw [z, I.jo, asW_len] at j
  have m : i ∈ (List.range (r.length - 1)).filter (sameAt (asW r w)) := by
    refine List.mem_filter.mpr ⟨List.mem_range.mpr (by omega), ?_⟩
    unfold sameAt
    rw [asW_at ha, asW_at hb]
    dsimp only
    rw [decide_eq_true eq]
  rw [← j] at m
  cases m
theorem met_L {ps : List (List Run)} (ne : ∀ p ∈ ps, p ≠ []) (hl : ps.length ≤ 1000) (M : Mem) : M_met_stretches_L [.lst (ps.map pD)] M = some (.val (.cell M.length), M ++ [.lst ((mets ps).map strD)]) := by
  have e := lComp_filter (f := wSeq (eVar 0)) (g := gNm 1) (q := eOp (i2 gtI) (eB lenB (aCons (eVar 1) aNil)) (eC (.int 1))) (e := eCall m_part_stretch (aCons (eVar 1) aNil)) (vs := [1]) (ρ := [some (.sh (.lst (ps.map pD))), none]) (F := pD) (xs := ps) (h := fun p => strD (strOf p)) (tb := fun p => decide (1 < p.length)) (seq_of rfl) hl fun p hp => ⟨[some (.sh (.lst (ps.map pD))), some (.sh (pD p))], rfl, by
    refine op_of (len_of (ds := p.map runD) rfl) rfl ?_
    show some (D.bl (decide ((1 : Int) < ((p.map runD).length : Int)))) = _
    rw [List.length_map]
    congr 2
    rw [decide_eq_decide]
    omega, fun _ => call1 rfl (part_stretch_ok (ne p hp))⟩
  have e2 : (ps.filter fun p => decide (1 < p.length)).map (fun p => strD (strOf p)) = (mets ps).map strD := by
    unfold mets
    rw [List.map_map]
    rfl
  rw [e2] at e
  unfold M_met_stretches_L B_met_stretches_L
  exact mfn_rt rfl rfl (mret_of (mnew_of e))
theorem first_L {r : List Bead} (g : GR r) (M : Mem) : (firstW (runsOf r) = none → M_first_meet_L [rowD r] M = some (.val .non, M) ∧ m_first_meet [rowD r] = some (.val .non)) ∧
    ∀ w, firstW (runsOf r) = some w → M_first_meet_L [rowD r] M = some (.val (.tup [shR w, .cell M.length]), M ++ [.lst ((mets (parts (asW r w))).map strD)]) ∧ m_first_meet [rowD r] = some (.val (.tup [shR w, .lst ((mets (parts (asW r w))).map strD)])) := by
  have ten := g.ten
  have brs := brs_of (r := r) g.good
  have lr := runsOf_len (r := r)
  have f := first_ok brs (by decide) (by have := g.one; omega) (by omega)
  refine ⟨fun e => ?_, fun w e => ?_⟩
  · rw [e] at f
    constructor
    · unfold M_first_meet_L B_first_meet_L
      exact mfn_rt rfl rfl (mseq_nx (mexpr_of (mL_of (o := .val .non) (call1 rfl (need_row_ok g)))) (mseq_nx (mset_of (i := 1) (mL_of (o := .val _) (call1 rfl (runs_of_ok ten)))) (mseq_nx (mset_of (i := 2) (mL_of (o := .val .non) (call1 rfl f))) (mseq_rt (mifS_yes (mQ0_of rfl (o := .val (.bl true)) (op_of rfl rfl rfl)) (mret_of (mL_of (o := .val .non) rfl)))))))
    · unfold m_first_meet b_first_meet
      exact fn_rt rfl rfl (seq_nx (expr_of (d := .non) (call1 rfl (need_row_ok g))) (seq_nx (set_of (i := 1) (call1 rfl (runs_of_ok ten))) (seq_nx (set_of (i := 2) (d := .non) (call1 rfl f)) (seq_rt (if_yes (op_of rfl rfl rfl) (ret_of rfl))))))
  · rw [e] at f
    have bw := firstW_bd brs e
    have mv := moved_ok brs bw (by decide) (by omega)
    have lrs : (asW r w).length = r.length := asW_len
    have bp := by_places_ok (rs := asW r w) (by omega)
    have lp := grp_len (parts_grp (asW r w))
    have ms := met_stretches_ok (ps := parts (asW r w)) (parts_grp _).ne (by omega)
    constructor
    · have msL := met_L (ps := parts (asW r w)) (parts_grp _).ne (by omega) M
      unfold M_first_meet_L B_first_meet_L
      exact mfn_rt rfl rfl (mseq_nx (mexpr_of (mL_of (o := .val .non) (call1 rfl (need_row_ok g)))) (mseq_nx (mset_of (i := 1) (mL_of (o := .val _) (call1 rfl (runs_of_ok ten)))) (mseq_nx (mset_of (i := 2) (mL_of (o := .val (shR w)) (call1 rfl f))) (mseq_nx (mifN (mQ0_of rfl (o := .val (.bl false)) (op_of rfl rfl rfl))) (mret_of (mtup_of (mcons_of (mL_of (o := .val (shR w)) rfl) (mcons_of (mcall_of (mcons_of (mL_of (o := .val _) (call1 (call2 rfl rfl mv) bp)) mnil_of) msL) mnil_of)) rfl))))))
    · unfold m_first_meet b_first_meet
      exact fn_rt rfl rfl (seq_nx (expr_of (d := .non) (call1 rfl (need_row_ok g))) (seq_nx (set_of (i := 1) (call1 rfl (runs_of_ok ten))) (seq_nx (set_of (i := 2) (d := shR w) (call1 rfl f)) (seq_nx (if_no (op_of rfl rfl rfl)) (ret_of (tup2_of rfl (call1 (call1 (call2 rfl rfl mv) bp) ms)))))))
end BD
namespace BD
open PySem L2
theorem there_ok {n m : Nat} {p v t : Rat} (h1 : BdR n p) (h2 : BdR n v) (ht : BdR m t) (hs : n + n + m ≤ 7900) : m_q_there [.tup [shR p, shR v], shR t] = some (.val (shR (p + v * t))) := by
  have e1 := q_by_R h2 ht (by omega)
  have e2 := q_sum_R h1 (h2.mul ht) (by omega)
  unfold m_q_there b_q_there
  exact fn_rt rfl rfl (ret_of (call2 (op_of rfl rfl rfl) (call2 (op_of rfl rfl rfl) rfl e1) e2))
theorem nice_bead (b : Bead) : Nice 2 (bD b) := nice_tup fun d hd => by
  simp only [List.mem_cons, List.not_mem_nil, or_false] at hd
  rcases hd with rfl | rfl | rfl
  · exact (nice_int _).mono (by decide)
  · exact nice_R _
  · exact nice_R _
abbrev hρ (r : List Bead) (z2 z3 z4 z5 z6 z7 z8 z9 z10 : Option D) : Rho := [some (.sh (rowD r)), some (.sh (rowD r)), os z2, os z3, os z4, os z5, os z6, os z7, os z8, os z9, os z10, none, none]
theorem noOwn_h (r : List Bead) (z2 z3 z4 z5 z6 z7 z8 z9 z10 : Option D) : noOwn (hρ r z2 z3 z4 z5 z6 z7 z8 z9 z10) = true := by
  unfold hρ
  simp only [noOwn_os, noOwn_sh, noOwn_no]
  rfl
def natL (l : List Nat) : List D := (l.map fun i : Nat => (i : Int)).map D.int
theorem rng_nat (s : Nat × Nat) : rngD (s.1 : Int) 1 ((s.2 : Int) - (s.1 : Int)).toNat = natL (rngN s) := by
  unfold rngD natL rngN
  rw [show ((s.2 : Int) - (s.1 : Int)).toNat = s.2 - s.1 by omega, List.range'_eq_map_range, List.map_map, List.map_map]
  refine List.map_congr_left fun k _ => ?_
  show D.int _ = D.int _
  congr 1
  simp
theorem lRng_of {fa fb : Ev} {ρ : Rho} {i j : Nat} (h1 : fa ρ = some (.val (.int (i : Int)))) (h2 : fb ρ = some (.val (.int (j : Int)))) (hi : i ≤ j) (hj : j ≤ 1000) : lRngL (aCons fa (aCons fb aNil)) ρ = some (.vals (rngD (i : Int) 1 ((j : Int) - (i : Int)).toNat)) := by
  have c1 := big_few (n := i) (by omega)
  have c2 := big_few hj
  have c3 : decide (((j : Int) - (i : Int)).toNat ≤ 1000) = true := decide_eq_true (by omega)
  unfold lRngL lbndL
  rw [two_of h1 h2]
  dsimp only
  rw [c1, c2, c3]
  rfl
theorem join_for {r : List Bead} {M : Mem} {e : Nat} {st : List (Nat × Nat)} (hM : M[e]? = some (.lst (st.map strD))) (sm : ∀ s ∈ st, s.1 ≤ s.2 ∧ s.2 ≤ 1000) (hl : (joinN st).length ≤ 1000) {z2 z3 z4 z6 z7 z10 : Option D} : ∀ (j f i : Nat) (z8 z9 : Option D), st.length = i + j → j < f →
    ∃ y8 y9, forC e (gTp (gsCons (gNm 8) (gsCons (gNm 9) gsNil))) L1_q_right f i (hρ r z2 z3 z4 (some (.lst (natL (joinN (st.take i))))) z6 z7 z8 z9 z10) M = some (.nx (hρ r z2 z3 z4 (some (.lst (natL (joinN st)))) z6 z7 y8 y9 z10), M)
  | j, 0, i, z8, z9, _, hf => absurd hf (Nat.not_lt_zero _)
  | 0, f + 1, i, z8, z9, hi, _ => by
    refine ⟨z8, z9, ?_⟩
    unfold forC
    rw [hM]
    dsimp only
    rw [List.getElem?_eq_none (by rw [List.length_map]; omega), List.take_of_length_le (by omega)]
  | j + 1, f + 1, i, z8, z9, hi, hf => by
    obtain ⟨s, hs, ms⟩ := get_lt (xs := st) (i := i) (by omega)
    have tk : st.take (i + 1) = st.take i ++ [s] := by
      rw [List.take_add_one, hs]
      rfl
    obtain ⟨y8, y9, ih⟩ := join_for hM sm hl (z2 := z2) (z3 := z3) (z4 := z4) (z6 := z6) (z7 := z7) (z10 := z10) j f (i + 1) (some (.int (s.1 : Int))) (some (.int (s.2 : Int))) (by omega) (by omega)
    refine ⟨y8, y9, ?_⟩
    have cut : st = st.take i ++ [s] ++ st.drop (i + 1) := by rw [← tk, List.take_append_drop]
    have tot : (joinN (st.take i)).length + (rngN s).length ≤ 1000 := by
      have := congrArg (fun x => (joinN x).length) cut
      simp only [joinN_app, List.length_append] at this
      have z : joinN [s] = rngN s := by simp [joinN]
      rw [z] at this
      omega
    have nl : ∀ l : List Nat, (natL l).length = l.length := fun l => by unfold natL; rw [List.length_map, List.length_map]
    have l1 : (natL (joinN (st.take i))).length ≤ 1000 := by rw [nl]; omega
    have l2 : (natL (rngN s)).length ≤ 1000 := by rw [nl]; omega
    have jn : natL (joinN (st.take i)) ++ natL (rngN s) = natL (joinN (st.take (i + 1))) := by
      rw [tk, joinN_app]
      have z : joinN [s] = rngN s := by simp [joinN]
      rw [z]
      unfold natL
      rw [List.map_append, List.map_append]
    have rl : eFr (lRngL (aCons (eVar 8) (aCons (eVar 9) aNil))) (hρ r z2 z3 z4 (some (.lst (natL (joinN (st.take i))))) z6 z7 (some (.int (s.1 : Int))) (some (.int (s.2 : Int))) z10) = some (.val (.lst (natL (rngN s)))) := by
      have b1 := sm s ms
      exact eFr_of ((lRng_of (i := s.1) (j := s.2) rfl rfl b1.1 b1.2).trans (by rw [rng_nat]))
    have body : L1_q_right (hρ r z2 z3 z4 (some (.lst (natL (joinN (st.take i))))) z6 z7 (some (.int (s.1 : Int))) (some (.int (s.2 : Int))) z10) M = some (.nx (hρ r z2 z3 z4 (some (.lst (natL (joinN (st.take (i + 1)))))) z6 z7 (some (.int (s.1 : Int))) (some (.int (s.2 : Int))) z10), M) := by
      have ev : eFr (lCat (eVar 5) (eFr (lRngL (aCons (eVar 8) (aCons (eVar 9) aNil))))) (hρ r z2 z3 z4 (some (.lst (natL (joinN (st.take i))))) z6 z7 (some (.int (s.1 : Int))) (some (.int (s.2 : Int))) z10) = some (.val (.lst (natL (joinN (st.take (i + 1)))))) := by
        rw [← jn]
        exact eFr_of (cat_of (xs := natL (joinN (st.take i))) (ys := natL (rngN s)) rfl rl l1 l2)
      unfold L1_q_right
      exact mset_of (i := 5) (mL_of ev)
    unfold forC
    rw [hM]
    dsimp only
    rw [List.getElem?_map, hs]
    dsimp only [Option.map_some]
    rw [show gTp (gsCons (gNm 8) (gsCons (gNm 9) gsNil)) (strD s) (hρ r z2 z3 z4 (some (.lst (natL (joinN (st.take i))))) z6 z7 z8 z9 z10) = some (hρ r z2 z3 z4 (some (.lst (natL (joinN (st.take i))))) z6 z7 (some (.int (s.1 : Int))) (some (.int (s.2 : Int))) z10) from by cases z8 <;> cases z9 <;> rfl]
    dsimp only
    rw [if_pos (noOwn_h ..), body]
    exact ih
theorem cmp_zero {p q : Rat} (h : p ≤ q) : (p.num * q.den - q.num * p.den == 0) = decide (p = q) := by
  by_cases e : p = q
  · subst e
    rw [decide_eq_true rfl]
    simp
  · rw [decide_eq_false e]
    have lt : p < q := by
      apply Classical.byContradiction
      intro z
      exact e (Rat.le_antisymm h (Rat.not_lt.mp z))
    have := far_pos'.mpr lt
    rw [beq_eq_false_iff_ne]
    omega
theorem natL_any {l : List Nat} {i : Nat} : ((l.map fun i : Nat => (i : Int)).any fun y => y == (i : Int)) = decide (i ∈ l) := by
  induction l with
  | nil => simp
  | cons x l ih =>
    rw [List.map_cons, List.any_cons, ih]
    by_cases e : x = i
    · subst e; simp
    · have : ((x : Int) == (i : Int)) = false := by rw [beq_eq_false_iff_ne]; omega
      rw [this]
      have e' : ¬ i = x := fun z => e z.symm
      simp [e']
theorem at_for {r : List Bead} (g : GR r) {w : Rat} (hw : firstW (runsOf r) = some w) {M : Mem} {J : List Nat} (hJ : J = (List.range (r.length - 1)).filter (sameAt (asW r w))) {z2 z3 z7 z8 z9 : Option D} : ∀ (k i : Nat) (z6 z10 : Option D), i + k = r.length - 1 →
    ∃ y6 y10, forM (gNm 6) L2_q_right ((List.range' i k).map fun k : Nat => D.int ((k : Nat) : Int)) (hρ r z2 z3 (some (.lst ((asW r w).map fun R => shR R.p))) (some (.lst (natL J))) z6 z7 z8 z9 z10) M = some (.nx (hρ r z2 z3 (some (.lst ((asW r w).map fun R => shR R.p))) (some (.lst (natL J))) y6 z7 z8 z9 y10), M)
  | 0, i, z6, z10, _ => ⟨z6, z10, rfl⟩
  | k + 1, i, z6, z10, h => by
    obtain ⟨a, ha, ma⟩ := get_lt (xs := r) (i := i) (by omega)
    obtain ⟨b, hb, mb⟩ := get_lt (xs := r) (i := i + 1) (by omega)
    have bw := firstW_bd (brs_of (r := r) g.good) hw
    have ga := g.good a ma
    have gb := g.good b mb
    have pa : BdR 200 (a.x + a.v * w) := (ga.x.bd.add (ga.v.bd.mul bw)).mono (by decide)
    have pb : BdR 200 (b.x + b.v * w) := (gb.x.bd.add (gb.v.bd.mul bw)).mono (by decide)
    have far := far_w pa pb (by decide) (by decide)
    have le := asW_le g hw ha hb
    generalize hG : (a.x + a.v * w).num * (b.x + b.v * w).den - (b.x + b.v * w).num * (a.x + a.v * w).den = G at far
    have eq := cmp_zero le
    rw [hG] at eq
    have ng : ¬ 0 < G := fun z => by
      rw [← hG] at z
      have := far_pos'.mp z
      grind
    obtain ⟨y6, y10, ih⟩ := at_for g hw (M := M) hJ (z2 := z2) (z3 := z3) (z7 := z7) (z8 := z8) (z9 := z9) k (i + 1) (some (.int (i : Int))) (some (.int G)) (by omega)
    refine ⟨y6, y10, ?_⟩
    rw [List.range'_succ, List.map_cons]
    refine mfor_cons (ρ1 := hρ r z2 z3 (some (.lst ((asW r w).map fun R => shR R.p))) (some (.lst (natL J))) (some (.int (i : Int))) z7 z8 z9 z10) (ρ2 := hρ r z2 z3 (some (.lst ((asW r w).map fun R => shR R.p))) (some (.lst (natL J))) (some (.int (i : Int))) z7 z8 z9 (some (.int G))) rfl (noOwn_h ..) ?_ ih
    have mem : ((J.map fun i : Nat => (i : Int)).any fun y => y == (i : Int)) = decide (a.x + a.v * w = b.x + b.v * w) := by
      rw [natL_any, hJ]
      refine decide_eq_decide.mpr ?_
      rw [List.mem_filter, List.mem_range]
      unfold sameAt
      rw [asW_at ha, asW_at hb]
      dsimp only
      rw [decide_eq_true_eq]
      exact ⟨fun z => z.2, fun z => ⟨by omega, z⟩⟩
    unfold L2_q_right
    refine mseq_nx (ρ' := hρ r z2 z3 (some (.lst ((asW r w).map fun R => shR R.p))) (some (.lst (natL J))) (some (.int (i : Int))) z7 z8 z9 (some (.int G))) (mset_of (i := 10) (mL_of (o := .val (.int G)) (call2 (op_of rfl rfl (ix_map (f := fun R : Run => shR R.p) (asW_at ha))) (op_of rfl (op_of rfl rfl (d3 := .int ((i + 1 : Nat) : Int)) rfl) (ix_map (f := fun R : Run => shR R.p) (asW_at hb))) far))) ?_
    refine mifN (mQ0_of rfl (o := .val (.bl false)) (or_of (op_of rfl rfl ?_) (op_of (op_of rfl rfl (eqD_int G 0)) (op_of rfl rfl (in_ints (i : Int) (J.map fun i : Nat => (i : Int)))) ?_)))
    · simp only [i2, gtI]
      rw [decide_eq_false ng]
    · rw [neD_bl, eq, mem]
      simp
end BD
namespace BD
open PySem L2
theorem nice_sts (st : List (Nat × Nat)) : Nice 3 (.lst (st.map strD)) := nice_map nice_str
theorem nice_fm (w : Rat) (st : List (Nat × Nat)) : Nice 4 (.tup [shR w, .lst (st.map strD)]) := nice_tup fun d hd => by
  simp only [List.mem_cons, List.not_mem_nil, or_false] at hd
  rcases hd with rfl | rfl
  · exact (nice_R _).mono (by decide)
  · exact nice_sts _
theorem see0_fm {M : Mem} {e : Nat} {m : Rat} {st : List (Nat × Nat)} (h : M[e]? = some (.lst (st.map strD))) : see0 M 4 (.tup [shR m, .cell e]) = .tup [shR m, .lst (st.map strD)] := by
  show D.tup [see0 M 3 (shR m), see0 M 3 (.cell e)] = _
  rw [see0_R]
  congr 3
  show (match M[e]? with | some (.ins m k fs) => _ | some (.lst ds) => _ | _ => _) = _
  rw [h]
  show D.lst ((st.map strD).map (see0 M 2)) = _
  congr 1
  rw [List.map_map]
  refine List.map_congr_left fun s _ => ?_
  rfl
theorem see0_fm2 {M : Mem} {e : Nat} {m : Rat} {st : List (Nat × Nat)} (h : M[e]? = some (.lst (st.map strD ++ [.int 0]))) : see0 M 4 (.tup [shR m, .cell e]) = .tup [shR m, .lst (st.map strD ++ [.int 0])] := by
  show D.tup [see0 M 3 (shR m), see0 M 3 (.cell e)] = _
  rw [see0_R]
  congr 3
  show (match M[e]? with | some (.ins m k fs) => _ | some (.lst ds) => _ | _ => _) = _
  rw [h]
  show D.lst ((st.map strD ++ [D.int 0]).map (see0 M 2)) = _
  congr 1
  rw [List.map_append, List.map_map]
  congr 1
theorem faster_ev {r : List Bead} (g : GR r) {z2 z3 z4 z5 z7 z8 z9 z10 : Option D} : eFr (lComp (wRng1 (aCons (eOp (i2 subI) (eB lenB (aCons (eVar 0) aNil)) (eC (.int 1))) aNil)) (gNm 6) (eOp (i2 gtI) (eCall m_q_far (aCons (eOp ixD (eOp ixD (eVar 0) (eVar 6)) (eC (.int 2))) (aCons (eOp ixD (eOp ixD (eVar 0) (eOp (i2 addI) (eVar 6) (eC (.int 1)))) (eC (.int 2))) aNil))) (eC (.int 0))) (eVar 6) [6]) (hρ r z2 z3 z4 z5 none z7 z8 z9 z10) = some (.val (.lst (natL ((List.range' 0 (r.length - 1)).filter (clo r))))) := by
  have ten := g.ten
  have one := g.one
  have e := lComp_filter (f := wRng1 (aCons (eOp (i2 subI) (eB lenB (aCons (eVar 0) aNil)) (eC (.int 1))) aNil)) (g := gNm 6) (q := eOp (i2 gtI) (eCall m_q_far (aCons (eOp ixD (eOp ixD (eVar 0) (eVar 6)) (eC (.int 2))) (aCons (eOp ixD (eOp ixD (eVar 0) (eOp (i2 addI) (eVar 6) (eC (.int 1)))) (eC (.int 2))) aNil))) (eC (.int 0))) (e := eVar 6) (vs := [6]) (ρ := hρ r z2 z3 z4 z5 none z7 z8 z9 z10) (F := fun i : Nat => D.int (i : Int)) (xs := List.range' 0 (r.length - 1)) (h := fun i : Nat => D.int (i : Int)) (tb := clo r)
    (wRng1_of (n := r.length - 1) (op_of (len_of (ds := r.map bD) rfl) rfl (by
      rw [List.length_map]
      simp only [i2, subI]
      congr 2
      omega)) (by omega)) (by rw [List.length_range']; omega) fun i hi => by
    have hi := List.mem_range'_1.mp hi
    obtain ⟨a, ha, ma⟩ := get_lt (xs := r) (i := i) (by omega)
    obtain ⟨b, hb, mb⟩ := get_lt (xs := r) (i := i + 1) (by omega)
    have far := far_w (g.good a ma).v.bd (g.good b mb).v.bd (by decide) (by decide)
    refine ⟨hρ r z2 z3 z4 z5 (some (.int (i : Int))) z7 z8 z9 z10, rfl, op_of (call2 (op_of (op_of rfl rfl (ix_map (f := bD) ha)) rfl rfl) (op_of (op_of rfl (op_of rfl rfl (d3 := .int ((i + 1 : Nat) : Int)) rfl) (ix_map (f := bD) hb)) rfl rfl) far) rfl ?_, fun _ => rfl⟩
    unfold clo
    rw [ha, hb]
    dsimp only
    show some (D.bl (decide (0 < a.v.num * b.v.den - b.v.num * a.v.den))) = _
    congr 2
    exact decide_eq_decide.mpr far_pos'
  refine (eFr_of e).trans ?_
  unfold natL
  rw [List.map_map]
  rfl
theorem sortset_of {f : Ev} {ρ : Rho} {l : List Nat} (h : f ρ = some (.val (.lst (natL l)))) (hl : l.length < 64) (h1 : ∀ led, setSort led (l.map fun i : Nat => (i : Int)) = some (l.map fun i : Nat => (i : Int))) : eFr (lSortSet f) ρ = some (.val (.lst (natL l))) := by
  refine eFr_of ?_
  unfold lSortSet obndL
  rw [h]
  dsimp only
  have io : intsO (natL l) = some (l.map fun i : Nat => (i : Int)) := intsO_map _
  rw [io]
  dsimp only
  rw [if_pos (by rw [List.length_map]; exact hl), h1 true, h1 false]
  dsimp only
  rw [if_pos ⟨rfl, by rw [List.length_map]; exact hl⟩]
  rfl
theorem nice_nat (l : List Nat) : Nice 1 (.lst (natL l)) := nice_lst fun d hd => by
  obtain ⟨x, _, rfl⟩ := List.mem_map.mp hd
  exact nice_int _
theorem q_right_none {r : List Bead} (g : GR r) (M : Mem) (h : firstW (runsOf r) = none) : M_q_right [rowD r] M = some (.val (.bl true), M) := by
  obtain ⟨fl, _⟩ := (first_L g M).1 h
  have fe := faster_ev g (z2 := some .non) (z3 := none) (z4 := none) (z5 := none) (z7 := none) (z8 := none) (z9 := none) (z10 := none)
  have nil : (List.range' 0 (r.length - 1)).filter (clo r) = [] := List.filter_eq_nil_iff.mpr fun i _ => by rw [clo_none h]; decide
  rw [nil] at fe
  have ni0 : Nice 1 (.lst []) := nice_lst (k := 0) fun _ z => nomatch z
  unfold M_q_right B_q_right
  refine mfn_rt rfl rfl (mseq_nx (ρ' := hρ r none none none none none none none none none) (mset_of (i := 1) (mL_of (o := .val (rowD r)) rfl)) ?_)
  refine mseq_nx (ρ' := hρ r (some .non) none none none none none none none none) (mset_of (i := 2) (mcall_of (mcons_of (mL_of (o := .val (rowD r)) rfl) mnil_of) fl)) ?_
  refine mseq_nx (ρ' := hρ r (some .non) (some (.lst [])) none none none none none none none) (mset_of (i := 3) (mL_of (o := .val (.lst [])) fe)) ?_
  refine mseq_nx (ρ' := hρ r (some .non) (some (.lst [])) none none none none none none none) (mifN (mQ0_of (ρ' := hρ r (some .non) (some (.lst [])) none none none none none none none) rfl (o := .val (.bl false)) (or_of (op_of rfl rfl (neD_refl (k := 3) (nice_map nice_bead) (by decide))) (op_of (op_of rfl rfl (d3 := .bl true) rfl) (op_of rfl rfl (eqD_refl ni0 (by decide))) rfl)))) ?_
  exact mseq_rt (mifS_yes (mQ0_of (ρ' := hρ r (some .non) (some (.lst [])) none none none none none none none) rfl (o := .val (.bl true)) (op_of rfl rfl rfl)) (mret_of (mL_of (o := .val (.bl true)) rfl)))
end BD
set_option maxHeartbeats 1500000
namespace BD
open PySem L2
theorem any_compB {α : Type} {f : EvL} {g : Gv} {q e : Ev} {vs : List Nat} {ρ : Rho} {xs : List α} {F : α → D} {h : α → Bool} (hf : f ρ = some (.vals (xs.map F))) (hl : xs.length ≤ 1000)
    (H : ∀ x ∈ xs, ∃ ρ', g (F x) (wipeR ρ vs) = some ρ' ∧ q ρ' = some (.val (.bl true)) ∧ e ρ' = some (.val (.bl (h x)))) : eB anyB (aCons (eFr (lComp f g q e vs)) aNil) ρ = some (.val (.bl (xs.any h))) := by
  have e1 := eFr_of (lComp_map (h := fun x => D.bl (h x)) hf hl H)
  have a : anyB [.lst (xs.map fun x => D.bl (h x))] = some (.bl (xs.any h)) := by
    simp only [anyB, blsO_of, Option.map_some]
    simp [List.any_map]
  exact eB_of (one_of e1) a
theorem cut_last (xs : List D) (y : D) : cutD (xs ++ [y]) none (some (-1)) = xs := by
  have e : HT.sIx (xs ++ [y]).length (xs ++ [y]).length (some (-1)) = xs.length := by
    have z : ∀ n : Nat, HT.sIx (n + 1) (n + 1) (some (-1)) = n := fun n => by
      show (if (-1 : Int) < 0 then ((-1 : Int) + ((n + 1 : Nat) : Int)).toNat else min (-1 : Int).toNat (n + 1)) = n
      rw [if_pos (by decide)]
      omega
    rw [List.length_append]
    exact z xs.length
  unfold cutD
  rw [e, HT.sIx_none]
  simp
theorem q_right_some {r : List Bead} (g : GR r) (M : Mem) {w : Rat} (h : firstW (runsOf r) = some w) : ∃ M', M_q_right [rowD r] M = some (.val (.bl true), M') := by
  obtain ⟨fl, fm⟩ := (first_L g M).2 w h
  have fe := faster_ev g (z2 := some (.tup [shR w, .cell M.length])) (z3 := none) (z4 := none) (z5 := none) (z7 := none) (z8 := none) (z9 := none) (z10 := none)
  have ten := g.ten
  have one := g.one
  obtain ⟨i0, a0, b0, li, ha0, hb0, hc0, _, w0⟩ := clo_some g h
  have bw := firstW_bd (brs_of (r := r) g.good) h
  have I := parts_PI (rs := asW r w) asW_ix
  have hne := mets_some g h
  have hin : ∀ s ∈ mets (parts (asW r w)), s.1 < s.2 ∧ s.2 < r.length := fun s hs => by
    have := mets_in I hs
    rw [asW_len] at this
    exact this
  have hpw := mets_pw I
  have hjo := join_mets I
  rw [I.jo, asW_len] at hjo
  have lst10 : (mets (parts (asW r w))).length ≤ 10 := by
    unfold mets
    rw [List.length_map]
    have h1 := List.length_filter_le (fun p : List Run => decide (1 < p.length)) (parts (asW r w))
    have h2 := grp_len (parts_grp (asW r w))
    rw [asW_len] at h2
    omega
  generalize hst : mets (parts (asW r w)) = st at *
  have lj : (joinN st).length ≤ 9 := by
    rw [hjo]
    have := List.length_filter_le (sameAt (asW r w)) (List.range (r.length - 1))
    rw [List.length_range] at this
    omega
  have nofl : (List.range' 0 (r.length - 1)).filter (clo r) ≠ [] := fun z => by
    have := List.filter_eq_nil_iff.mp z i0 (List.mem_range'_1.mpr ⟨by omega, by omega⟩)
    exact this hc0
  generalize (List.range' 0 (r.length - 1)).filter (clo r) = fs at fe nofl
  have nofl2 : eqD (.lst (natL fs)) (.lst []) = some (.bl false) := by
    have ni := nice_nat fs
    cases fs with
    | nil => exact absurd rfl nofl
    | cons x l => exact eqD_cons_nil ni (by decide)
  have nost : eqD (.lst (st.map strD)) (.lst []) = some (.bl false) := by
    have ni := nice_sts st
    cases st with
    | nil => exact absurd rfl hne
    | cons x l => exact eqD_cons_nil ni (by decide)
  let M1 : Mem := M ++ [.lst (st.map strD)]
  have hM1 : M1[M.length]? = some (.lst (st.map strD)) := get_last
  let fC : D := .tup [shR w, .cell M.length]
  let fS : D := .tup [shR w, .lst (st.map strD)]
  let fdD : D := .lst (natL fs)
  let plD : D := .lst ((asW r w).map fun R => shR R.p)
  let endD : D := .lst (natL (st.map Prod.snd))
  have sees : ∀ z3 z4 z5 z6 z7 z8 z9 z10 : Option D, seeR (see0 M1 4) [2] 0 (hρ r (some fC) z3 z4 z5 z6 z7 z8 z9 z10) = hρ r (some fS) z3 z4 z5 z6 z7 z8 z9 z10 := fun z3 z4 z5 z6 z7 z8 z9 z10 => by
    show [_, _, some (Sl.sh (see0 M1 4 fC)), _, _, _, _, _, _, _, _, _, _] = _
    rw [show see0 M1 4 fC = fS from see0_fm hM1]
    rfl
  have pos : ¬ w.num ≤ 0 := fun z => by
    have := num_le.mp z
    grind
  have all1 : eB allB (aCons (eFr (lComp (wSeq (eOp ixD (eVar 2) (eC (.int 1)))) (gNm 12) qYes (qAnd (eIsi "tuple" (eVar 12)) (eOp eqD (eB lenB (aCons (eVar 12) aNil)) (eC (.int 2)))) [12])) aNil) (hρ r (some fS) (some fdD) none none none none none none none) = some (.val (.bl true)) :=
    all_comp (xs := st) (F := strD) (seq_of (op_of rfl rfl rfl)) (by omega) fun s _ => ⟨[some (.sh (rowD r)), some (.sh (rowD r)), some (.sh fS), some (.sh fdD), none, none, none, none, none, none, none, none, some (.sh (strD s))], rfl, rfl, rfl⟩
  have all2 : eB allB (aCons (eFr (lComp (wSeq (eOp ixD (eVar 2) (eC (.int 1)))) (gNm 12) qYes (qAnd (eCall m_q_whole (aCons (eOp ixD (eVar 12) (eC (.int 0))) aNil)) (qAnd (eCall m_q_whole (aCons (eOp ixD (eVar 12) (eC (.int 1))) aNil)) (eOp (i2 ltI) (eOp ixD (eVar 12) (eC (.int 0))) (eOp ixD (eVar 12) (eC (.int 1)))))) [12])) aNil) (hρ r (some fS) (some fdD) none none none none none none none) = some (.val (.bl true)) :=
    all_comp (xs := st) (F := strD) (seq_of (op_of rfl rfl rfl)) (by omega) fun s hs => ⟨[some (.sh (rowD r)), some (.sh (rowD r)), some (.sh fS), some (.sh fdD), none, none, none, none, none, none, none, none, some (.sh (strD s))], rfl, rfl, and_of (call1 (op_of rfl rfl rfl) (q_whole_int _)) (and_of (call1 (op_of rfl rfl rfl) (q_whole_int _)) (op_of (op_of rfl rfl rfl) (op_of rfl rfl rfl) (by
      have := (hin s hs).1
      show some (D.bl (decide ((s.1 : Int) < (s.2 : Int)))) = _
      rw [decide_eq_true (by omega)])))⟩
  have places : lComp (wSeq (eVar 0)) (gNm 11) qYes (eCall m_q_there (aCons (eSlT (eVar 11) (oSome (eC (.int 1))) oNone) (aCons (eOp ixD (eVar 2) (eC (.int 0))) aNil))) [11] (hρ r (some fS) (some fdD) none none none none none none none) = some (.vals ((asW r w).map fun R => shR R.p)) := by
    have e := lComp_map (f := wSeq (eVar 0)) (g := gNm 11) (q := qYes) (e := eCall m_q_there (aCons (eSlT (eVar 11) (oSome (eC (.int 1))) oNone) (aCons (eOp ixD (eVar 2) (eC (.int 0))) aNil))) (vs := [11]) (ρ := hρ r (some fS) (some fdD) none none none none none none none) (F := bD) (xs := r) (h := fun b => shR (b.x + b.v * w)) (seq_of rfl) (by omega) fun b hb => ⟨[some (.sh (rowD r)), some (.sh (rowD r)), some (.sh fS), some (.sh fdD), none, none, none, none, none, none, none, some (.sh (bD b)), none], rfl, rfl, call2 (d := .tup [shR b.x, shR b.v]) rfl (op_of rfl rfl (d3 := shR w) rfl) (there_ok (g.good b hb).x.bd (g.good b hb).v.bd bw (by decide))⟩
    rw [e]
    congr 2
    refine List.ext_getElem? fun i => ?_
    rw [List.getElem?_map, List.getElem?_map]
    by_cases c : i < r.length
    · obtain ⟨b, hb, _⟩ := get_lt c
      rw [hb, asW_at hb]
      rfl
    · rw [List.getElem?_eq_none (by omega), List.getElem?_eq_none (by rw [asW_len]; omega)]
      rfl
  obtain ⟨y8, y9, jf⟩ := join_for (r := r) hM1 (fun s hs => by have := hin s hs; omega) (by omega) (z2 := some fC) (z3 := some fdD) (z4 := some plD) (z6 := none) (z7 := none) (z10 := none) st.length 1000 0 none none (by omega) (by omega)
  have srt := sortset_of (f := eVar 5) (ρ := hρ r (some fC) (some fdD) (some plD) (some (.lst (natL (joinN st)))) none none y8 y9 none) (l := joinN st) rfl (by omega) fun led => by rw [hjo]; exact sort_join (by omega) _
  obtain ⟨y6, y10, af⟩ := at_for g h (M := M1) hjo (z2 := some fC) (z3 := some fdD) (z7 := none) (z8 := y8) (z9 := y9) (r.length - 1) 0 none none (by omega)
  let G6 : Option D → Rho := fun z7 => hρ r (some fS) (some fdD) (some plD) (some (.lst (natL (joinN st)))) y6 z7 y8 y9 y10
  have wipe : ∀ (z7 : Option D) (s : Nat × Nat), gTp (gsCons (gNm 8) (gsCons (gNm 9) gsNil)) (strD s) (wipeR (G6 z7) [8, 9]) = some (hρ r (some fS) (some fdD) (some plD) (some (.lst (natL (joinN st)))) y6 z7 (some (.int (s.1 : Int))) (some (.int (s.2 : Int))) y10) := fun z7 s => rfl
  have ends : lComp (wSeq (eOp ixD (eVar 2) (eC (.int 1)))) (gTp (gsCons (gNm 8) (gsCons (gNm 9) gsNil))) qYes (eVar 9) [8, 9] (G6 none) = some (.vals (natL (st.map Prod.snd))) := by
    have e := lComp_map (f := wSeq (eOp ixD (eVar 2) (eC (.int 1)))) (g := gTp (gsCons (gNm 8) (gsCons (gNm 9) gsNil))) (q := qYes) (e := eVar 9) (vs := [8, 9]) (ρ := G6 none) (F := strD) (xs := st) (h := fun s => D.int (s.2 : Int)) (seq_of (op_of rfl rfl rfl)) (by omega) fun s _ => ⟨_, wipe none s, rfl, rfl⟩
    rw [e]
    unfold natL
    rw [List.map_map, List.map_map]
    rfl
  have off := ends_off hpw fun s hs => (hin s hs).1
  have any0 : eB anyB (aCons (eFr (lComp (wSeq (eOp ixD (eVar 2) (eC (.int 1)))) (gTp (gsCons (gNm 8) (gsCons (gNm 9) gsNil))) qYes (eOp (inD false) (eVar 8) (eVar 7)) [8, 9])) aNil) (G6 (some endD)) = some (.val (.bl false)) := by
    have e := any_compB (f := wSeq (eOp ixD (eVar 2) (eC (.int 1)))) (g := gTp (gsCons (gNm 8) (gsCons (gNm 9) gsNil))) (q := qYes) (e := eOp (inD false) (eVar 8) (eVar 7)) (vs := [8, 9]) (ρ := G6 (some endD)) (F := strD) (xs := st) (h := fun _ => false) (seq_of (op_of rfl rfl rfl)) (by omega) fun s hs => ⟨_, wipe (some endD) s, rfl, op_of rfl rfl ((in_ints (s.1 : Int) ((st.map Prod.snd).map fun i : Nat => (i : Int))).trans (by
      rw [natL_any]
      congr 2
      refine decide_eq_false fun z => ?_
      obtain ⟨t, ht, et⟩ := List.mem_map.mp z
      exact off s hs t ht et.symm))⟩
    rw [e]
    congr 3
    induction st with
    | nil => rfl
    | cons x l ih => simp
  have flat1 : flatDs ((asW r w).map fun R => shR R.p) = true := flat_map (fun R => rfl) _
  have flat2 : flatDs (natL (st.map Prod.snd)) = true := flat_map (fun i => rfl) _
  have sm : smallL (st.map strD) = true := decide_eq_true (by rw [List.length_map]; omega)
  let M2 : Mem := M1.set M.length (.lst (st.map strD ++ [.int 0]))
  have hM2 : M2[M.length]? = some (.lst (st.map strD ++ [.int 0])) := by simp [M2, M1]
  have sees2 : seeR (see0 M2 4) [2] 0 (hρ r (some fC) (some fdD) (some plD) (some (.lst (natL (joinN st)))) y6 (some endD) y8 y9 y10) = hρ r (some (.tup [shR w, .lst (st.map strD ++ [.int 0])])) (some fdD) (some plD) (some (.lst (natL (joinN st)))) y6 (some endD) y8 y9 y10 := by
    show [_, _, some (Sl.sh (see0 M2 4 fC)), _, _, _, _, _, _, _, _, _, _] = _
    rw [show see0 M2 4 fC = _ from see0_fm2 hM2]
    rfl
  have cutS : eFr (lSlice (eOp ixD (eVar 2) (eC (.int 1))) oNone (oSome (eNeg (eC (.int 1))))) (hρ r (some (.tup [shR w, .lst (st.map strD ++ [.int 0])])) (some fdD) (some plD) (some (.lst (natL (joinN st)))) y6 (some endD) y8 y9 y10) = some (.val (.lst (st.map strD))) := by
    refine eFr_of ((slice_of (ds := st.map strD ++ [.int 0]) (l := none) (h := some (-1)) (op_of rfl rfl rfl) rfl rfl).trans ?_)
    congr 2
    exact cut_last _ _
  refine ⟨M2, ?_⟩
  unfold M_q_right B_q_right
  refine mfn_rt rfl rfl (mseq_nx (ρ' := hρ r none none none none none none none none none) (mset_of (i := 1) (mL_of (o := .val (rowD r)) rfl)) ?_)
  refine mseq_nx (ρ' := hρ r (some fC) none none none none none none none none) (M1 := M1) (mset_of (i := 2) (mcall_of (mcons_of (mL_of (o := .val (rowD r)) rfl) mnil_of) fl)) ?_
  refine mseq_nx (ρ' := hρ r (some fC) (some fdD) none none none none none none none) (mset_of (i := 3) (mL_of (o := .val fdD) fe)) ?_
  refine mseq_nx (ρ' := hρ r (some fC) (some fdD) none none none none none none none) (mifN (mQ0_of (sees ..) (o := .val (.bl false)) (or_of (op_of rfl rfl (neD_refl (k := 3) (nice_map nice_bead) (by decide))) (op_of (op_of rfl rfl (d3 := .bl false) rfl) (op_of rfl rfl nofl2) rfl)))) ?_
  refine mseq_nx (ρ' := hρ r (some fC) (some fdD) none none none none none none none) (mifN (mQ0_of (sees ..) (o := .val (.bl false)) (op_of rfl rfl rfl))) ?_
  refine mseq_nx (ρ' := hρ r (some fC) (some fdD) none none none none none none none) (mifN (mQ0_of (sees ..) (o := .val (.bl false)) (or_of (not_yes rfl) (or_of (op_of rfl rfl rfl) (or_of (not_yes (call1 (op_of rfl rfl (d3 := shR w) rfl) (q_is_share_R bw (by decide)))) (not_yes rfl)))))) ?_
  refine mseq_nx (ρ' := hρ r (some fC) (some fdD) none none none none none none none) (mifN (mQ0_of (sees ..) (o := .val (.bl false)) (or_of (op_of (op_of (op_of rfl rfl (d3 := shR w) rfl) rfl (d3 := .int w.num) rfl) rfl (by simp only [i2, leI]; rw [decide_eq_false pos])) (or_of (op_of (op_of rfl rfl rfl) rfl nost) (not_yes all1))))) ?_
  refine mseq_nx (ρ' := hρ r (some fC) (some fdD) none none none none none none none) (mifN (mQ0_of (sees ..) (o := .val (.bl false)) (not_yes all2))) ?_
  refine mseq_nx (ρ' := hρ r (some fC) (some fdD) (some plD) none none none none none none) (mset_of (i := 4) (mF0_of (sees ..) places flat1)) ?_
  refine mseq_nx (ρ' := hρ r (some fC) (some fdD) (some plD) (some (.lst [])) none none none none none) (mset_of (i := 5) (mL_of (o := .val (.lst [])) rfl)) ?_
  refine mseq_nx (ρ' := hρ r (some fC) (some fdD) (some plD) (some (.lst (natL (joinN st)))) none none y8 y9 none) (M1 := M1) ?_ ?_
  · unfold mForC sbM
    rw [mL_of (o := .val (.cell M.length)) (op_of rfl rfl rfl)]
    exact jf
  refine mseq_nx (ρ' := hρ r (some fC) (some fdD) (some plD) (some (.lst (natL (joinN st)))) none none y8 y9 none) (mifN (mQ0_of (ρ' := hρ r (some fC) (some fdD) (some plD) (some (.lst (natL (joinN st)))) none none y8 y9 none) rfl (o := .val (.bl false)) (op_of srt rfl (neD_refl (nice_nat _) (by decide))))) ?_
  refine mseq_nx (ρ' := hρ r (some fC) (some fdD) (some plD) (some (.lst (natL (joinN st)))) y6 none y8 y9 y10) (mfor_of (mrng1_of (n := r.length - 1) (mcons_of (mL_of (o := .val (.int ((r.length - 1 : Nat) : Int))) (op_of (len_of (ds := r.map bD) rfl) rfl (by
    rw [List.length_map]
    simp only [i2, subI]
    congr 2
    omega))) mnil_of) (by omega)) af) ?_
  refine mseq_nx (ρ' := hρ r (some fC) (some fdD) (some plD) (some (.lst (natL (joinN st)))) y6 (some endD) y8 y9 y10) (mset_of (i := 7) (mF0_of (sees ..) ends flat2)) ?_
  refine mseq_nx (ρ' := hρ r (some fC) (some fdD) (some plD) (some (.lst (natL (joinN st)))) y6 (some endD) y8 y9 y10) (mifN (mQ0_of (sees ..) (o := .val (.bl false)) (by unfold qV obnd; rw [any0]; rfl))) ?_
  refine mseq_nx (ρ' := hρ r (some fC) (some fdD) (some plD) (some (.lst (natL (joinN st)))) y6 (some endD) y8 y9 y10) (M1 := M2) (mcapp_of (n := M.length) (es := st.map strD) (es' := st.map strD) (mL_of (o := .val (.cell M.length)) (op_of rfl rfl rfl)) hM1 (mL_of (o := .val (.int 0)) rfl) hM1 sm) ?_
  exact mret_of (mS0_of sees2 (op_of (call1 rfl fm) (tup2_of (op_of rfl rfl (d3 := shR w) rfl) cutS) (eqD_refl (nice_fm w st) (by decide))) rfl)
theorem q_right_ok {r : List Bead} (g : GR r) (M : Mem) : ∃ M', M_q_right [rowD r] M = some (.val (.bl true), M') := by
  cases h : firstW (runsOf r) with
  | none => exact ⟨M, q_right_none g M h⟩
  | some w => exact q_right_some g M h
end BD
namespace BD
open PySem L2
theorem cutK {ds : List D} {k : Nat} (h : k ≤ ds.length) : cutD ds none (some (k : Int)) = ds.take k := by
  unfold cutD
  rw [HT.sIx_none, HT.sIx_nat, List.drop_zero, Nat.min_eq_left h, Nat.sub_zero]
theorem gr_take {r : List Bead} (g : GR r) {k : Nat} (h1 : 1 ≤ k) (h2 : k ≤ r.length) : GR (r.take k) := by
  have ten := g.ten
  refine ⟨by rw [List.length_take]; omega, by rw [List.length_take]; omega, fun b hb => g.good b (List.mem_of_mem_take hb), fun i a b ha hb => ?_⟩
  rw [List.getElem?_take] at ha hb
  split at ha
  · split at hb
    · exact g.rise i a b ha hb
    · cases hb
  · cases ha
theorem rs_int {i : Int} (h1 : -1000000 ≤ i) (h2 : i ≤ 1000000) : RS (i : Rat) := ⟨h1, h2, by show 1 ≤ 60; decide⟩
def spotD (c k : Int) : D := .tup [.int (1 + k), .tup [.int (2 * k), .int 1], .tup [.int (1 - k.fmod 2 * c), .int 1]]
def r5 (c : Int) : List Bead := [⟨1, ((0 : Int) : Rat), ((1 - 0 * c : Int) : Rat)⟩, ⟨2, ((2 : Int) : Rat), ((1 - 1 * c : Int) : Rat)⟩, ⟨3, ((4 : Int) : Rat), ((1 - 0 * c : Int) : Rat)⟩, ⟨4, ((6 : Int) : Rat), ((1 - 1 * c : Int) : Rat)⟩, ⟨5, ((8 : Int) : Rat), ((1 - 0 * c : Int) : Rat)⟩]
theorem r5_is (c : Int) : ((List.range' 0 5).map fun k : Nat => spotD c (k : Int)) = (r5 c).map bD := rfl
theorem r5_ok {c : Int} (h1 : 1 ≤ c) (h2 : c ≤ 3) : GR (r5 c) := by
  refine ⟨by show 1 ≤ 5; decide, by show 5 ≤ 10; decide, fun b hb => ?_, fun i a b ha hb => ?_⟩
  · simp only [r5, List.mem_cons, List.not_mem_nil, or_false] at hb
    rcases hb with rfl | rfl | rfl | rfl | rfl
    · exact ⟨by show (1 : Int) ≤ 1; decide, by show (1 : Int) ≤ 60; decide, rs_int (i := 0) (by decide) (by decide), rs_int (i := 1 - 0 * c) (by omega) (by omega)⟩
    · exact ⟨by show (1 : Int) ≤ 2; decide, by show (2 : Int) ≤ 60; decide, rs_int (i := 2) (by decide) (by decide), rs_int (i := 1 - 1 * c) (by omega) (by omega)⟩
    · exact ⟨by show (1 : Int) ≤ 3; decide, by show (3 : Int) ≤ 60; decide, rs_int (i := 4) (by decide) (by decide), rs_int (i := 1 - 0 * c) (by omega) (by omega)⟩
    · exact ⟨by show (1 : Int) ≤ 4; decide, by show (4 : Int) ≤ 60; decide, rs_int (i := 6) (by decide) (by decide), rs_int (i := 1 - 1 * c) (by omega) (by omega)⟩
    · exact ⟨by show (1 : Int) ≤ 5; decide, by show (5 : Int) ≤ 60; decide, rs_int (i := 8) (by decide) (by decide), rs_int (i := 1 - 0 * c) (by omega) (by omega)⟩
  · match i, ha, hb with
    | 0, ha, hb => cases Option.some.inj ha; cases Option.some.inj hb; show ((0 : Int) : Rat) < ((2 : Int) : Rat); decide +kernel
    | 1, ha, hb => cases Option.some.inj ha; cases Option.some.inj hb; show ((2 : Int) : Rat) < ((4 : Int) : Rat); decide +kernel
    | 2, ha, hb => cases Option.some.inj ha; cases Option.some.inj hb; show ((4 : Int) : Rat) < ((6 : Int) : Rat); decide +kernel
    | 3, ha, hb => cases Option.some.inj ha; cases Option.some.inj hb; show ((6 : Int) : Rat) < ((8 : Int) : Rat); decide +kernel
    | i + 4, ha, hb => simp [r5] at hb
theorem mul_few {a b : Int} (h1 : a.natAbs < 1024) (h2 : b.natAbs < 1024) : i2 mulI (.int a) (.int b) = some (.int (a * b)) := by
  have s1 := Bd.small (n := 10) (i := a) (by unfold Bd; omega) (by decide)
  have s2 := Bd.small (n := 10) (i := b) (by unfold Bd; omega) (by decide)
  show mulI a b = _
  unfold mulI
  rw [s1, s2]
  rfl
theorem spots_for {x0 x2 : D} {W : Int} {n : Nat} {z5 : Option D} : ∀ (q j : Nat) (M : Mem) (z4 : Option D), j + q ≤ 900 → M[n]? = some (.lst ((List.range' 0 j).map fun k : Nat => spotD (1 + W.fmod 3) (k : Int))) → ∃ M' y4, forM (gNm 4) L1_law ((List.range' j q).map fun k : Nat => D.int ((k : Nat) : Int)) [some (.sh x0), some (.sh (.int W)), some (.sh x2), some (.sh (.cell n)), os z4, os z5] M = some (.nx [some (.sh x0), some (.sh (.int W)), some (.sh x2), some (.sh (.cell n)), os y4, os z5], M') ∧ M'[n]? = some (.lst ((List.range' 0 (j + q)).map fun k : Nat => spotD (1 + W.fmod 3) (k : Int)))
  | 0, j, M, z4, _, h => ⟨M, z4, rfl, h⟩
  | q + 1, j, M, z4, hj, h => by
    have hl := (List.getElem?_eq_some_iff.mp h).1
    let M2 : Mem := M.set n (.lst ((List.range' 0 j).map (fun k : Nat => spotD (1 + W.fmod 3) (k : Int)) ++ [spotD (1 + W.fmod 3) (j : Int)]))
    have h2 : M2[n]? = some (.lst ((List.range' 0 (j + 1)).map fun k : Nat => spotD (1 + W.fmod 3) (k : Int))) := by
      rw [List.range'_concat, List.map_append]
      simp [M2, hl]
    obtain ⟨M', y4, f, e⟩ := spots_for (x0 := x0) (x2 := x2) (W := W) (n := n) (z5 := z5) q (j + 1) M2 (some (.int (j : Int))) (by omega) h2
    refine ⟨M', y4, ?_, by rw [show j + (q + 1) = j + 1 + q by omega]; exact e⟩
    rw [List.range'_succ, List.map_cons]
    obtain ⟨p0, p1⟩ := fmod_pos_range (a := (j : Int)) (n := 2) (by decide)
    obtain ⟨p2, p3⟩ := fmod_pos_range (a := W) (n := 3) (by decide)
    have val : eTup (aCons (eOp (i2 addI) (eC (.int 1)) (eVar 4)) (aCons (eTup (aCons (eOp (i2 mulI) (eC (.int 2)) (eVar 4)) (aCons (eC (.int 1)) aNil))) (aCons (eTup (aCons (eOp (i2 subI) (eC (.int 1)) (eOp (i2 mulI) (eOp (i2 modI) (eVar 4) (eC (.int 2))) (eOp (i2 addI) (eC (.int 1)) (eOp (i2 modI) (eVar 1) (eC (.int 3)))))) (aCons (eC (.int 1)) aNil))) aNil))) [some (.sh x0), some (.sh (.int W)), some (.sh x2), some (.sh (.cell n)), some (.sh (.int (j : Int))), os z5] = some (.val (spotD (1 + W.fmod 3) (j : Int))) :=
      tup3_of (op_of rfl rfl rfl) (tup2_of (op_of rfl rfl (mul_few (by decide) (by omega))) rfl) (tup2_of (op_of rfl (op_of (op_of rfl rfl (mod_of (by decide))) (op_of rfl (op_of rfl rfl (mod_of (by decide))) (d3 := .int (1 + W.fmod 3)) rfl) (d3 := .int ((j : Int).fmod 2 * (1 + W.fmod 3))) (mul_few (by omega) (by omega))) rfl) rfl)
    refine mfor_cons (ρ1 := [some (.sh x0), some (.sh (.int W)), some (.sh x2), some (.sh (.cell n)), some (.sh (.int (j : Int))), os z5]) (M2 := M2) rfl ?_ ?_ f
    · cases z5 <;> rfl
    · unfold L1_law
      exact mcapp_of (n := n) (es := (List.range' 0 j).map fun k : Nat => spotD (1 + W.fmod 3) (k : Int)) (es' := (List.range' 0 j).map fun k : Nat => spotD (1 + W.fmod 3) (k : Int)) (mL_of (o := .val (.cell n)) rfl) h (mL_of (o := .val (spotD (1 + W.fmod 3) (j : Int))) val) h (decide_eq_true (by rw [List.length_map, List.length_range']; omega))
def r2 : List Bead := [⟨1, 0, 0⟩, ⟨1, 1, 0⟩]
def r1 : List Bead := [⟨7, 1 / 3, 5⟩]
def r3 : List Bead := [⟨1, 0, 1⟩, ⟨5, 1, 0⟩, ⟨2, 2, -1⟩, ⟨1, 9, 1⟩, ⟨1, 10, 0⟩]
end BD
namespace BD
open PySem L2
theorem some_of {f : Ev} {ρ : Rho} {i : Int} (h : f ρ = some (.val (.int i))) : oSome f ρ = some (some i) := by
  unfold oSome
  rw [h]
theorem gr2 : GR r2 := by
  refine ⟨by decide, by decide, fun b hb => ?_, fun i a b ha hb => ?_⟩
  · simp only [r2, List.mem_cons, List.not_mem_nil, or_false] at hb
    rcases hb with rfl | rfl
    · exact ⟨by decide, by decide, rs_int (i := 0) (by decide) (by decide), rs_int (i := 0) (by decide) (by decide)⟩
    · exact ⟨by decide, by decide, rs_int (i := 1) (by decide) (by decide), rs_int (i := 0) (by decide) (by decide)⟩
  · match i, ha, hb with
    | 0, ha, hb => cases Option.some.inj ha; cases Option.some.inj hb; show (0 : Rat) < 1; decide +kernel
    | i + 1, ha, hb => simp [r2] at hb
theorem gr1 : GR r1 := by
  refine ⟨by decide, by decide, fun b hb => ?_, fun i a b ha hb => ?_⟩
  · simp only [r1, List.mem_cons, List.not_mem_nil, or_false] at hb
    subst hb
    exact ⟨by decide, by decide, ⟨by decide +kernel, by decide +kernel, by decide +kernel⟩, rs_int (i := 5) (by decide) (by decide)⟩
  · match i, ha, hb with
    | i, ha, hb => simp [r1] at hb
theorem gr3 : GR r3 := by
  refine ⟨by decide, by decide, fun b hb => ?_, fun i a b ha hb => ?_⟩
  · simp only [r3, List.mem_cons, List.not_mem_nil, or_false] at hb
    rcases hb with rfl | rfl | rfl | rfl | rfl
    · exact ⟨by decide, by decide, rs_int (i := 0) (by decide) (by decide), rs_int (i := 1) (by decide) (by decide)⟩
    · exact ⟨by decide, by decide, rs_int (i := 1) (by decide) (by decide), rs_int (i := 0) (by decide) (by decide)⟩
    · exact ⟨by decide, by decide, rs_int (i := 2) (by decide) (by decide), rs_int (i := -1) (by decide) (by decide)⟩
    · exact ⟨by decide, by decide, rs_int (i := 9) (by decide) (by decide), rs_int (i := 1) (by decide) (by decide)⟩
    · exact ⟨by decide, by decide, rs_int (i := 10) (by decide) (by decide), rs_int (i := 0) (by decide) (by decide)⟩
  · match i, ha, hb with
    | 0, ha, hb => cases Option.some.inj ha; cases Option.some.inj hb; show (0 : Rat) < 1; decide +kernel
    | 1, ha, hb => cases Option.some.inj ha; cases Option.some.inj hb; show (1 : Rat) < 2; decide +kernel
    | 2, ha, hb => cases Option.some.inj ha; cases Option.some.inj hb; show (2 : Rat) < 9; decide +kernel
    | 3, ha, hb => cases Option.some.inj ha; cases Option.some.inj hb; show (9 : Rat) < 10; decide +kernel
    | i + 4, ha, hb => simp [r3] at hb
theorem fm2 : m_first_meet [rowD r2] = some (.val .non) := ((first_L gr2 []).1 (by decide +kernel)).2
theorem fm1 : m_first_meet [rowD r1] = some (.val .non) := ((first_L gr1 []).1 (by decide +kernel)).2
theorem fm3 : m_first_meet [rowD r3] = some (.val (.tup [.tup [.int 1, .int 1], .lst [.tup [.int 0, .int 2], .tup [.int 3, .int 4]]])) := by
  have e := ((first_L gr3 []).2 1 (by decide +kernel)).2
  have m : mets (parts (asW r3 1)) = [(0, 2), (3, 4)] := by decide +kernel
  rw [m] at e
  exact e
theorem mor_no2 {f g : MEv} {ρ : Rho} {M M1 : Mem} {o : Option (Out × Mem)} (h : f ρ M = some (.val (.bl false), M1)) (k : g ρ M1 = o) : mOr f g ρ M = o := mor_no h k
theorem law_true : LawT 63 (pSem M_law) := fun ns hl hbits => by
  have hb : ∀ i ∈ ns, Bd 1048576 i := fun i hi => by
    have := hbits i hi
    unfold Bd
    by_cases z : i.natAbs = 0
    · rw [z]; exact Nat.pow_pos (by decide)
    · exact (Nat.log2_lt z).mp this
  obtain ⟨r, g, _, er⟩ := row_ok hl hb (Y := 0) (by decide) false
  obtain ⟨q, gq, _, eq⟩ := row_ok hl hb (Y := 1) (by decide) true
  obtain ⟨m0, m1⟩ := fmod_pos_range (a := ns.sum) (n := 3) (by decide)
  have one := g.one
  have ten := g.ten
  obtain ⟨k0, k1⟩ := fmod_pos_range (a := ns.sum) (n := (r.length : Int)) (by omega)
  obtain ⟨k, hk⟩ : ∃ k : Nat, (k : Int) = 1 + ns.sum.fmod (r.length : Int) := ⟨(1 + ns.sum.fmod (r.length : Int)).toNat, by omega⟩
  have gt := gr_take g (k := k) (by omega) (by omega)
  have g5 := r5_ok (c := 1 + ns.sum.fmod 3) (by omega) (by omega)
  obtain ⟨M1, e1⟩ := q_right_ok g []
  obtain ⟨M2, e2⟩ := q_right_ok gq M1
  obtain ⟨M3, e3⟩ := q_right_ok gt M2
  let D0 : D := .lst (ns.map .int)
  let W : Int := ns.sum
  have wh : eB sumB (aCons (eFr (lSlice (eVar 0) oNone (oSome (eC (.int 63))))) aNil) [some (.sh (.lst (ns.map .int))), none, none, none, none, none] = some (.val (.int ns.sum)) :=
    sum_of (ns := ns) (eFr_of ((slice_of (f := eVar 0) (l := none) (h := some 63) rfl rfl rfl).trans (by rw [cut63 hl])))
  have cut : eFr (lSlice (eVar 2) oNone (oSome (eOp (i2 addI) (eC (.int 1)) (eOp (i2 modI) (eVar 1) (eB lenB (aCons (eVar 2) aNil)))))) [some (.sh D0), some (.sh (.int W)), some (.sh (rowD r)), none, none, none] = some (.val (rowD (r.take k))) := by
    have v : oSome (eOp (i2 addI) (eC (.int 1)) (eOp (i2 modI) (eVar 1) (eB lenB (aCons (eVar 2) aNil)))) [some (.sh D0), some (.sh (.int W)), some (.sh (rowD r)), none, none, none] = some (some (k : Int)) := by
      have ln : eB lenB (aCons (eVar 2) aNil) [some (.sh D0), some (.sh (.int W)), some (.sh (rowD r)), none, none, none] = some (.val (.int (r.length : Int))) := (len_of (ds := r.map bD) rfl).trans (by rw [List.length_map])
      refine some_of (op_of rfl (op_of rfl ln (mod_of (by omega))) ?_)
      rw [hk]
      rfl
    refine eFr_of ((slice_of (ds := r.map bD) (l := none) (h := some (k : Int)) rfl rfl v).trans ?_)
    rw [cutK (by rw [List.length_map]; omega), ← List.map_take]
  obtain ⟨M4, y4, sf, hM4⟩ := spots_for (x0 := D0) (x2 := rowD r) (W := W) (n := M3.length) (z5 := none) 5 0 (M3 ++ [.lst []]) none (by decide) get_last
  rw [show (List.range' 0 (0 + 5)).map (fun k : Nat => spotD (1 + W.fmod 3) (k : Int)) = (r5 (1 + W.fmod 3)).map bD from r5_is _] at hM4
  obtain ⟨M5, e5⟩ := q_right_ok g5 (M4.set M3.length .dead)
  have frz : mFrzE 3 [some (.sh D0), some (.sh (.int W)), some (.sh (rowD r)), some (.sh (.cell M3.length)), os y4, none] M4 = some (.val (rowD (r5 (1 + W.fmod 3))), M4.set M3.length .dead) := by
    unfold mFrzE
    show (match M4[M3.length]? with | some (.lst ds) => some (Out.val (.lst ds), M4.set M3.length .dead) | _ => none) = _
    rw [hM4]
    rfl
  have pu : pureDs [.lst (ns.map .int)] = true := by
    have : ∀ ns : List Int, pureDs (ns.map D.int) = true := fun ns => by
      induction ns with
      | nil => rfl
      | cons n ns ih => simp [pureDs, pureD, ih]
    simp [pureDs, pureD, this]
  have m : M_law [.lst (ns.map .int)] [] = some (.val (.bl true), M5) := by
    unfold M_law B_law
    refine mfn_rt rfl rfl (mseq_nx (ρ' := [some (.sh D0), some (.sh (.int W)), none, none, none, none]) (mset_of (i := 1) (mL_of (o := .val (.int ns.sum)) wh)) ?_)
    refine mseq_nx (ρ' := [some (.sh D0), some (.sh (.int W)), some (.sh (rowD r)), none, none, none]) (mset_of (i := 2) (mL_of (o := .val (rowD r)) (call3 rfl rfl rfl er))) ?_
    refine mseq_nx (ρ' := [some (.sh D0), some (.sh (.int W)), some (.sh (rowD r)), none, none, none]) (M1 := M3) (mifN (mor_no2 (mnotV_yes (mcall_of (mcons_of (mL_of (o := .val (rowD r)) rfl) mnil_of) e1)) (mor_no2 (mnotV_yes (mcall_of (mcons_of (mL_of (o := .val (rowD q)) (call3 rfl rfl rfl eq)) mnil_of) e2)) (mnotV_yes (mcall_of (mcons_of (mL_of (o := .val (rowD (r.take k))) cut) mnil_of) e3))))) ?_
    refine mseq_nx (ρ' := [some (.sh D0), some (.sh (.int W)), some (.sh (rowD r)), some (.sh (.cell M3.length)), none, none]) (M1 := M3 ++ [.lst []]) (mset_of (i := 3) (mnew_of (ds := []) rfl)) ?_
    refine mseq_nx (ρ' := [some (.sh D0), some (.sh (.int W)), some (.sh (rowD r)), some (.sh (.cell M3.length)), os y4, none]) (M1 := M4) (mfor_of (mrng1_of (n := 5) (mcons_of (mL_of (o := .val (.int 5)) rfl) mnil_of) (by decide)) sf) ?_
    refine mseq_nx (ρ' := [some (.sh D0), some (.sh (.int W)), some (.sh (rowD r)), some (.sh (.cell M3.length)), os y4, none]) (M1 := M5) (mifN (mor_no2 (mnotV_yes (mcall_of (mcons_of frz mnil_of) e5)) (mQ0_of (ρ' := [some (.sh D0), some (.sh (.int W)), some (.sh (rowD r)), some (.sh (.cell M3.length)), os y4, none]) rfl (o := .val (.bl false)) (op_of (call1 (d := rowD r2) (by kernel_rfl) fm2) rfl rfl)))) ?_
    refine mseq_nx (ρ' := [some (.sh D0), some (.sh (.int W)), some (.sh (rowD r)), some (.sh (.cell M3.length)), os y4, some (.sh (rowD r3))]) (M1 := M5) (mset_of (i := 5) (mL_of (o := .val (rowD r3)) (by kernel_rfl))) ?_
    exact mret_of (mL_of (o := .val (.bl true)) (and_of (op_of (call1 rfl fm3) (d2 := .tup [.tup [.int 1, .int 1], .lst [.tup [.int 0, .int 2], .tup [.int 3, .int 4]]]) (by kernel_rfl) (by kernel_rfl)) (op_of (call1 (d := rowD r1) (by kernel_rfl) fm1) rfl rfl)))
  unfold pSem
  rw [if_pos pu, m]
  rfl
end BD
def PySem.W.Fast.tw15730516386787489797 : Unit := ()
def PySem.W.Fast.tw14006142513814515766 : Unit := ()
def PySem.W.Fast.tw17096860545469581125 : Unit := ()
def PySem.W.Fast.tw5162881009045919663 : Unit := ()
def PySem.W.Fast.tw10113354372683698353 : Unit := ()
def PySem.W.Fast.tw9304740509784779303 : Unit := ()
def PySem.W.Fast.tw15973037583768791224 : Unit := ()
def PySem.W.Fast.tw3421016738976722271 : Unit := ()
def PySem.W.Fast.tw12365935684124847922 : Unit := ()
def PySem.W.Fast.tw14759440186540702732 : Unit := ()
def PySem.W.Fast.tw3908371019848319996 : Unit := ()
def PySem.W.Fast.tw18129101184909308143 : Unit := ()
def PySem.W.Fast.tw9544309533935152554 : Unit := ()
def PySem.W.Fast.tw14596855522472020047 : Unit := ()
def PySem.W.Fast.tw8536722365890497880 : Unit := ()
def PySem.W.Fast.tw9355243445932245990 : Unit := ()
def PySem.W.Fast.tw18109908058233518487 : Unit := ()
def PySem.W.Fast.tw13060265500182463801 : Unit := ()
def PySem.W.Fast.tw1330519710634874769 : Unit := ()
def PySem.W.Fast.tw3813074575667296163 : Unit := ()
def PySem.W.Fast.tw11075101223494293900 : Unit := ()
def PySem.W.Fast.tw5709213244912126098 : Unit := ()
def PySem.W.Fast.tw4772350015236710829 : Unit := ()
def PySem.W.Fast.tw4531517117292908374 : Unit := ()
def PySem.W.Fast.tw15257789481725106715 : Unit := ()
def PySem.W.Fast.tw16478492677399471796 : Unit := ()
def PySem.W.Fast.tw2183458811611358359 : Unit := ()
def PySem.W.Fast.tw7506904503950233252 : Unit := ()
def PySem.W.Fast.tw4790340368905283754 : Unit := ()
def PySem.W.Fast.tw9418776132219973516 : Unit := ()
def PySem.W.Fast.tw9828239356447753988 : Unit := ()
def PySem.W.Fast.tw9650712233941341374 : Unit := ()
def PySem.W.Fast.tw12951390026782080554 : Unit := ()
def PySem.W.Fast.tw11363772182958569231 : Unit := ()
def PySem.W.Fast.tw12754367662914783182 : Unit := ()
def PySem.W.Fast.tw17079827249898028661 : Unit := ()
def PySem.W.Fast.tw12723011334361015544 : Unit := ()
def PySem.W.Fast.tw15236056459142207236 : Unit := ()
def PySem.W.Fast.tw13580651873603376292 : Unit := ()
def PySem.W.Fast.tw10490387538645537305 : Unit := ()
def PySem.W.Fast.tw17856775163056004399 : Unit := ()
def PySem.W.Fast.tw5356089684211138028 : Unit := ()
def PySem.W.Fast.tw13054194180247137945 : Unit := ()
def PySem.W.Fast.tw3204032393480804310 : Unit := ()
def PySem.W.Fast.tw12759868103749203250 : Unit := ()
def PySem.W.Fast.tw1990911188996649754 : Unit := ()
def PySem.W.Fast.tw526105404240028439 : Unit := ()
def PySem.W.Fast.tw14953954118283844825 : Unit := ()
def PySem.W.Fast.tw11676282285962542152 : Unit := ()
def PySem.W.Fast.tw15618283797614318270 : Unit := ()
def PySem.W.Fast.tw175066948067481763 : Unit := ()
def PySem.W.Fast.tw17297566236817778782 : Unit := ()
def PySem.W.Fast.tw9528296690025375547 : Unit := ()
def PySem.W.Fast.tw10129291046169942529 : Unit := ()
def PySem.W.Fast.tw12065837501010855258 : Unit := ()
def PySem.W.Fast.tw13294876951596650209 : Unit := ()
def PySem.W.Fast.tw11985597980822095047 : Unit := ()
def PySem.W.Fast.tw11884488277956081571 : Unit := ()
def PySem.W.Fast.tw2936078128464492775 : Unit := ()
def PySem.W.Fast.tw8323361610552997450 : Unit := ()
def PySem.W.Fast.tw3317391267974442263 : Unit := ()
def PySem.W.Fast.tw1566920846437858945 : Unit := ()
def PySem.W.Fast.tw16174792639774634873 : Unit := ()
def PySem.W.Fast.tw16363099793525157575 : Unit := ()
def PySem.W.Fast.tw14263143646612474485 : Unit := ()
def PySem.W.Fast.tw5656291901540349012 : Unit := ()
def PySem.W.Fast.tw5368204339392291090 : Unit := ()
def PySem.W.Fast.tw12368412052502968606 : Unit := ()
def PySem.W.Fast.tw5823247223046007569 : Unit := ()
def PySem.W.Fast.tw8450866490684752997 : Unit := ()
def PySem.W.Fast.tw17760591945892081310 : Unit := ()
def PySem.W.Fast.tw17751615377006345119 : Unit := ()
def PySem.W.Fast.tw5731869965792860215 : Unit := ()
def PySem.W.Fast.tw16616253437129185394 : Unit := ()
def PySem.W.Fast.tw8105827414004436750 : Unit := ()
def PySem.W.Fast.tw5331449922686902765 : Unit := ()
def PySem.W.Fast.tw4842065091562339842 : Unit := ()
def PySem.W.Fast.tw333576509215351653 : Unit := ()
def PySem.W.Fast.tw13030321670507589448 : Unit := ()
def PySem.W.Fast.tw1815444647253430384 : Unit := ()
def PySem.W.Fast.tw10115614996970539410 : Unit := ()
def PySem.W.Fast.tw10433318971725276086 : Unit := ()
def PySem.W.Fast.tw18388271002898043378 : Unit := ()
def PySem.W.Fast.tw12920043526691873314 : Unit := ()
def PySem.W.Fast.tw6762913595073731409 : Unit := ()
def PySem.W.Fast.tw18251383114767738696 : Unit := ()
def PySem.W.Fast.tw26100528027904053 : Unit := ()
def PySem.W.Fast.tw11800531701891060467 : Unit := ()
def PySem.W.Fast.tw5632954941071997133 : Unit := ()
def PySem.W.Fast.tw7741492139029887105 : Unit := ()
def PySem.W.Fast.tw15393421937692250043 : Unit := ()
def PySem.W.Fast.tw14125324950340756759 : Unit := ()
def PySem.W.Fast.tw16148248304141803329 : Unit := ()
def PySem.W.Fast.tw3959091313326102577 : Unit := ()
def PySem.W.Fast.tw10674488454890665623 : Unit := ()
def PySem.W.Fast.tw8371881787585886813 : Unit := ()
def PySem.W.Fast.tw11859187919327990534 : Unit := ()
def PySem.W.Fast.tw9781385237903513343 : Unit := ()
def PySem.W.Fast.tw15736028759409065980 : Unit := ()
def PySem.W.Fast.tw6164829390946533508 : Unit := ()
def PySem.W.Fast.tw4048894976787486313 : Unit := ()
def PySem.W.Fast.tw12205549485646977774 : Unit := ()
def PySem.W.Fast.tw5826845781629423542 : Unit := ()
def PySem.W.Fast.tw5753137696819083000 : Unit := ()
def PySem.W.Fast.tw300315589207651027 : Unit := ()
def PySem.W.Fast.tw5091037805880117144 : Unit := ()
def PySem.W.Fast.tw13631548043431187235 : Unit := ()
def PySem.W.Fast.tw18190031546748056420 : Unit := ()
def PySem.W.Fast.tw13535538300446079929 : Unit := ()
def PySem.W.Fast.tw4674773491781908291 : Unit := ()
def PySem.W.Fast.tw5199471120950741936 : Unit := ()
def PySem.W.Fast.tw11344990556464996068 : Unit := ()
def PySem.W.Fast.tw12845647751059020286 : Unit := ()
def PySem.W.Fast.tw3527497002381852400 : Unit := ()
def PySem.W.Fast.tw10358817761466662811 : Unit := ()
def PySem.W.Fast.tw14379408537792782282 : Unit := ()
def PySem.W.Fast.tw17693939464365166611 : Unit := ()
def PySem.W.Fast.tw5780190618631475621 : Unit := ()
def PySem.W.Fast.tw4791607047942185195 : Unit := ()
def PySem.W.Fast.tw15823030272599565044 : Unit := ()
def PySem.W.Fast.tw10040953353374167597 : Unit := ()
def PySem.W.Fast.tw2600272843777921414 : Unit := ()
def PySem.W.Fast.tw8945396819286457775 : Unit := ()
def PySem.W.Fast.tw6082924812563736785 : Unit := ()
def PySem.W.Fast.tw2974425999159955180 : Unit := ()
def PySem.W.Fast.tw10750297692544561252 : Unit := ()
def PySem.W.Fast.tw6135070879190940212 : Unit := ()
def PySem.W.Fast.tw219298318271583532 : Unit := ()
def PySem.W.Fast.tw9301798255740274567 : Unit := ()
def PySem.W.Fast.tw7286739297927112220 : Unit := ()
def PySem.W.Fast.tw16089745896047888236 : Unit := ()
def PySem.W.Fast.tw11850813114374171628 : Unit := ()
def PySem.W.Fast.tw15909134846059067468 : Unit := ()
def PySem.W.Fast.tw12673029520144160992 : Unit := ()
def PySem.W.Fast.tw7621217406640168446 : Unit := ()
def PySem.W.Fast.tw9814845206222608603 : Unit := ()
def PySem.W.Fast.tw8333637144883859201 : Unit := ()
def PySem.W.Fast.tw18052854737813633676 : Unit := ()
def PySem.W.Fast.tw5397336288369476462 : Unit := ()
def PySem.W.Fast.tw4578609158556322322 : Unit := ()
def PySem.W.Fast.tw15761557250044473566 : Unit := ()
def PySem.W.Fast.tw720897941747796683 : Unit := ()
def PySem.W.Fast.tw17431817688854271507 : Unit := ()
def PySem.W.Fast.tw13406711734911586765 : Unit := ()
def PySem.W.Fast.tw960779216185275244 : Unit := ()
def PySem.W.Fast.tw12763449177052764815 : Unit := ()
def PySem.W.Fast.tw7342207479777670763 : Unit := ()
def PySem.W.Fast.tw5709881118315310498 : Unit := ()
def PySem.W.Fast.tw8259962107824862071 : Unit := ()
def PySem.W.Fast.tw17386014235975084045 : Unit := ()
def PySem.W.Fast.tw14905713730574852031 : Unit := ()
def PySem.W.Fast.tw11713993384745850956 : Unit := ()
def PySem.W.Fast.tw9101429722736301510 : Unit := ()
def PySem.W.Fast.tw6350401079178737275 : Unit := ()
def PySem.W.Fast.tw7721006121525742781 : Unit := ()
def PySem.W.Fast.tw15515663293598089964 : Unit := ()
def PySem.W.Fast.tw11845749109113760069 : Unit := ()
def PySem.W.Fast.tw15289447474520642385 : Unit := ()
def PySem.W.Fast.tw5840985887467104910 : Unit := ()
def PySem.W.Fast.tw15142151353082589395 : Unit := ()
def PySem.W.Fast.tw1135874268739702514 : Unit := ()
def PySem.W.Fast.tw14486183523511162825 : Unit := ()
def PySem.W.Fast.tw11273090000394339575 : Unit := ()
def PySem.W.Fast.tw13854378115971952586 : Unit := ()
def PySem.W.Fast.tw12257248934581724770 : Unit := ()
def PySem.W.Fast.tw3443787592073258977 : Unit := ()
def PySem.W.Fast.tw6003802561528390929 : Unit := ()
def PySem.W.Fast.tw4873036705446811526 : Unit := ()
def PySem.W.Fast.tw1661449063045477445 : Unit := ()
def PySem.W.Fast.tw12633897621035390680 : Unit := ()
def PySem.W.Fast.tw16018287132365373106 : Unit := ()
def PySem.W.Fast.tw12745102473630832580 : Unit := ()
def PySem.W.Fast.tw5954241506635616579 : Unit := ()
def PySem.W.Fast.tw14793789183030229581 : Unit := ()
def PySem.W.Fast.tw13290445911362487663 : Unit := ()
def PySem.W.Fast.tw741367597321981973 : Unit := ()
def PySem.W.Fast.tw5419673797343890837 : Unit := ()
def PySem.W.Fast.tw15495106597214102386 : Unit := ()
def PySem.W.Fast.tw10495231460293129037 : Unit := ()
def PySem.W.Fast.tw1769990582310825620 : Unit := ()
def PySem.W.Fast.tw17000823626280275990 : Unit := ()
def PySem.W.Fast.tw2137455711448257378 : Unit := ()
def PySem.W.Fast.tw9376861193789341205 : Unit := ()
def PySem.W.Fast.tw12035511758881942428 : Unit := ()
def PySem.W.Fast.tw3472960470759642912 : Unit := ()
def PySem.W.Fast.tw8740878955747295543 : Unit := ()
def PySem.W.Fast.tw13297005519265458341 : Unit := ()
def PySem.W.Fast.tw1585723556943758449 : Unit := ()
def PySem.W.Fast.tw2095031027097695211 : Unit := ()
def PySem.W.Fast.tw2322584077704018263 : Unit := ()
def PySem.W.Fast.tw9280545451823339288 : Unit := ()
def PySem.W.Fast.tw5893479314375291317 : Unit := ()
def PySem.W.Fast.tw12580926852883243466 : Unit := ()
def PySem.W.Fast.tw4622359491279914970 : Unit := ()
def PySem.W.Fast.tw11375538581613017395 : Unit := ()
def PySem.W.Fast.tw2262058032859768017 : Unit := ()
def PySem.W.Fast.tw18119029056194973281 : Unit := ()
def PySem.W.Fast.tw1646739352737952471 : Unit := ()
def PySem.W.Fast.tw5505761337343455928 : Unit := ()
def PySem.W.Fast.tw8642359115964716308 : Unit := ()
def PySem.W.Fast.tw1377105186519196473 : Unit := ()
def PySem.W.Fast.tw3785802351801799816 : Unit := ()
def PySem.W.Fast.tw15603526028545455064 : Unit := ()
def PySem.W.Fast.tw1200312819998012461 : Unit := ()
def PySem.W.Fast.tw8975090293591073212 : Unit := ()
def PySem.W.Fast.tw1023335769982534165 : Unit := ()
def PySem.W.Fast.tw13359332126855761225 : Unit := ()
def PySem.W.Fast.tw10628866692750922848 : Unit := ()
def PySem.W.Fast.tw1746125007329080083 : Unit := ()
def PySem.W.Fast.tw14145691858469903674 : Unit := ()
def PySem.W.Fast.tw11501507091485142850 : Unit := ()
def PySem.W.Fast.tw10982253917275319389 : Unit := ()
def PySem.W.Fast.tw3581008223126025939 : Unit := ()
def PySem.W.Fast.tw1273235877583055373 : Unit := ()
def PySem.W.Fast.tw7426799714174559545 : Unit := ()
def PySem.W.Fast.tw12561601933476857877 : Unit := ()
def PySem.W.Fast.tw3097203092635055861 : Unit := ()
def PySem.W.Fast.tw6612262606401744790 : Unit := ()
def PySem.W.Fast.tw2193546302187767173 : Unit := ()
def PySem.W.Fast.tw3328056452411196526 : Unit := ()
def PySem.W.Fast.tw6078463737511521675 : Unit := ()
def PySem.W.Fast.tw7752194176824065570 : Unit := ()
def PySem.W.Fast.tw4267183799395718717 : Unit := ()
def PySem.W.Fast.tw13874745824329491660 : Unit := ()
def PySem.W.Fast.tw8756426746887444100 : Unit := ()
def PySem.W.Fast.tw11981088156376090502 : Unit := ()
def PySem.W.Fast.tw4690365051480033289 : Unit := ()
def PySem.W.Fast.tw17571092017075803431 : Unit := ()
def PySem.W.Fast.tw11973369979895233458 : Unit := ()
def PySem.W.Fast.tw5420914134595505726 : Unit := ()
def PySem.W.Fast.tw9169996494066588832 : Unit := ()
def PySem.W.Fast.tw16381491072362022249 : Unit := ()
def PySem.W.Fast.tw15015421245647077810 : Unit := ()
def PySem.W.Fast.tw17622844479508695740 : Unit := ()
def PySem.W.Fast.tw17314830080623705009 : Unit := ()
def PySem.W.Fast.tw15379696619641938159 : Unit := ()
def PySem.W.Fast.tw13690434881396013946 : Unit := ()
def PySem.W.Fast.tw11190000890280177569 : Unit := ()
def PySem.W.Fast.tw17460674381017637592 : Unit := ()
def PySem.W.Fast.tw16598964482072934690 : Unit := ()
def PySem.W.Fast.tw3790550940800742924 : Unit := ()
def PySem.W.Fast.tw10243032231919850231 : Unit := ()
def PySem.W.Fast.tw1636492014526786845 : Unit := ()
namespace BD
open PySem L2
abbrev Tl (E_BadRow : Addr) : Tab := TabL [] [(1, .ref E_BadRow)] []
theorem all_mk {l : PySem.W.OpenLaw} {w : World} {K : PySem.W.Frag} {h : Heap} {mg : Str → Option Value} {fa : Addr} (X : K.In h) (G : h.Ns mainGlobals mg) (hfa : mg "law" = some (.ref fa)) {f_q_number : Addr} {f_q_low : Addr} {f_q_row : Addr} {f_is_whole : Addr} {f_is_weight : Addr} {f_common : Addr} {f_is_share : Addr} {f_is_row_share : Addr} {f_is_bead : Addr} {f_compared : Addr} {f_places_rise : Addr} {f_is_row : Addr} {f_need_row : Addr} {f_runs_of : Addr} {f_lowest : Addr} {f_lessened : Addr} {f_parted : Addr} {f_wait_between : Addr} {f_first_wait : Addr} {f_part_stretch : Addr} {f_met_stretches : Addr} {f_by_places : Addr} {f_added : Addr} {f_multiplied : Addr} {f_moved : Addr} {f_first_meet : Addr} {f_q_far : Addr} {f_q_whole : Addr} {f_q_is_share : Addr} {f_q_sum : Addr} {f_q_by : Addr} {f_q_there : Addr} {f_q_right : Addr} {f_law : Addr} {dv_q_row : Addr} {dt_q_row : Tok} {dn_q_row : Nat} {dd_q_row : Option Addr} {ds_q_row : Array (Option Value)} {E_BadRow : Addr} {t_MOST_BEADS : Tok} {t_MOST_BOTTOM : Tok} {t_MOST_TOP : Tok} {t_MOST_WEIGHT : Tok}
    {od_q_number an_q_number : Option Addr} {sl_q_number : Array (Option Value)} {oc_q_number kV_q_number dc_q_number pm_q_number cd_q_number ct_q_number : Value} {od_q_low an_q_low : Option Addr} {sl_q_low : Array (Option Value)} {oc_q_low kV_q_low dc_q_low pm_q_low cd_q_low ct_q_low : Value} {od_q_row an_q_row : Option Addr} {sl_q_row : Array (Option Value)} {oc_q_row kV_q_row dc_q_row pm_q_row cd_q_row ct_q_row : Value} {od_is_whole an_is_whole : Option Addr} {sl_is_whole : Array (Option Value)} {oc_is_whole kV_is_whole dc_is_whole pm_is_whole cd_is_whole ct_is_whole : Value} {od_is_weight an_is_weight : Option Addr} {sl_is_weight : Array (Option Value)} {oc_is_weight kV_is_weight dc_is_weight pm_is_weight cd_is_weight ct_is_weight : Value} {od_common an_common : Option Addr} {sl_common : Array (Option Value)} {oc_common kV_common dc_common pm_common cd_common ct_common : Value} {od_is_share an_is_share : Option Addr} {sl_is_share : Array (Option Value)} {oc_is_share kV_is_share dc_is_share pm_is_share cd_is_share ct_is_share : Value} {od_is_row_share an_is_row_share : Option Addr} {sl_is_row_share : Array (Option Value)} {oc_is_row_share kV_is_row_share dc_is_row_share pm_is_row_share cd_is_row_share ct_is_row_share : Value} {od_is_bead an_is_bead : Option Addr} {sl_is_bead : Array (Option Value)} {oc_is_bead kV_is_bead dc_is_bead pm_is_bead cd_is_bead ct_is_bead : Value} {od_compared an_compared : Option Addr} {sl_compared : Array (Option Value)} {oc_compared kV_compared dc_compared pm_compared cd_compared ct_compared : Value} {od_places_rise an_places_rise : Option Addr} {sl_places_rise : Array (Option Value)} {oc_places_rise kV_places_rise dc_places_rise pm_places_rise cd_places_rise ct_places_rise : Value} {od_is_row an_is_row : Option Addr} {sl_is_row : Array (Option Value)} {oc_is_row kV_is_row dc_is_row pm_is_row cd_is_row ct_is_row : Value} {od_need_row an_need_row : Option Addr} {sl_need_row : Array (Option Value)} {oc_need_row kV_need_row dc_need_row pm_need_row cd_need_row ct_need_row : Value} {od_runs_of an_runs_of : Option Addr} {sl_runs_of : Array (Option Value)} {oc_runs_of kV_runs_of dc_runs_of pm_runs_of cd_runs_of ct_runs_of : Value} {od_lowest an_lowest : Option Addr} {sl_lowest : Array (Option Value)} {oc_lowest kV_lowest dc_lowest pm_lowest cd_lowest ct_lowest : Value} {od_lessened an_lessened : Option Addr} {sl_lessened : Array (Option Value)} {oc_lessened kV_lessened dc_lessened pm_lessened cd_lessened ct_lessened : Value} {od_parted an_parted : Option Addr} {sl_parted : Array (Option Value)} {oc_parted kV_parted dc_parted pm_parted cd_parted ct_parted : Value} {od_wait_between an_wait_between : Option Addr} {sl_wait_between : Array (Option Value)} {oc_wait_between kV_wait_between dc_wait_between pm_wait_between cd_wait_between ct_wait_between : Value} {od_first_wait an_first_wait : Option Addr} {sl_first_wait : Array (Option Value)} {oc_first_wait kV_first_wait dc_first_wait pm_first_wait cd_first_wait ct_first_wait : Value} {od_part_stretch an_part_stretch : Option Addr} {sl_part_stretch : Array (Option Value)} {oc_part_stretch kV_part_stretch dc_part_stretch pm_part_stretch cd_part_stretch ct_part_stretch : Value} {od_met_stretches an_met_stretches : Option Addr} {sl_met_stretches : Array (Option Value)} {oc_met_stretches kV_met_stretches dc_met_stretches pm_met_stretches cd_met_stretches ct_met_stretches : Value} {od_by_places an_by_places : Option Addr} {sl_by_places : Array (Option Value)} {oc_by_places kV_by_places dc_by_places pm_by_places cd_by_places ct_by_places : Value} {od_added an_added : Option Addr} {sl_added : Array (Option Value)} {oc_added kV_added dc_added pm_added cd_added ct_added : Value} {od_multiplied an_multiplied : Option Addr} {sl_multiplied : Array (Option Value)} {oc_multiplied kV_multiplied dc_multiplied pm_multiplied cd_multiplied ct_multiplied : Value} {od_moved an_moved : Option Addr} {sl_moved : Array (Option Value)} {oc_moved kV_moved dc_moved pm_moved cd_moved ct_moved : Value} {od_first_meet an_first_meet : Option Addr} {sl_first_meet : Array (Option Value)} {oc_first_meet kV_first_meet dc_first_meet pm_first_meet cd_first_meet ct_first_meet : Value} {od_q_far an_q_far : Option Addr} {sl_q_far : Array (Option Value)} {oc_q_far kV_q_far dc_q_far pm_q_far cd_q_far ct_q_far : Value} {od_q_whole an_q_whole : Option Addr} {sl_q_whole : Array (Option Value)} {oc_q_whole kV_q_whole dc_q_whole pm_q_whole cd_q_whole ct_q_whole : Value} {od_q_is_share an_q_is_share : Option Addr} {sl_q_is_share : Array (Option Value)} {oc_q_is_share kV_q_is_share dc_q_is_share pm_q_is_share cd_q_is_share ct_q_is_share : Value} {od_q_sum an_q_sum : Option Addr} {sl_q_sum : Array (Option Value)} {oc_q_sum kV_q_sum dc_q_sum pm_q_sum cd_q_sum ct_q_sum : Value} {od_q_by an_q_by : Option Addr} {sl_q_by : Array (Option Value)} {oc_q_by kV_q_by dc_q_by pm_q_by cd_q_by ct_q_by : Value} {od_q_there an_q_there : Option Addr} {sl_q_there : Array (Option Value)} {oc_q_there kV_q_there dc_q_there pm_q_there cd_q_there ct_q_there : Value} {od_q_right an_q_right : Option Addr} {sl_q_right : Array (Option Value)} {oc_q_right kV_q_right dc_q_right pm_q_right cd_q_right ct_q_right : Value} {od_law an_law : Option Addr} {sl_law : Array (Option Value)} {oc_law kV_law dc_law pm_law cd_law ct_law : Value}
    (a_q_number : PySem.W.nsIn K mainGlobals "_law_number" = some (some (.ref f_q_number))) (l_q_number : K.lookup f_q_number = some ⟨oc_q_number, od_q_number, .func (PySem.W.fnOf "_law_number" "_law_number" (defArgs s_q_number) (defBody s_q_number) (defScope s_q_number) .none kV_q_number dc_q_number pm_q_number an_q_number cd_q_number ct_q_number), sl_q_number⟩) (c_q_number : PySem.W.codeIn K cd_q_number "_law_number" = true) (k_q_number : PySem.W.keepIn K (.ref f_q_number) = true)
    (a_q_low : PySem.W.nsIn K mainGlobals "_law_low" = some (some (.ref f_q_low))) (l_q_low : K.lookup f_q_low = some ⟨oc_q_low, od_q_low, .func (PySem.W.fnOf "_law_low" "_law_low" (defArgs s_q_low) (defBody s_q_low) (defScope s_q_low) .none kV_q_low dc_q_low pm_q_low an_q_low cd_q_low ct_q_low), sl_q_low⟩) (c_q_low : PySem.W.codeIn K cd_q_low "_law_low" = true) (k_q_low : PySem.W.keepIn K (.ref f_q_low) = true)
    (a_q_row : PySem.W.nsIn K mainGlobals "_law_row" = some (some (.ref f_q_row))) (l_q_row : K.lookup f_q_row = some ⟨oc_q_row, od_q_row, .func (PySem.W.fnOf "_law_row" "_law_row" (defArgs s_q_row) (defBody s_q_row) (defScope s_q_row) (.ref dv_q_row) kV_q_row dc_q_row pm_q_row an_q_row cd_q_row ct_q_row), sl_q_row⟩) (c_q_row : PySem.W.codeIn K cd_q_row "_law_row" = true) (k_q_row : PySem.W.keepIn K (.ref f_q_row) = true)
    (e_q_row : K.lookup dv_q_row = some ⟨.type "tuple", dd_q_row, .seq #[.int 10 dt_q_row] dn_q_row, ds_q_row⟩)
    (a_is_whole : PySem.W.nsIn K mainGlobals "is_whole" = some (some (.ref f_is_whole))) (l_is_whole : K.lookup f_is_whole = some ⟨oc_is_whole, od_is_whole, .func (PySem.W.fnOf "is_whole" "is_whole" (defArgs s_is_whole) (defBody s_is_whole) (defScope s_is_whole) .none kV_is_whole dc_is_whole pm_is_whole an_is_whole cd_is_whole ct_is_whole), sl_is_whole⟩) (c_is_whole : PySem.W.codeIn K cd_is_whole "is_whole" = true) (k_is_whole : PySem.W.keepIn K (.ref f_is_whole) = true)
    (a_is_weight : PySem.W.nsIn K mainGlobals "is_weight" = some (some (.ref f_is_weight))) (l_is_weight : K.lookup f_is_weight = some ⟨oc_is_weight, od_is_weight, .func (PySem.W.fnOf "is_weight" "is_weight" (defArgs s_is_weight) (defBody s_is_weight) (defScope s_is_weight) .none kV_is_weight dc_is_weight pm_is_weight an_is_weight cd_is_weight ct_is_weight), sl_is_weight⟩) (c_is_weight : PySem.W.codeIn K cd_is_weight "is_weight" = true) (k_is_weight : PySem.W.keepIn K (.ref f_is_weight) = true)
    (a_common : PySem.W.nsIn K mainGlobals "common" = some (some (.ref f_common))) (l_common : K.lookup f_common = some ⟨oc_common, od_common, .func (PySem.W.fnOf "common" "common" (defArgs s_common) (defBody s_common) (defScope s_common) .none kV_common dc_common pm_common an_common cd_common ct_common), sl_common⟩) (c_common : PySem.W.codeIn K cd_common "common" = true) (k_common : PySem.W.keepIn K (.ref f_common) = true)
    (a_is_share : PySem.W.nsIn K mainGlobals "is_share" = some (some (.ref f_is_share))) (l_is_share : K.lookup f_is_share = some ⟨oc_is_share, od_is_share, .func (PySem.W.fnOf "is_share" "is_share" (defArgs s_is_share) (defBody s_is_share) (defScope s_is_share) .none kV_is_share dc_is_share pm_is_share an_is_share cd_is_share ct_is_share), sl_is_share⟩) (c_is_share : PySem.W.codeIn K cd_is_share "is_share" = true) (k_is_share : PySem.W.keepIn K (.ref f_is_share) = true)
    (a_is_row_share : PySem.W.nsIn K mainGlobals "is_row_share" = some (some (.ref f_is_row_share))) (l_is_row_share : K.lookup f_is_row_share = some ⟨oc_is_row_share, od_is_row_share, .func (PySem.W.fnOf "is_row_share" "is_row_share" (defArgs s_is_row_share) (defBody s_is_row_share) (defScope s_is_row_share) .none kV_is_row_share dc_is_row_share pm_is_row_share an_is_row_share cd_is_row_share ct_is_row_share), sl_is_row_share⟩) (c_is_row_share : PySem.W.codeIn K cd_is_row_share "is_row_share" = true) (k_is_row_share : PySem.W.keepIn K (.ref f_is_row_share) = true)
    (a_is_bead : PySem.W.nsIn K mainGlobals "is_bead" = some (some (.ref f_is_bead))) (l_is_bead : K.lookup f_is_bead = some ⟨oc_is_bead, od_is_bead, .func (PySem.W.fnOf "is_bead" "is_bead" (defArgs s_is_bead) (defBody s_is_bead) (defScope s_is_bead) .none kV_is_bead dc_is_bead pm_is_bead an_is_bead cd_is_bead ct_is_bead), sl_is_bead⟩) (c_is_bead : PySem.W.codeIn K cd_is_bead "is_bead" = true) (k_is_bead : PySem.W.keepIn K (.ref f_is_bead) = true)
    (a_compared : PySem.W.nsIn K mainGlobals "compared" = some (some (.ref f_compared))) (l_compared : K.lookup f_compared = some ⟨oc_compared, od_compared, .func (PySem.W.fnOf "compared" "compared" (defArgs s_compared) (defBody s_compared) (defScope s_compared) .none kV_compared dc_compared pm_compared an_compared cd_compared ct_compared), sl_compared⟩) (c_compared : PySem.W.codeIn K cd_compared "compared" = true) (k_compared : PySem.W.keepIn K (.ref f_compared) = true)
    (a_places_rise : PySem.W.nsIn K mainGlobals "places_rise" = some (some (.ref f_places_rise))) (l_places_rise : K.lookup f_places_rise = some ⟨oc_places_rise, od_places_rise, .func (PySem.W.fnOf "places_rise" "places_rise" (defArgs s_places_rise) (defBody s_places_rise) (defScope s_places_rise) .none kV_places_rise dc_places_rise pm_places_rise an_places_rise cd_places_rise ct_places_rise), sl_places_rise⟩) (c_places_rise : PySem.W.codeIn K cd_places_rise "places_rise" = true) (k_places_rise : PySem.W.keepIn K (.ref f_places_rise) = true)
    (a_is_row : PySem.W.nsIn K mainGlobals "is_row" = some (some (.ref f_is_row))) (l_is_row : K.lookup f_is_row = some ⟨oc_is_row, od_is_row, .func (PySem.W.fnOf "is_row" "is_row" (defArgs s_is_row) (defBody s_is_row) (defScope s_is_row) .none kV_is_row dc_is_row pm_is_row an_is_row cd_is_row ct_is_row), sl_is_row⟩) (c_is_row : PySem.W.codeIn K cd_is_row "is_row" = true) (k_is_row : PySem.W.keepIn K (.ref f_is_row) = true)
    (a_need_row : PySem.W.nsIn K mainGlobals "need_row" = some (some (.ref f_need_row))) (l_need_row : K.lookup f_need_row = some ⟨oc_need_row, od_need_row, .func (PySem.W.fnOf "need_row" "need_row" (defArgs s_need_row) (defBody s_need_row) (defScope s_need_row) .none kV_need_row dc_need_row pm_need_row an_need_row cd_need_row ct_need_row), sl_need_row⟩) (c_need_row : PySem.W.codeIn K cd_need_row "need_row" = true) (k_need_row : PySem.W.keepIn K (.ref f_need_row) = true)
    (a_runs_of : PySem.W.nsIn K mainGlobals "runs_of" = some (some (.ref f_runs_of))) (l_runs_of : K.lookup f_runs_of = some ⟨oc_runs_of, od_runs_of, .func (PySem.W.fnOf "runs_of" "runs_of" (defArgs s_runs_of) (defBody s_runs_of) (defScope s_runs_of) .none kV_runs_of dc_runs_of pm_runs_of an_runs_of cd_runs_of ct_runs_of), sl_runs_of⟩) (c_runs_of : PySem.W.codeIn K cd_runs_of "runs_of" = true) (k_runs_of : PySem.W.keepIn K (.ref f_runs_of) = true)
    (a_lowest : PySem.W.nsIn K mainGlobals "lowest" = some (some (.ref f_lowest))) (l_lowest : K.lookup f_lowest = some ⟨oc_lowest, od_lowest, .func (PySem.W.fnOf "lowest" "lowest" (defArgs s_lowest) (defBody s_lowest) (defScope s_lowest) .none kV_lowest dc_lowest pm_lowest an_lowest cd_lowest ct_lowest), sl_lowest⟩) (c_lowest : PySem.W.codeIn K cd_lowest "lowest" = true) (k_lowest : PySem.W.keepIn K (.ref f_lowest) = true)
    (a_lessened : PySem.W.nsIn K mainGlobals "lessened" = some (some (.ref f_lessened))) (l_lessened : K.lookup f_lessened = some ⟨oc_lessened, od_lessened, .func (PySem.W.fnOf "lessened" "lessened" (defArgs s_lessened) (defBody s_lessened) (defScope s_lessened) .none kV_lessened dc_lessened pm_lessened an_lessened cd_lessened ct_lessened), sl_lessened⟩) (c_lessened : PySem.W.codeIn K cd_lessened "lessened" = true) (k_lessened : PySem.W.keepIn K (.ref f_lessened) = true)
    (a_parted : PySem.W.nsIn K mainGlobals "parted" = some (some (.ref f_parted))) (l_parted : K.lookup f_parted = some ⟨oc_parted, od_parted, .func (PySem.W.fnOf "parted" "parted" (defArgs s_parted) (defBody s_parted) (defScope s_parted) .none kV_parted dc_parted pm_parted an_parted cd_parted ct_parted), sl_parted⟩) (c_parted : PySem.W.codeIn K cd_parted "parted" = true) (k_parted : PySem.W.keepIn K (.ref f_parted) = true)
    (a_wait_between : PySem.W.nsIn K mainGlobals "wait_between" = some (some (.ref f_wait_between))) (l_wait_between : K.lookup f_wait_between = some ⟨oc_wait_between, od_wait_between, .func (PySem.W.fnOf "wait_between" "wait_between" (defArgs s_wait_between) (defBody s_wait_between) (defScope s_wait_between) .none kV_wait_between dc_wait_between pm_wait_between an_wait_between cd_wait_between ct_wait_between), sl_wait_between⟩) (c_wait_between : PySem.W.codeIn K cd_wait_between "wait_between" = true) (k_wait_between : PySem.W.keepIn K (.ref f_wait_between) = true)
    (a_first_wait : PySem.W.nsIn K mainGlobals "first_wait" = some (some (.ref f_first_wait))) (l_first_wait : K.lookup f_first_wait = some ⟨oc_first_wait, od_first_wait, .func (PySem.W.fnOf "first_wait" "first_wait" (defArgs s_first_wait) (defBody s_first_wait) (defScope s_first_wait) .none kV_first_wait dc_first_wait pm_first_wait an_first_wait cd_first_wait ct_first_wait), sl_first_wait⟩) (c_first_wait : PySem.W.codeIn K cd_first_wait "first_wait" = true) (k_first_wait : PySem.W.keepIn K (.ref f_first_wait) = true)
    (a_part_stretch : PySem.W.nsIn K mainGlobals "part_stretch" = some (some (.ref f_part_stretch))) (l_part_stretch : K.lookup f_part_stretch = some ⟨oc_part_stretch, od_part_stretch, .func (PySem.W.fnOf "part_stretch" "part_stretch" (defArgs s_part_stretch) (defBody s_part_stretch) (defScope s_part_stretch) .none kV_part_stretch dc_part_stretch pm_part_stretch an_part_stretch cd_part_stretch ct_part_stretch), sl_part_stretch⟩) (c_part_stretch : PySem.W.codeIn K cd_part_stretch "part_stretch" = true) (k_part_stretch : PySem.W.keepIn K (.ref f_part_stretch) = true)
    (a_met_stretches : PySem.W.nsIn K mainGlobals "met_stretches" = some (some (.ref f_met_stretches))) (l_met_stretches : K.lookup f_met_stretches = some ⟨oc_met_stretches, od_met_stretches, .func (PySem.W.fnOf "met_stretches" "met_stretches" (defArgs s_met_stretches) (defBody s_met_stretches) (defScope s_met_stretches) .none kV_met_stretches dc_met_stretches pm_met_stretches an_met_stretches cd_met_stretches ct_met_stretches), sl_met_stretches⟩) (c_met_stretches : PySem.W.codeIn K cd_met_stretches "met_stretches" = true) (k_met_stretches : PySem.W.keepIn K (.ref f_met_stretches) = true)
    (a_by_places : PySem.W.nsIn K mainGlobals "by_places" = some (some (.ref f_by_places))) (l_by_places : K.lookup f_by_places = some ⟨oc_by_places, od_by_places, .func (PySem.W.fnOf "by_places" "by_places" (defArgs s_by_places) (defBody s_by_places) (defScope s_by_places) .none kV_by_places dc_by_places pm_by_places an_by_places cd_by_places ct_by_places), sl_by_places⟩) (c_by_places : PySem.W.codeIn K cd_by_places "by_places" = true) (k_by_places : PySem.W.keepIn K (.ref f_by_places) = true)
    (a_added : PySem.W.nsIn K mainGlobals "added" = some (some (.ref f_added))) (l_added : K.lookup f_added = some ⟨oc_added, od_added, .func (PySem.W.fnOf "added" "added" (defArgs s_added) (defBody s_added) (defScope s_added) .none kV_added dc_added pm_added an_added cd_added ct_added), sl_added⟩) (c_added : PySem.W.codeIn K cd_added "added" = true) (k_added : PySem.W.keepIn K (.ref f_added) = true)
    (a_multiplied : PySem.W.nsIn K mainGlobals "multiplied" = some (some (.ref f_multiplied))) (l_multiplied : K.lookup f_multiplied = some ⟨oc_multiplied, od_multiplied, .func (PySem.W.fnOf "multiplied" "multiplied" (defArgs s_multiplied) (defBody s_multiplied) (defScope s_multiplied) .none kV_multiplied dc_multiplied pm_multiplied an_multiplied cd_multiplied ct_multiplied), sl_multiplied⟩) (c_multiplied : PySem.W.codeIn K cd_multiplied "multiplied" = true) (k_multiplied : PySem.W.keepIn K (.ref f_multiplied) = true)
    (a_moved : PySem.W.nsIn K mainGlobals "moved" = some (some (.ref f_moved))) (l_moved : K.lookup f_moved = some ⟨oc_moved, od_moved, .func (PySem.W.fnOf "moved" "moved" (defArgs s_moved) (defBody s_moved) (defScope s_moved) .none kV_moved dc_moved pm_moved an_moved cd_moved ct_moved), sl_moved⟩) (c_moved : PySem.W.codeIn K cd_moved "moved" = true) (k_moved : PySem.W.keepIn K (.ref f_moved) = true)
    (a_first_meet : PySem.W.nsIn K mainGlobals "first_meet" = some (some (.ref f_first_meet))) (l_first_meet : K.lookup f_first_meet = some ⟨oc_first_meet, od_first_meet, .func (PySem.W.fnOf "first_meet" "first_meet" (defArgs s_first_meet) (defBody s_first_meet) (defScope s_first_meet) .none kV_first_meet dc_first_meet pm_first_meet an_first_meet cd_first_meet ct_first_meet), sl_first_meet⟩) (c_first_meet : PySem.W.codeIn K cd_first_meet "first_meet" = true) (k_first_meet : PySem.W.keepIn K (.ref f_first_meet) = true)
    (a_q_far : PySem.W.nsIn K mainGlobals "_law_far" = some (some (.ref f_q_far))) (l_q_far : K.lookup f_q_far = some ⟨oc_q_far, od_q_far, .func (PySem.W.fnOf "_law_far" "_law_far" (defArgs s_q_far) (defBody s_q_far) (defScope s_q_far) .none kV_q_far dc_q_far pm_q_far an_q_far cd_q_far ct_q_far), sl_q_far⟩) (c_q_far : PySem.W.codeIn K cd_q_far "_law_far" = true) (k_q_far : PySem.W.keepIn K (.ref f_q_far) = true)
    (a_q_whole : PySem.W.nsIn K mainGlobals "_law_whole" = some (some (.ref f_q_whole))) (l_q_whole : K.lookup f_q_whole = some ⟨oc_q_whole, od_q_whole, .func (PySem.W.fnOf "_law_whole" "_law_whole" (defArgs s_q_whole) (defBody s_q_whole) (defScope s_q_whole) .none kV_q_whole dc_q_whole pm_q_whole an_q_whole cd_q_whole ct_q_whole), sl_q_whole⟩) (c_q_whole : PySem.W.codeIn K cd_q_whole "_law_whole" = true) (k_q_whole : PySem.W.keepIn K (.ref f_q_whole) = true)
    (a_q_is_share : PySem.W.nsIn K mainGlobals "_law_is_share" = some (some (.ref f_q_is_share))) (l_q_is_share : K.lookup f_q_is_share = some ⟨oc_q_is_share, od_q_is_share, .func (PySem.W.fnOf "_law_is_share" "_law_is_share" (defArgs s_q_is_share) (defBody s_q_is_share) (defScope s_q_is_share) .none kV_q_is_share dc_q_is_share pm_q_is_share an_q_is_share cd_q_is_share ct_q_is_share), sl_q_is_share⟩) (c_q_is_share : PySem.W.codeIn K cd_q_is_share "_law_is_share" = true) (k_q_is_share : PySem.W.keepIn K (.ref f_q_is_share) = true)
    (a_q_sum : PySem.W.nsIn K mainGlobals "_law_sum" = some (some (.ref f_q_sum))) (l_q_sum : K.lookup f_q_sum = some ⟨oc_q_sum, od_q_sum, .func (PySem.W.fnOf "_law_sum" "_law_sum" (defArgs s_q_sum) (defBody s_q_sum) (defScope s_q_sum) .none kV_q_sum dc_q_sum pm_q_sum an_q_sum cd_q_sum ct_q_sum), sl_q_sum⟩) (c_q_sum : PySem.W.codeIn K cd_q_sum "_law_sum" = true) (k_q_sum : PySem.W.keepIn K (.ref f_q_sum) = true)
    (a_q_by : PySem.W.nsIn K mainGlobals "_law_by" = some (some (.ref f_q_by))) (l_q_by : K.lookup f_q_by = some ⟨oc_q_by, od_q_by, .func (PySem.W.fnOf "_law_by" "_law_by" (defArgs s_q_by) (defBody s_q_by) (defScope s_q_by) .none kV_q_by dc_q_by pm_q_by an_q_by cd_q_by ct_q_by), sl_q_by⟩) (c_q_by : PySem.W.codeIn K cd_q_by "_law_by" = true) (k_q_by : PySem.W.keepIn K (.ref f_q_by) = true)
    (a_q_there : PySem.W.nsIn K mainGlobals "_law_there" = some (some (.ref f_q_there))) (l_q_there : K.lookup f_q_there = some ⟨oc_q_there, od_q_there, .func (PySem.W.fnOf "_law_there" "_law_there" (defArgs s_q_there) (defBody s_q_there) (defScope s_q_there) .none kV_q_there dc_q_there pm_q_there an_q_there cd_q_there ct_q_there), sl_q_there⟩) (c_q_there : PySem.W.codeIn K cd_q_there "_law_there" = true) (k_q_there : PySem.W.keepIn K (.ref f_q_there) = true)
    (a_q_right : PySem.W.nsIn K mainGlobals "_law_right" = some (some (.ref f_q_right))) (l_q_right : K.lookup f_q_right = some ⟨oc_q_right, od_q_right, .func (PySem.W.fnOf "_law_right" "_law_right" (defArgs s_q_right) (defBody s_q_right) (defScope s_q_right) .none kV_q_right dc_q_right pm_q_right an_q_right cd_q_right ct_q_right), sl_q_right⟩) (c_q_right : PySem.W.codeIn K cd_q_right "_law_right" = true) (k_q_right : PySem.W.keepIn K (.ref f_q_right) = true)
    (a_law : PySem.W.nsIn K mainGlobals "law" = some (some (.ref f_law))) (l_law : K.lookup f_law = some ⟨oc_law, od_law, .func (PySem.W.fnOf "law" "law" (defArgs s_law) (defBody s_law) (defScope s_law) .none kV_law dc_law pm_law an_law cd_law ct_law), sl_law⟩) (c_law : PySem.W.codeIn K cd_law "law" = true) (k_law : PySem.W.keepIn K (.ref f_law) = true)
    (z_abs : PySem.W.nsIn K mainGlobals "abs" = some none)
    (z_all : PySem.W.nsIn K mainGlobals "all" = some none)
    (z_any : PySem.W.nsIn K mainGlobals "any" = some none)
    (z_bool : PySem.W.nsIn K mainGlobals "bool" = some none)
    (z_enumerate : PySem.W.nsIn K mainGlobals "enumerate" = some none)
    (z_int : PySem.W.nsIn K mainGlobals "int" = some none)
    (z_isinstance : PySem.W.nsIn K mainGlobals "isinstance" = some none)
    (z_len : PySem.W.nsIn K mainGlobals "len" = some none)
    (z_list : PySem.W.nsIn K mainGlobals "list" = some none)
    (z_range : PySem.W.nsIn K mainGlobals "range" = some none)
    (z_set : PySem.W.nsIn K mainGlobals "set" = some none)
    (z_sorted : PySem.W.nsIn K mainGlobals "sorted" = some none)
    (z_sum : PySem.W.nsIn K mainGlobals "sum" = some none)
    (z_tuple : PySem.W.nsIn K mainGlobals "tuple" = some none)
    (a_BadRow : PySem.W.nsIn K mainGlobals "BadRow" = some (some (.ref E_BadRow)))
    (x_BadRow : PySem.W.excIn K E_BadRow veB "ValueError.__new__" = true)
    (a_MOST_BEADS : PySem.W.nsIn K mainGlobals "MOST_BEADS" = some (some (.int 10 t_MOST_BEADS)))
    (a_MOST_BOTTOM : PySem.W.nsIn K mainGlobals "MOST_BOTTOM" = some (some (.int 60 t_MOST_BOTTOM)))
    (a_MOST_TOP : PySem.W.nsIn K mainGlobals "MOST_TOP" = some (some (.int 1000000 t_MOST_TOP)))
    (a_MOST_WEIGHT : PySem.W.nsIn K mainGlobals "MOST_WEIGHT" = some (some (.int 60 t_MOST_WEIGHT))) :
    ∃ (fd : FuncData) (T : Tab), T.hd = none ∧ (∀ (s : Shared) (v : Value), BindsTo s fd ⟨[v], []⟩ [("_law_script", v)]) ∧ ∀ base : Heap, K.In base → base.Ns mainGlobals mg → FnOk l.prog w K mg base (CXf l.prog w) 9 fa fd ["_law_script"] (spM T K M_law) := by
  have e := hfa.symm.trans (PySem.W.mg_of X G a_law)
  cases e
  have Z : Txt K mg := ⟨trivial, PySem.W.mg_none_of X G z_abs, PySem.W.mg_none_of X G z_all, PySem.W.mg_none_of X G z_any, PySem.W.mg_none_of X G z_bool, PySem.W.mg_none_of X G z_enumerate, PySem.W.mg_none_of X G z_int, PySem.W.mg_none_of X G z_isinstance, PySem.W.mg_none_of X G z_len, PySem.W.mg_none_of X G z_list, PySem.W.mg_none_of X G z_range, PySem.W.mg_none_of X G z_set, PySem.W.mg_none_of X G z_sorted, PySem.W.mg_none_of X G z_sum, PySem.W.mg_none_of X G z_tuple, ⟨_, PySem.W.mg_of X G a_MOST_BEADS⟩, ⟨_, PySem.W.mg_of X G a_MOST_BOTTOM⟩, ⟨_, PySem.W.mg_of X G a_MOST_TOP⟩, ⟨_, PySem.W.mg_of X G a_MOST_WEIGHT⟩⟩
  have F_q_number := fun_mk (st := s_q_number) l_q_number c_q_number k_q_number
  have D_q_number := fund_mk (st := s_q_number) l_q_number c_q_number k_q_number
  have b_q_number := F_q_number.binds (ps := ["_law_cell", "_law_at", "_law_whole_here"]) fun _ _ _ _ _ _ us hl => match us, hl with | [_, _, _], _ => rfl
  have F_q_low := fun_mk (st := s_q_low) l_q_low c_q_low k_q_low
  have D_q_low := fund_mk (st := s_q_low) l_q_low c_q_low k_q_low
  have b_q_low := F_q_low.binds (ps := ["_law_top", "_law_bottom"]) fun _ _ _ _ _ _ us hl => match us, hl with | [_, _], _ => rfl
  have F_q_row := fund_mk (st := s_q_row) l_q_row c_q_row k_q_row
  have b_q_row : Binds K _ ["_law_script", "_law_by_here", "_law_alike", "_law_most"] [.int 10 dt_q_row] := fun s us KX hl => by
    have hl2 : us.length = 3 := by simpa using hl
    match us, hl2 with
    | [_, _, _], _ => exact PySem.W.binds_K (fd := PySem.W.fnOf "_law_row" "_law_row" (defArgs s_q_row) (defBody s_q_row) (defScope s_q_row) (.ref dv_q_row) kV_q_row dc_q_row pm_q_row an_q_row cd_q_row ct_q_row) KX rfl e_q_row rfl rfl rfl
  have bF_q_row : Binds K (PySem.W.fnOf "_law_row" "_law_row" (defArgs s_q_row) (defBody s_q_row) (defScope s_q_row) (.ref dv_q_row) kV_q_row dc_q_row pm_q_row an_q_row cd_q_row ct_q_row) ["_law_script", "_law_by_here", "_law_alike", "_law_most"] [] := fun s us KX hl => by
    have hl2 : us.length = 4 := by simpa using hl
    match us, hl2 with
    | [_, _, _, _], _ => exact PySem.W.binds_K (fd := PySem.W.fnOf "_law_row" "_law_row" (defArgs s_q_row) (defBody s_q_row) (defScope s_q_row) (.ref dv_q_row) kV_q_row dc_q_row pm_q_row an_q_row cd_q_row ct_q_row) KX rfl e_q_row rfl rfl rfl
  have F_is_whole := fun_mk (st := s_is_whole) l_is_whole c_is_whole k_is_whole
  have D_is_whole := fund_mk (st := s_is_whole) l_is_whole c_is_whole k_is_whole
  have b_is_whole := F_is_whole.binds (ps := ["value"]) fun _ _ _ _ _ _ us hl => match us, hl with | [_], _ => rfl
  have F_is_weight := fun_mk (st := s_is_weight) l_is_weight c_is_weight k_is_weight
  have D_is_weight := fund_mk (st := s_is_weight) l_is_weight c_is_weight k_is_weight
  have b_is_weight := F_is_weight.binds (ps := ["value"]) fun _ _ _ _ _ _ us hl => match us, hl with | [_], _ => rfl
  have F_common := fun_mk (st := s_common) l_common c_common k_common
  have D_common := fund_mk (st := s_common) l_common c_common k_common
  have b_common := F_common.binds (ps := ["one", "other"]) fun _ _ _ _ _ _ us hl => match us, hl with | [_, _], _ => rfl
  have F_is_share := fun_mk (st := s_is_share) l_is_share c_is_share k_is_share
  have D_is_share := fund_mk (st := s_is_share) l_is_share c_is_share k_is_share
  have b_is_share := F_is_share.binds (ps := ["value"]) fun _ _ _ _ _ _ us hl => match us, hl with | [_], _ => rfl
  have F_is_row_share := fun_mk (st := s_is_row_share) l_is_row_share c_is_row_share k_is_row_share
  have D_is_row_share := fund_mk (st := s_is_row_share) l_is_row_share c_is_row_share k_is_row_share
  have b_is_row_share := F_is_row_share.binds (ps := ["value"]) fun _ _ _ _ _ _ us hl => match us, hl with | [_], _ => rfl
  have F_is_bead := fun_mk (st := s_is_bead) l_is_bead c_is_bead k_is_bead
  have D_is_bead := fund_mk (st := s_is_bead) l_is_bead c_is_bead k_is_bead
  have b_is_bead := F_is_bead.binds (ps := ["value"]) fun _ _ _ _ _ _ us hl => match us, hl with | [_], _ => rfl
  have F_compared := fun_mk (st := s_compared) l_compared c_compared k_compared
  have D_compared := fund_mk (st := s_compared) l_compared c_compared k_compared
  have b_compared := F_compared.binds (ps := ["one", "other"]) fun _ _ _ _ _ _ us hl => match us, hl with | [_, _], _ => rfl
  have F_places_rise := fun_mk (st := s_places_rise) l_places_rise c_places_rise k_places_rise
  have D_places_rise := fund_mk (st := s_places_rise) l_places_rise c_places_rise k_places_rise
  have b_places_rise := F_places_rise.binds (ps := ["beads"]) fun _ _ _ _ _ _ us hl => match us, hl with | [_], _ => rfl
  have F_is_row := fun_mk (st := s_is_row) l_is_row c_is_row k_is_row
  have D_is_row := fund_mk (st := s_is_row) l_is_row c_is_row k_is_row
  have b_is_row := F_is_row.binds (ps := ["value"]) fun _ _ _ _ _ _ us hl => match us, hl with | [_], _ => rfl
  have F_need_row := fun_mk (st := s_need_row) l_need_row c_need_row k_need_row
  have D_need_row := fund_mk (st := s_need_row) l_need_row c_need_row k_need_row
  have b_need_row := F_need_row.binds (ps := ["row"]) fun _ _ _ _ _ _ us hl => match us, hl with | [_], _ => rfl
  have F_runs_of := fun_mk (st := s_runs_of) l_runs_of c_runs_of k_runs_of
  have D_runs_of := fund_mk (st := s_runs_of) l_runs_of c_runs_of k_runs_of
  have b_runs_of := F_runs_of.binds (ps := ["row"]) fun _ _ _ _ _ _ us hl => match us, hl with | [_], _ => rfl
  have F_lowest := fun_mk (st := s_lowest) l_lowest c_lowest k_lowest
  have D_lowest := fund_mk (st := s_lowest) l_lowest c_lowest k_lowest
  have b_lowest := F_lowest.binds (ps := ["top", "bottom"]) fun _ _ _ _ _ _ us hl => match us, hl with | [_, _], _ => rfl
  have F_lessened := fun_mk (st := s_lessened) l_lessened c_lessened k_lessened
  have D_lessened := fund_mk (st := s_lessened) l_lessened c_lessened k_lessened
  have b_lessened := F_lessened.binds (ps := ["one", "other"]) fun _ _ _ _ _ _ us hl => match us, hl with | [_, _], _ => rfl
  have F_parted := fun_mk (st := s_parted) l_parted c_parted k_parted
  have D_parted := fund_mk (st := s_parted) l_parted c_parted k_parted
  have b_parted := F_parted.binds (ps := ["one", "other"]) fun _ _ _ _ _ _ us hl => match us, hl with | [_, _], _ => rfl
  have F_wait_between := fun_mk (st := s_wait_between) l_wait_between c_wait_between k_wait_between
  have D_wait_between := fund_mk (st := s_wait_between) l_wait_between c_wait_between k_wait_between
  have b_wait_between := F_wait_between.binds (ps := ["one", "other"]) fun _ _ _ _ _ _ us hl => match us, hl with | [_, _], _ => rfl
  have F_first_wait := fun_mk (st := s_first_wait) l_first_wait c_first_wait k_first_wait
  have D_first_wait := fund_mk (st := s_first_wait) l_first_wait c_first_wait k_first_wait
  have b_first_wait := F_first_wait.binds (ps := ["runs"]) fun _ _ _ _ _ _ us hl => match us, hl with | [_], _ => rfl
  have F_part_stretch := fun_mk (st := s_part_stretch) l_part_stretch c_part_stretch k_part_stretch
  have D_part_stretch := fund_mk (st := s_part_stretch) l_part_stretch c_part_stretch k_part_stretch
  have b_part_stretch := F_part_stretch.binds (ps := ["part"]) fun _ _ _ _ _ _ us hl => match us, hl with | [_], _ => rfl
  have F_met_stretches := fun_mk (st := s_met_stretches) l_met_stretches c_met_stretches k_met_stretches
  have D_met_stretches := fund_mk (st := s_met_stretches) l_met_stretches c_met_stretches k_met_stretches
  have b_met_stretches := F_met_stretches.binds (ps := ["parts"]) fun _ _ _ _ _ _ us hl => match us, hl with | [_], _ => rfl
  have F_by_places := fun_mk (st := s_by_places) l_by_places c_by_places k_by_places
  have D_by_places := fund_mk (st := s_by_places) l_by_places c_by_places k_by_places
  have b_by_places := F_by_places.binds (ps := ["runs"]) fun _ _ _ _ _ _ us hl => match us, hl with | [_], _ => rfl
  have F_added := fun_mk (st := s_added) l_added c_added k_added
  have D_added := fund_mk (st := s_added) l_added c_added k_added
  have b_added := F_added.binds (ps := ["one", "other"]) fun _ _ _ _ _ _ us hl => match us, hl with | [_, _], _ => rfl
  have F_multiplied := fun_mk (st := s_multiplied) l_multiplied c_multiplied k_multiplied
  have D_multiplied := fund_mk (st := s_multiplied) l_multiplied c_multiplied k_multiplied
  have b_multiplied := F_multiplied.binds (ps := ["one", "other"]) fun _ _ _ _ _ _ us hl => match us, hl with | [_, _], _ => rfl
  have F_moved := fun_mk (st := s_moved) l_moved c_moved k_moved
  have D_moved := fund_mk (st := s_moved) l_moved c_moved k_moved
  have b_moved := F_moved.binds (ps := ["runs", "wait"]) fun _ _ _ _ _ _ us hl => match us, hl with | [_, _], _ => rfl
  have F_first_meet := fun_mk (st := s_first_meet) l_first_meet c_first_meet k_first_meet
  have D_first_meet := fund_mk (st := s_first_meet) l_first_meet c_first_meet k_first_meet
  have b_first_meet := F_first_meet.binds (ps := ["row"]) fun _ _ _ _ _ _ us hl => match us, hl with | [_], _ => rfl
  have F_q_far := fun_mk (st := s_q_far) l_q_far c_q_far k_q_far
  have D_q_far := fund_mk (st := s_q_far) l_q_far c_q_far k_q_far
  have b_q_far := F_q_far.binds (ps := ["_law_one", "_law_other"]) fun _ _ _ _ _ _ us hl => match us, hl with | [_, _], _ => rfl
  have F_q_whole := fun_mk (st := s_q_whole) l_q_whole c_q_whole k_q_whole
  have D_q_whole := fund_mk (st := s_q_whole) l_q_whole c_q_whole k_q_whole
  have b_q_whole := F_q_whole.binds (ps := ["_law_found"]) fun _ _ _ _ _ _ us hl => match us, hl with | [_], _ => rfl
  have F_q_is_share := fun_mk (st := s_q_is_share) l_q_is_share c_q_is_share k_q_is_share
  have D_q_is_share := fund_mk (st := s_q_is_share) l_q_is_share c_q_is_share k_q_is_share
  have b_q_is_share := F_q_is_share.binds (ps := ["_law_found"]) fun _ _ _ _ _ _ us hl => match us, hl with | [_], _ => rfl
  have F_q_sum := fun_mk (st := s_q_sum) l_q_sum c_q_sum k_q_sum
  have D_q_sum := fund_mk (st := s_q_sum) l_q_sum c_q_sum k_q_sum
  have b_q_sum := F_q_sum.binds (ps := ["_law_one", "_law_other"]) fun _ _ _ _ _ _ us hl => match us, hl with | [_, _], _ => rfl
  have F_q_by := fun_mk (st := s_q_by) l_q_by c_q_by k_q_by
  have D_q_by := fund_mk (st := s_q_by) l_q_by c_q_by k_q_by
  have b_q_by := F_q_by.binds (ps := ["_law_one", "_law_other"]) fun _ _ _ _ _ _ us hl => match us, hl with | [_, _], _ => rfl
  have F_q_there := fun_mk (st := s_q_there) l_q_there c_q_there k_q_there
  have D_q_there := fund_mk (st := s_q_there) l_q_there c_q_there k_q_there
  have b_q_there := F_q_there.binds (ps := ["_law_line", "_law_moment"]) fun _ _ _ _ _ _ us hl => match us, hl with | [_, _], _ => rfl
  have F_q_right := fun_mk (st := s_q_right) l_q_right c_q_right k_q_right
  have D_q_right := fund_mk (st := s_q_right) l_q_right c_q_right k_q_right
  have b_q_right := F_q_right.binds (ps := ["_law_row_here"]) fun _ _ _ _ _ _ us hl => match us, hl with | [_], _ => rfl
  have F_law := fun_mk (st := s_law) l_law c_law k_law
  have D_law := fund_mk (st := s_law) l_law c_law k_law
  have Y : Txe K mg (Tl E_BadRow) := ⟨tabL_is,
    ⟨⟨_, rfl, PySem.W.mg_of X G a_BadRow, x_BadRow⟩⟩⟩
  refine ⟨PySem.W.fnOf "law" "law" (defArgs s_law) (defBody s_law) (defScope s_law) .none kV_law dc_law pm_law an_law cd_law ct_law, (Tl E_BadRow), rfl, fun s v => .of_eq rfl, fun base _ _ => ?_⟩
  have C_q_number : AllT (Tl E_BadRow) fun T => Cl l.prog w K mg base (CXf l.prog w) T "_law_number" ["_law_cell", "_law_at", "_law_whole_here"] 1 m_q_number := fun φ b => ok_q_number Z (Y.tr φ b none) D_q_number (PySem.W.mg_of X G a_q_number) b_q_number
  have C_q_low : AllT (Tl E_BadRow) fun T => Cl l.prog w K mg base (CXf l.prog w) T "_law_low" ["_law_top", "_law_bottom"] 1 m_q_low := fun φ b => ok_q_low Z (Y.tr φ b none) D_q_low (PySem.W.mg_of X G a_q_low) b_q_low
  have C_q_row : AllT (Tl E_BadRow) fun T => ClD l.prog w K mg base (CXf l.prog w) T "_law_row" ["_law_script", "_law_by_here", "_law_alike", "_law_most"] 2 m_q_row 10 := fun φ b => ok_q_row Z (Y.tr φ b none) (C_q_number φ b) (C_q_low φ b) F_q_row (PySem.W.mg_of X G a_q_row) b_q_row
  have CF_q_row : AllT (Tl E_BadRow) fun T => Cl l.prog w K mg base (CXf l.prog w) T "_law_row" ["_law_script", "_law_by_here", "_law_alike", "_law_most"] 2 m_q_row := fun φ b => okF_q_row Z (Y.tr φ b none) (C_q_number φ b) (C_q_low φ b) F_q_row (PySem.W.mg_of X G a_q_row) bF_q_row
  have C_is_whole : AllT (Tl E_BadRow) fun T => Cl l.prog w K mg base (CXf l.prog w) T "is_whole" ["value"] 1 m_is_whole := fun φ b => ok_is_whole Z (Y.tr φ b none) D_is_whole (PySem.W.mg_of X G a_is_whole) b_is_whole
  have C_is_weight : AllT (Tl E_BadRow) fun T => Cl l.prog w K mg base (CXf l.prog w) T "is_weight" ["value"] 2 m_is_weight := fun φ b => ok_is_weight Z (Y.tr φ b none) (C_is_whole φ b) D_is_weight (PySem.W.mg_of X G a_is_weight) b_is_weight
  have C_common : AllT (Tl E_BadRow) fun T => Cl l.prog w K mg base (CXf l.prog w) T "common" ["one", "other"] 1 m_common := fun φ b => ok_common Z (Y.tr φ b none) D_common (PySem.W.mg_of X G a_common) b_common
  have C_is_share : AllT (Tl E_BadRow) fun T => Cl l.prog w K mg base (CXf l.prog w) T "is_share" ["value"] 2 m_is_share := fun φ b => ok_is_share Z (Y.tr φ b none) (C_is_whole φ b) (C_common φ b) D_is_share (PySem.W.mg_of X G a_is_share) b_is_share
  have C_is_row_share : AllT (Tl E_BadRow) fun T => Cl l.prog w K mg base (CXf l.prog w) T "is_row_share" ["value"] 3 m_is_row_share := fun φ b => ok_is_row_share Z (Y.tr φ b none) (C_is_share φ b) D_is_row_share (PySem.W.mg_of X G a_is_row_share) b_is_row_share
  have C_is_bead : AllT (Tl E_BadRow) fun T => Cl l.prog w K mg base (CXf l.prog w) T "is_bead" ["value"] 4 m_is_bead := fun φ b => ok_is_bead Z (Y.tr φ b none) (C_is_weight φ b) (C_is_row_share φ b) D_is_bead (PySem.W.mg_of X G a_is_bead) b_is_bead
  have C_compared : AllT (Tl E_BadRow) fun T => Cl l.prog w K mg base (CXf l.prog w) T "compared" ["one", "other"] 1 m_compared := fun φ b => ok_compared Z (Y.tr φ b none) D_compared (PySem.W.mg_of X G a_compared) b_compared
  have C_places_rise : AllT (Tl E_BadRow) fun T => Cl l.prog w K mg base (CXf l.prog w) T "places_rise" ["beads"] 2 m_places_rise := fun φ b => ok_places_rise Z (Y.tr φ b none) (C_compared φ b) D_places_rise (PySem.W.mg_of X G a_places_rise) b_places_rise
  have C_is_row : AllT (Tl E_BadRow) fun T => Cl l.prog w K mg base (CXf l.prog w) T "is_row" ["value"] 5 m_is_row := fun φ b => ok_is_row Z (Y.tr φ b none) (C_is_bead φ b) (C_places_rise φ b) D_is_row (PySem.W.mg_of X G a_is_row) b_is_row
  have C_need_row : AllT (Tl E_BadRow) fun T => Cl l.prog w K mg base (CXf l.prog w) T "need_row" ["row"] 6 m_need_row := fun φ b => ok_need_row Z (Y.tr φ b none) (C_is_row φ b) D_need_row (PySem.W.mg_of X G a_need_row) b_need_row
  have C_runs_of : AllT (Tl E_BadRow) fun T => Cl l.prog w K mg base (CXf l.prog w) T "runs_of" ["row"] 1 m_runs_of := fun φ b => ok_runs_of Z (Y.tr φ b none) D_runs_of (PySem.W.mg_of X G a_runs_of) b_runs_of
  have C_lowest : AllT (Tl E_BadRow) fun T => Cl l.prog w K mg base (CXf l.prog w) T "lowest" ["top", "bottom"] 2 m_lowest := fun φ b => ok_lowest Z (Y.tr φ b none) (C_common φ b) D_lowest (PySem.W.mg_of X G a_lowest) b_lowest
  have C_lessened : AllT (Tl E_BadRow) fun T => Cl l.prog w K mg base (CXf l.prog w) T "lessened" ["one", "other"] 3 m_lessened := fun φ b => ok_lessened Z (Y.tr φ b none) (C_lowest φ b) D_lessened (PySem.W.mg_of X G a_lessened) b_lessened
  have C_parted : AllT (Tl E_BadRow) fun T => Cl l.prog w K mg base (CXf l.prog w) T "parted" ["one", "other"] 3 m_parted := fun φ b => ok_parted Z (Y.tr φ b none) (C_lowest φ b) D_parted (PySem.W.mg_of X G a_parted) b_parted
  have C_wait_between : AllT (Tl E_BadRow) fun T => Cl l.prog w K mg base (CXf l.prog w) T "wait_between" ["one", "other"] 4 m_wait_between := fun φ b => ok_wait_between Z (Y.tr φ b none) (C_lessened φ b) (C_parted φ b) D_wait_between (PySem.W.mg_of X G a_wait_between) b_wait_between
  have C_first_wait : AllT (Tl E_BadRow) fun T => Cl l.prog w K mg base (CXf l.prog w) T "first_wait" ["runs"] 5 m_first_wait := fun φ b => ok_first_wait Z (Y.tr φ b none) (C_wait_between φ b) (C_compared φ b) D_first_wait (PySem.W.mg_of X G a_first_wait) b_first_wait
  have C_part_stretch : AllT (Tl E_BadRow) fun T => Cl l.prog w K mg base (CXf l.prog w) T "part_stretch" ["part"] 1 m_part_stretch := fun φ b => ok_part_stretch Z (Y.tr φ b none) D_part_stretch (PySem.W.mg_of X G a_part_stretch) b_part_stretch
  have C_met_stretches : AllT (Tl E_BadRow) fun T => Cl l.prog w K mg base (CXf l.prog w) T "met_stretches" ["parts"] 2 m_met_stretches := fun φ b => ok_met_stretches Z (Y.tr φ b none) (C_part_stretch φ b) D_met_stretches (PySem.W.mg_of X G a_met_stretches) b_met_stretches
  have S_by_places : ClS l.prog w K mg base (CXf l.prog w) (Tl E_BadRow) "by_places" ["runs"] 1 M_by_places := okM_by_places Z Y rfl D_by_places (PySem.W.mg_of X G a_by_places) b_by_places
  have C_by_places : AllT (Tl E_BadRow) fun T => Cl l.prog w K mg base (CXf l.prog w) T "by_places" ["runs"] 1 m_by_places := ClS.pure rfl S_by_places
  have C_added : AllT (Tl E_BadRow) fun T => Cl l.prog w K mg base (CXf l.prog w) T "added" ["one", "other"] 3 m_added := fun φ b => ok_added Z (Y.tr φ b none) (C_lowest φ b) D_added (PySem.W.mg_of X G a_added) b_added
  have C_multiplied : AllT (Tl E_BadRow) fun T => Cl l.prog w K mg base (CXf l.prog w) T "multiplied" ["one", "other"] 3 m_multiplied := fun φ b => ok_multiplied Z (Y.tr φ b none) (C_lowest φ b) D_multiplied (PySem.W.mg_of X G a_multiplied) b_multiplied
  have C_moved : AllT (Tl E_BadRow) fun T => Cl l.prog w K mg base (CXf l.prog w) T "moved" ["runs", "wait"] 4 m_moved := fun φ b => ok_moved Z (Y.tr φ b none) (C_added φ b) (C_multiplied φ b) D_moved (PySem.W.mg_of X G a_moved) b_moved
  have C_first_meet : AllT (Tl E_BadRow) fun T => Cl l.prog w K mg base (CXf l.prog w) T "first_meet" ["row"] 7 m_first_meet := fun φ b => ok_first_meet Z (Y.tr φ b none) (C_need_row φ b) (C_runs_of φ b) (C_first_wait φ b) (C_met_stretches φ b) (C_by_places φ b) (C_moved φ b) D_first_meet (PySem.W.mg_of X G a_first_meet) b_first_meet
  have C_q_far : AllT (Tl E_BadRow) fun T => Cl l.prog w K mg base (CXf l.prog w) T "_law_far" ["_law_one", "_law_other"] 1 m_q_far := fun φ b => ok_q_far Z (Y.tr φ b none) D_q_far (PySem.W.mg_of X G a_q_far) b_q_far
  have C_q_whole : AllT (Tl E_BadRow) fun T => Cl l.prog w K mg base (CXf l.prog w) T "_law_whole" ["_law_found"] 1 m_q_whole := fun φ b => ok_q_whole Z (Y.tr φ b none) D_q_whole (PySem.W.mg_of X G a_q_whole) b_q_whole
  have C_q_is_share : AllT (Tl E_BadRow) fun T => Cl l.prog w K mg base (CXf l.prog w) T "_law_is_share" ["_law_found"] 2 m_q_is_share := fun φ b => ok_q_is_share Z (Y.tr φ b none) (C_q_whole φ b) (C_q_low φ b) D_q_is_share (PySem.W.mg_of X G a_q_is_share) b_q_is_share
  have C_q_sum : AllT (Tl E_BadRow) fun T => Cl l.prog w K mg base (CXf l.prog w) T "_law_sum" ["_law_one", "_law_other"] 2 m_q_sum := fun φ b => ok_q_sum Z (Y.tr φ b none) (C_q_low φ b) D_q_sum (PySem.W.mg_of X G a_q_sum) b_q_sum
  have C_q_by : AllT (Tl E_BadRow) fun T => Cl l.prog w K mg base (CXf l.prog w) T "_law_by" ["_law_one", "_law_other"] 2 m_q_by := fun φ b => ok_q_by Z (Y.tr φ b none) (C_q_low φ b) D_q_by (PySem.W.mg_of X G a_q_by) b_q_by
  have C_q_there : AllT (Tl E_BadRow) fun T => Cl l.prog w K mg base (CXf l.prog w) T "_law_there" ["_law_line", "_law_moment"] 3 m_q_there := fun φ b => ok_q_there Z (Y.tr φ b none) (C_q_sum φ b) (C_q_by φ b) D_q_there (PySem.W.mg_of X G a_q_there) b_q_there
  have S_met_stretches_L : ClS l.prog w K mg base (CXf l.prog w) (Tl E_BadRow) "met_stretches" ["parts"] 2 M_met_stretches_L := okM_met_stretches_L Z Y rfl C_part_stretch D_met_stretches (PySem.W.mg_of X G a_met_stretches) b_met_stretches
  have S_first_meet_L : ClS l.prog w K mg base (CXf l.prog w) (Tl E_BadRow) "first_meet" ["row"] 7 M_first_meet_L := okM_first_meet_L Z Y rfl C_need_row C_runs_of C_first_wait C_by_places C_moved S_met_stretches_L D_first_meet (PySem.W.mg_of X G a_first_meet) b_first_meet
  have S_q_right : ClS l.prog w K mg base (CXf l.prog w) (Tl E_BadRow) "_law_right" ["_law_row_here"] 8 M_q_right := okM_q_right Z Y rfl C_q_far C_q_is_share C_q_whole C_q_there C_first_meet S_first_meet_L D_q_right (PySem.W.mg_of X G a_q_right) b_q_right
  exact okM_law_fn Z Y rfl C_q_row CF_q_row C_first_meet S_q_right D_law
end BD
open PySem PySem.W PyProof.Rows
set_option maxRecDepth 100000 in
set_option maxHeartbeats 0 in
theorem PySem.Challenge.cw_beadway_k10_whole_first_holds : PySem.Challenge.rw_beadway_k10_whole_first.Holds := by
  w_on; o_law; k_head; (case hw => w_witness2)
  k_fill
  refine BD.walk_M (l := PySem.Challenge.rw_beadway_k10_whole_first) (n := 63) (k := 9) (x := "_law_script") (g := BD.M_law) rfl (by decide) rfl ⟨rfl, by decide, by decide⟩ (fun w h Y => PySem.W.kIn_of Y) BD.law_true ?F
  case F =>
    intro w mg fa h KX G hmg
    refine' BD.all_mk KX G hmg ?a_q_number ?l_q_number ?c_q_number ?k_q_number ?a_q_low ?l_q_low ?c_q_low ?k_q_low ?a_q_row ?l_q_row ?c_q_row ?k_q_row ?e_q_row ?a_is_whole ?l_is_whole ?c_is_whole ?k_is_whole ?a_is_weight ?l_is_weight ?c_is_weight ?k_is_weight ?a_common ?l_common ?c_common ?k_common ?a_is_share ?l_is_share ?c_is_share ?k_is_share ?a_is_row_share ?l_is_row_share ?c_is_row_share ?k_is_row_share ?a_is_bead ?l_is_bead ?c_is_bead ?k_is_bead ?a_compared ?l_compared ?c_compared ?k_compared ?a_places_rise ?l_places_rise ?c_places_rise ?k_places_rise ?a_is_row ?l_is_row ?c_is_row ?k_is_row ?a_need_row ?l_need_row ?c_need_row ?k_need_row ?a_runs_of ?l_runs_of ?c_runs_of ?k_runs_of ?a_lowest ?l_lowest ?c_lowest ?k_lowest ?a_lessened ?l_lessened ?c_lessened ?k_lessened ?a_parted ?l_parted ?c_parted ?k_parted ?a_wait_between ?l_wait_between ?c_wait_between ?k_wait_between ?a_first_wait ?l_first_wait ?c_first_wait ?k_first_wait ?a_part_stretch ?l_part_stretch ?c_part_stretch ?k_part_stretch ?a_met_stretches ?l_met_stretches ?c_met_stretches ?k_met_stretches ?a_by_places ?l_by_places ?c_by_places ?k_by_places ?a_added ?l_added ?c_added ?k_added ?a_multiplied ?l_multiplied ?c_multiplied ?k_multiplied ?a_moved ?l_moved ?c_moved ?k_moved ?a_first_meet ?l_first_meet ?c_first_meet ?k_first_meet ?a_q_far ?l_q_far ?c_q_far ?k_q_far ?a_q_whole ?l_q_whole ?c_q_whole ?k_q_whole ?a_q_is_share ?l_q_is_share ?c_q_is_share ?k_q_is_share ?a_q_sum ?l_q_sum ?c_q_sum ?k_q_sum ?a_q_by ?l_q_by ?c_q_by ?k_q_by ?a_q_there ?l_q_there ?c_q_there ?k_q_there ?a_q_right ?l_q_right ?c_q_right ?k_q_right ?a_law ?l_law ?c_law ?k_law ?z_abs ?z_all ?z_any ?z_bool ?z_enumerate ?z_int ?z_isinstance ?z_len ?z_list ?z_range ?z_set ?z_sorted ?z_sum ?z_tuple ?a_BadRow ?x_BadRow ?a_MOST_BEADS ?a_MOST_BOTTOM ?a_MOST_TOP ?a_MOST_WEIGHT
    (case a_q_number => k_is)
    (case l_q_number => k_is)
    (case c_q_number => k_is)
    (case k_q_number => k_is)
    (case a_q_low => k_is)
    (case l_q_low => k_is)
    (case c_q_low => k_is)
    (case k_q_low => k_is)
    (case a_q_row => k_is)
    (case l_q_row => k_is)
    (case c_q_row => k_is)
    (case k_q_row => k_is)
    (case e_q_row => k_is)
    (case a_is_whole => k_is)
    (case l_is_whole => k_is)
    (case c_is_whole => k_is)
    (case k_is_whole => k_is)
    (case a_is_weight => k_is)
    (case l_is_weight => k_is)
    (case c_is_weight => k_is)
    (case k_is_weight => k_is)
    (case a_common => k_is)
    (case l_common => k_is)
    (case c_common => k_is)
    (case k_common => k_is)
    (case a_is_share => k_is)
    (case l_is_share => k_is)
    (case c_is_share => k_is)
    (case k_is_share => k_is)
    (case a_is_row_share => k_is)
    (case l_is_row_share => k_is)
    (case c_is_row_share => k_is)
    (case k_is_row_share => k_is)
    (case a_is_bead => k_is)
    (case l_is_bead => k_is)
    (case c_is_bead => k_is)
    (case k_is_bead => k_is)
    (case a_compared => k_is)
    (case l_compared => k_is)
    (case c_compared => k_is)
    (case k_compared => k_is)
    (case a_places_rise => k_is)
    (case l_places_rise => k_is)
    (case c_places_rise => k_is)
    (case k_places_rise => k_is)
    (case a_is_row => k_is)
    (case l_is_row => k_is)
    (case c_is_row => k_is)
    (case k_is_row => k_is)
    (case a_need_row => k_is)
    (case l_need_row => k_is)
    (case c_need_row => k_is)
    (case k_need_row => k_is)
    (case a_runs_of => k_is)
    (case l_runs_of => k_is)
    (case c_runs_of => k_is)
    (case k_runs_of => k_is)
    (case a_lowest => k_is)
    (case l_lowest => k_is)
    (case c_lowest => k_is)
    (case k_lowest => k_is)
    (case a_lessened => k_is)
    (case l_lessened => k_is)
    (case c_lessened => k_is)
    (case k_lessened => k_is)
    (case a_parted => k_is)
    (case l_parted => k_is)
    (case c_parted => k_is)
    (case k_parted => k_is)
    (case a_wait_between => k_is)
    (case l_wait_between => k_is)
    (case c_wait_between => k_is)
    (case k_wait_between => k_is)
    (case a_first_wait => k_is)
    (case l_first_wait => k_is)
    (case c_first_wait => k_is)
    (case k_first_wait => k_is)
    (case a_part_stretch => k_is)
    (case l_part_stretch => k_is)
    (case c_part_stretch => k_is)
    (case k_part_stretch => k_is)
    (case a_met_stretches => k_is)
    (case l_met_stretches => k_is)
    (case c_met_stretches => k_is)
    (case k_met_stretches => k_is)
    (case a_by_places => k_is)
    (case l_by_places => k_is)
    (case c_by_places => k_is)
    (case k_by_places => k_is)
    (case a_added => k_is)
    (case l_added => k_is)
    (case c_added => k_is)
    (case k_added => k_is)
    (case a_multiplied => k_is)
    (case l_multiplied => k_is)
    (case c_multiplied => k_is)
    (case k_multiplied => k_is)
    (case a_moved => k_is)
    (case l_moved => k_is)
    (case c_moved => k_is)
    (case k_moved => k_is)
    (case a_first_meet => k_is)
    (case l_first_meet => k_is)
    (case c_first_meet => k_is)
    (case k_first_meet => k_is)
    (case a_q_far => k_is)
    (case l_q_far => k_is)
    (case c_q_far => k_is)
    (case k_q_far => k_is)
    (case a_q_whole => k_is)
    (case l_q_whole => k_is)
    (case c_q_whole => k_is)
    (case k_q_whole => k_is)
    (case a_q_is_share => k_is)
    (case l_q_is_share => k_is)
    (case c_q_is_share => k_is)
    (case k_q_is_share => k_is)
    (case a_q_sum => k_is)
    (case l_q_sum => k_is)
    (case c_q_sum => k_is)
    (case k_q_sum => k_is)
    (case a_q_by => k_is)
    (case l_q_by => k_is)
    (case c_q_by => k_is)
    (case k_q_by => k_is)
    (case a_q_there => k_is)
    (case l_q_there => k_is)
    (case c_q_there => k_is)
    (case k_q_there => k_is)
    (case a_q_right => k_is)
    (case l_q_right => k_is)
    (case c_q_right => k_is)
    (case k_q_right => k_is)
    (case a_law => k_is)
    (case l_law => k_is)
    (case c_law => k_is)
    (case k_law => k_is)
    (case z_abs => k_is)
    (case z_all => k_is)
    (case z_any => k_is)
    (case z_bool => k_is)
    (case z_enumerate => k_is)
    (case z_int => k_is)
    (case z_isinstance => k_is)
    (case z_len => k_is)
    (case z_list => k_is)
    (case z_range => k_is)
    (case z_set => k_is)
    (case z_sorted => k_is)
    (case z_sum => k_is)
    (case z_tuple => k_is)
    (case a_BadRow => k_is)
    (case x_BadRow => k_exc)
    (case a_MOST_BEADS => k_is)
    (case a_MOST_BOTTOM => k_is)
    (case a_MOST_TOP => k_is)
    (case a_MOST_WEIGHT => k_is)
