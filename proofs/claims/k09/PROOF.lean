import PyProof.Rows.All
import Wide.All
import OpenK.AllK
import Wide.FinOn
import PyProof.EqAt
import PyProof.EqKinds
import PyProof.TupleCall
import KE.BitLaws
import PySem.Challenge.RW_beadway_k09_whole_pair
set_option Elab.async false
set_option linter.all false
set_option maxRecDepth 100000
namespace L2
open PySem PySem.Spec PyProof.Rows
abbrev Key := Sum Int Str
def keyIs : Key → Value → Bool
  | .inl k, v => Value.isInt k v
  | .inr x, v => Value.isStrOf x v
def keyH (w : World) : Key → Int
  | .inl k => hashInt k
  | .inr x => hashStr w x
theorem keyIs_shape : ∀ {k : Key} {v : Value}, keyIs k v = true → (∃ i t, k = Sum.inl i ∧ v = Value.int i t) ∨ (∃ x t, k = Sum.inr x ∧ v = Value.str x t)
  | .inl i, v, h => by
    obtain ⟨t, e⟩ := Value.isInt_shape (k := i) (v := v) h
    exact .inl ⟨i, t, rfl, e⟩
  | .inr x, v, h => by
    obtain ⟨t, e⟩ := Value.isStrOf_shape (x := x) (v := v) h
    exact .inr ⟨x, t, rfl, e⟩
theorem key_ll (a b : Int) : decide ((Sum.inl a : Key) = Sum.inl b) = (a == b) := by
  by_cases e : a = b
  · subst e; simp
  · have h : ¬ (Sum.inl a : Key) = Sum.inl b := fun q => e (Sum.inl.inj q)
    rw [decide_eq_false h]
    exact (beq_eq_false_iff_ne.mpr e).symm
theorem key_rr (a b : Str) : decide ((Sum.inr a : Key) = Sum.inr b) = decide (a = b) := by
  by_cases e : a = b
  · subst e; simp
  · have h : ¬ (Sum.inr a : Key) = Sum.inr b := fun q => e (Sum.inr.inj q)
    rw [decide_eq_false h, decide_eq_false e]
theorem key_lr (a : Int) (b : Str) : decide ((Sum.inl a : Key) = Sum.inr b) = false := decide_eq_false (fun q => nomatch q)
theorem key_rl (a : Str) (b : Int) : decide ((Sum.inr a : Key) = Sum.inl b) = false := decide_eq_false (fun q => nomatch q)
def mixKind (prog : Program) (w : World) : PySem.KeyKind prog w Key where
  is := keyIs
  hash := keyH w
  inj := fun v a b ha hb => by
    rcases keyIs_shape ha with ⟨i, t, rfl, rfl⟩ | ⟨x, t, rfl, rfl⟩
    · rcases keyIs_shape hb with ⟨j, u, rfl, e⟩ | ⟨y, u, rfl, e⟩
      · injection e with e1 _; rw [e1]
      · exact nomatch e
    · rcases keyIs_shape hb with ⟨j, u, rfl, e⟩ | ⟨y, u, rfl, e⟩
      · exact nomatch e
      · injection e with e1 _; rw [e1]
  byValue := fun k v h => by
    rcases keyIs_shape h with ⟨i, t, rfl, rfl⟩ | ⟨x, t, rfl, rfl⟩ <;> rfl
  pyHash := fun hv h => by
    rcases keyIs_shape hv with ⟨i, t, rfl, rfl⟩ | ⟨x, t, rfl, rfl⟩
    · exact wpAny_pyHash_int h
    · exact wpAny_pyHash_str h
  eqBool := fun hu hv h => by
    rcases keyIs_shape hu with ⟨i, t, rfl, rfl⟩ | ⟨x, t, rfl, rfl⟩
    · rcases keyIs_shape hv with ⟨j, u, rfl, rfl⟩ | ⟨y, u, rfl, rfl⟩
      · rw [key_ll] at h; exact wpAny_eqBool_int h
      · rw [key_lr] at h; exact SeqAt.EqAt.int_str i t y u _ _ _ _ h
    · rcases keyIs_shape hv with ⟨j, u, rfl, rfl⟩ | ⟨y, u, rfl, rfl⟩
      · rw [key_rl] at h; exact SeqAt.EqAt.str_int x t j u _ _ _ _ h
      · rw [key_rr] at h; exact wpAny_eqBool_str h
  «strs» := fun k x t v h => by
    rcases keyIs_shape h with ⟨i, u, rfl, e⟩ | ⟨y, u, rfl, e⟩
    · exact nomatch e
    · injection e with e1 _
      subst e1
      cases v <;> rfl
end L2
namespace L2
open PySem PySem.Spec PyProof.Rows
inductive V where
  | non | bl (b : Bool) | int (i : Int) | str (x : Str) | byt (b : Array UInt8) | flt (b : UInt64) | ref (a : Addr) | ty (n : String)
  deriving DecidableEq
def RelV : V → Value → Prop
  | .non, u => u = Value.none
  | .bl b, u => u = Value.bool b
  | .int i, u => ∃ t, u = Value.int i t
  | .str x, u => ∃ t, u = Value.str x t
  | .byt b, u => ∃ t, u = Value.bytes b t
  | .flt b, u => ∃ t, u = Value.float b t
  | .ref a, u => u = Value.ref a
  | .ty n, u => u = Value.type n
abbrev Vals : List V → List Value → Prop := Paired RelV
theorem Vals.length {xs : List V} {us : List Value} (r : Vals xs us) : xs.length = us.length := Paired.length r
theorem Vals.get : ∀ {xs : List V} {us : List Value} {i : Nat} {x : V}, Vals xs us → xs[i]? = some x → ∃ u, us[i]? = some u ∧ RelV x u
  | _, _, _, _, .nil, e => by simp at e
  | _, _, 0, _, .cons r _, e => by simp at e; subst e; exact ⟨_, rfl, r⟩
  | _, _, i + 1, x, .cons _ t, e => by
    obtain ⟨u, h1, h2⟩ := Vals.get (i := i) (x := x) t (by simpa using e)
    exact ⟨u, by simpa using h1, h2⟩
theorem Vals.append : ∀ {xs ys : List V} {us ws : List Value}, Vals xs us → Vals ys ws → Vals (xs ++ ys) (us ++ ws)
  | _, _, _, _, .nil, s => s
  | _, _, _, _, .cons r t, s => .cons r (Vals.append t s)
theorem Vals.take : ∀ {xs : List V} {us : List Value} (n : Nat), Vals xs us → Vals (xs.take n) (us.take n)
  | _, _, 0, _ => .nil
  | _, _, _ + 1, .nil => .nil
  | _, _, n + 1, .cons r t => .cons r (Vals.take n t)
theorem Vals.drop : ∀ {xs : List V} {us : List Value} (n : Nat), Vals xs us → Vals (xs.drop n) (us.drop n)
  | _, _, 0, r => r
  | _, _, _ + 1, .nil => .nil
  | _, _, n + 1, .cons _ t => Vals.drop n t
def RelO : Option V → Option Value → Prop
  | some v, some u => RelV v u
  | none, none => True
  | _, _ => False
def KV {κ : Type} : List (κ × V) → List (κ × Value) → Prop := Paired fun (p : κ × V) (q : κ × Value) => p.1 = q.1 ∧ RelV p.2 q.2
def kV : Key → V
  | .inl i => .int i
  | .inr x => .str x
inductive HO where
  | lst (xs : List V)
  | tup (xs : List V)
  | dK (kvs : List (Key × V)) | dT (kvs : List (List Key × V))
  | set (S : Int → Bool) (n : Nat)
  | ins (C dx : Addr) (fs : List (Str × V))
  | own (x : Addr)
  | xd (fs : List (Str × V))
  | met (f x : Addr)
  | rng (lo hi : Int)
  | frz (o : Obj) (u : HO)
  | tbl (ps : Array Value)
  | ext (φ : Heap → Prop)
abbrev Hp := Addr → Option HO
def upd (H : Hp) (a : Addr) (o : HO) : Hp := fun b => if b = a then some o else H b
theorem upd_same {H : Hp} {a : Addr} {o : HO} : upd H a o a = some o := by unfold upd; rw [if_pos rfl]
theorem upd_ne {H : Hp} {a b : Addr} {o : HO} (h : b ≠ a) : upd H a o b = H b := by unfold upd; rw [if_neg h]
theorem upd_upd {H : Hp} {a : Addr} {o u : HO} : upd (upd H a o) a u = upd H a u := by
  funext b; unfold upd; split <;> rfl
theorem ne_of_none {H : Hp} {a b : Addr} {o : HO} (h : H a = some o) (h' : H b = none) : a ≠ b := by
  intro e; subst e; rw [h] at h'; cases h'
section
variable (P : Program) (w : World)
def ObjOk (H : Hp) (h : Heap) (a : Addr) : HO → Prop
  | .lst xs => xs.length ≤ sizeLine ∧ ∃ (its : List Value) (n : Nat), Vals xs its ∧ h.get? a = some { cls := .type "list", data := .seq its.toArray n }
  | .tup xs => xs.length ≤ sizeLine ∧ ∃ its : List Value, Vals xs its ∧ IsTup h a its.toArray
  | .dK kvs => kvs.length ≤ sizeLine ∧ (a == sysModules) = false ∧ ∃ vs, KV kvs vs ∧ h.DictOf (mixKind P w) a vs
  | .dT kvs => kvs.length ≤ sizeLine ∧ (a == sysModules) = false ∧ ∃ xs : List (List Key × Addr × Value),
      Paired (fun (p : List Key × V) (q : List Key × Addr × Value) => p.1 = q.1 ∧ H q.2.1 = some (.tup (p.1.map kV)) ∧ RelV p.2 q.2.2) kvs xs ∧
      ∃ o es ep, h.get? a = some o ∧ o.ExactDict ∧ o.data = .dict es ep ∧ es.toList = xs.map (entryOfKey (tupleKind (mixKind P w))) ∧ (xs.map (·.1)).Nodup
  | .set S n => h.SetOf (intKind P w) a S n
  | .ins C dx fs => H dx = some (.own a) ∧ fs.length ≤ 1000 ∧ dx ≠ a ∧ h.get? a = some (PySem.W.instObj C dx) ∧
      ∃ mA, h.Ns1 dx mA ∧ (∀ f, RelO (fs.lookup f) (mA f)) ∧ PySem.Within mA (fs.map (·.1))
  | .own _ => ∃ o, h.get? a = some o
  | .xd fs => ∃ mA, h.Ns1 a mA ∧ ∀ f, RelO (fs.lookup f) (mA f)
  | .rng lo hi => ∃ t u v, h.get? a = some { cls := .type "range", data := .fields #[.int lo t, .int hi u, .int 1 v] }
  | .frz o u => h.get? a = some o ∧ ObjOk H h a u
  | .tbl ps => h.get? a = some { cls := .none, data := .fields ps }
  | .met f x => h.get? a = some (PySem.W.methodObj (.ref f) (.ref x))
  | .ext φ => φ h ∧ (∃ o, h.get? a = some o) ∧ ∀ h1 h2 : Heap, φ h1 → (∀ o, h1.get? a = some o → h2.get? a = some o) → φ h2
def HOk (H : Hp) (h : Heap) : Prop := ∀ a o, H a = some o → ObjOk P w H h a o
end
section
variable {P : Program} {w : World} {H H' : Hp} {h h' : Heap} {a : Addr} {o : HO}
theorem ObjOk.lt (x : ObjOk P w H h a o) : a < h.objs.size := by
  cases o with
  | lst xs => obtain ⟨_, _, _, _, e⟩ := x; exact Heap.lt_size e
  | tup xs => obtain ⟨_, _, _, p⟩ := x; exact p.lt
  | dK kvs => obtain ⟨_, _, _, _, o, _, _, e, _⟩ := x; exact Heap.lt_size e
  | dT kvs => obtain ⟨_, _, _, _, o, _, _, e, _⟩ := x; exact Heap.lt_size e
  | set S n => obtain ⟨o, _, _, _, e, _⟩ := x; exact Heap.lt_size e
  | ins C dx fs => obtain ⟨_, _, _, e, _⟩ := x; exact Heap.lt_size e
  | own y => obtain ⟨_, e⟩ := x; exact Heap.lt_size e
  | xd fs => obtain ⟨_, ⟨_, _, _, e, _⟩, _⟩ := x; exact Heap.lt_size e
  | rng lo hi => obtain ⟨_, _, _, e⟩ := x; exact Heap.lt_size e
  | frz ob u => obtain ⟨e, _⟩ := x; exact Heap.lt_size e
  | tbl ps => exact Heap.lt_size (show h.get? a = some _ from x)
  | met f y => exact Heap.lt_size (show h.get? a = some _ from x)
  | ext φ => obtain ⟨_, ⟨_, e⟩, _⟩ := x; exact Heap.lt_size e
theorem Paired.mapP {α β : Type} {F G : α → β → Prop} : ∀ {l₁ : List α} {l₂ : List β}, Paired F l₁ l₂ → (∀ a b, F a b → G a b) → Paired G l₁ l₂
  | _, _, .nil, _ => .nil
  | _, _, .cons r t, f => .cons (f _ _ r) (Paired.mapP t f)
theorem ObjOk.stay (x : ObjOk P w H h a o) (k : ∀ b u, (b = a ∨ H b = some (.own a)) → h.get? b = some u → h'.get? b = some u)
    (ho : ∀ b, H b = some (.own a) → H' b = some (.own a)) (ht : ∀ b xs, H b = some (.tup xs) → H' b = some (.tup xs)) : ObjOk P w H' h' a o := by
  induction o with
  | lst xs => obtain ⟨z, its, n, r, e⟩ := x; exact ⟨z, its, n, r, k _ _ (.inl rfl) e⟩
  | tup xs => obtain ⟨z, its, r, ob, e, c⟩ := x; exact ⟨z, its, r, ob, k _ _ (.inl rfl) e, c⟩
  | dK kvs => obtain ⟨z, y, vs, r, ob, es, ep, e, c⟩ := x; exact ⟨z, y, vs, r, ob, es, ep, k _ _ (.inl rfl) e, c⟩
  | dT kvs =>
    obtain ⟨z, y, xs, r, ob, es, ep, e, c⟩ := x
    exact ⟨z, y, xs, Paired.mapP r fun p q z => ⟨z.1, ht _ _ z.2.1, z.2.2⟩, ob, es, ep, k _ _ (.inl rfl) e, c⟩
  | set S n => obtain ⟨ob, es, ep, t, e, c⟩ := x; exact ⟨ob, es, ep, t, k _ _ (.inl rfl) e, c⟩
  | ins C dx fs =>
    obtain ⟨d, z, ne, e, mA, ⟨od, es, ep, e2, c⟩, r⟩ := x
    exact ⟨ho _ d, z, ne, k _ _ (.inl rfl) e, mA, ⟨od, es, ep, k _ _ (.inr d) e2, c⟩, r⟩
  | own y => obtain ⟨ob, e⟩ := x; exact ⟨ob, k _ _ (.inl rfl) e⟩
  | xd fs => obtain ⟨mA, ⟨od, es, ep, e, c⟩, r⟩ := x; exact ⟨mA, ⟨od, es, ep, k _ _ (.inl rfl) e, c⟩, r⟩
  | rng lo hi => obtain ⟨t, u, v, e⟩ := x; exact ⟨t, u, v, k _ _ (.inl rfl) e⟩
  | frz ob u ih => obtain ⟨e, q⟩ := x; exact ⟨k _ _ (.inl rfl) e, ih q⟩
  | tbl ps =>
    have e : h.get? a = some { cls := .none, data := .fields ps } := x
    show h'.get? a = some { cls := .none, data := .fields ps }
    exact k a _ (.inl rfl) e
  | met f y =>
    have e : h.get? a = some (PySem.W.methodObj (.ref f) (.ref y)) := x
    show h'.get? a = some (PySem.W.methodObj (.ref f) (.ref y))
    exact k a _ (.inl rfl) e
  | ext φ => obtain ⟨p, ⟨o, e⟩, st⟩ := x; exact ⟨st _ _ p fun o q => k _ _ (.inl rfl) q, ⟨o, k _ _ (.inl rfl) e⟩, st⟩
theorem HOk.lt (x : HOk P w H h) (e : H a = some o) : a < h.objs.size := (x a o e).lt
theorem HOk.fresh (x : HOk P w H h) (e : h.objs.size ≤ a) : H a = none := by
  cases q : H a with
  | none => rfl
  | some u => exact absurd (Nat.lt_of_lt_of_le (x.lt q) e) (Nat.lt_irrefl _)
theorem HOk.kept (x : HOk P w H h) (k : ∀ b u, h.get? b = some u → h'.get? b = some u) : HOk P w H h' := fun a o e =>
  (x a o e).stay (fun b u _ q => k b u q) (fun _ q => q) fun _ _ q => q
theorem HOk.laid (x : HOk P w H h) (k : ∀ b u, h.get? b = some u → h'.get? b = some u) (hp : h.objs.size ≤ a) (new : ObjOk P w (upd H a o) h' a o) : HOk P w (upd H a o) h' := fun b u e => by
  have hn := x.fresh hp
  by_cases hb : b = a
  · subst hb; rw [upd_same] at e; cases e; exact new
  · rw [upd_ne hb] at e
    exact (x b u e).stay (fun c v _ q => k c v q) (fun c q => by rw [upd_ne (ne_of_none q hn)]; exact q) fun c xs q => by rw [upd_ne (ne_of_none q hn)]; exact q
end
def Rd (H : Hp) (a : Addr) (u : HO) : Prop := H a = some u ∨ ∃ o, H a = some (.frz o u)
theorem Rd.ok {P : Program} {w : World} {H : Hp} {h : Heap} {a : Addr} {u : HO} (r : Rd H a u) (x : HOk P w H h) : ObjOk P w H h a u := by
  rcases r with r | ⟨o, r⟩
  · exact x a u r
  · obtain ⟨_, q⟩ := x a _ r
    exact q
def Mut : Option HO → Prop
  | some (.lst _) => True
  | some (.dK _) => True
  | some (.dT _) => True
  | some (.set _ _) => True
  | some (.ins _ _ _) => True
  | some (.ext _) => True
  | _ => False
section
variable {P : Program} {w : World} {H : Hp} {h h' : Heap} {x e : Addr} {o' : HO}
theorem HOk.write (ok : HOk P w H h) (mu : Mut (H x)) (he : e = x ∨ H e = some (.own x)) (k : ∀ b u, b ≠ e → h.get? b = some u → h'.get? b = some u) (heo : ∃ u, h'.get? e = some u)
    (new : ObjOk P w (upd H x o') h' x o') : HOk P w (upd H x o') h' := fun b u q => by
  have nown : ∀ c y, H c = some (.own y) → c ≠ x := fun c y r z => by subst z; rw [r] at mu; exact mu
  have ntup : ∀ c xs, H c = some (.tup xs) → c ≠ x := fun c xs r z => by subst z; rw [r] at mu; exact mu
  by_cases hb : b = x
  · subst hb; rw [upd_same] at q; cases q; exact new
  · rw [upd_ne hb] at q
    by_cases hbe : b = e
    · have q' : H b = some (.own x) := by
        rcases he with z | z
        · exact absurd (hbe.trans z) hb
        · rw [hbe]; exact z
      rw [q] at q'; cases q'
      obtain ⟨v, hv⟩ := heo
      exact ⟨v, by rw [hbe]; exact hv⟩
    · refine (ok b u q).stay (fun c v hc r => k c v ?_ r) (fun c r => by rw [upd_ne (nown c b r)]; exact r) fun c xs r => by rw [upd_ne (ntup c xs r)]; exact r
      rcases hc with rfl | hc
      · exact hbe
      · rintro rfl
        rcases he with z | z
        · exact nown c b hc z
        · rw [hc] at z; cases z; exact hb rfl
end
structure Un (fs ex : List Addr) (H H' : Hp) (h h' : Heap) : Prop where
  keep : ∀ b o, h.get? b = some o → H b = none → b ∉ fs → b ∉ ex → h'.get? b = some o
  slot : ∀ b o, h.get? b = some o → H b = none → b ∈ fs → b ∉ ex → ∃ sl, h'.get? b = some { o with slots := sl }
  free : ∀ b o, h.get? b = some o → H b = none → b ∉ ex → H' b = none
  there : ∀ b o, h.get? b = some o → b ∉ ex → ∃ o', h'.get? b = some o'
  tups : ∀ b xs, H b = some (.tup xs) → H' b = some (.tup xs)
  frzs : ∀ b o u, H b = some (.frz o u) → H' b = some (.frz o u)
  tbls : ∀ b ps, H b = some (.tbl ps) → ∃ more, H' b = some (.tbl (ps ++ more))
section
variable {fs fs' ex ex' : List Addr} {H H1 H2 : Hp} {h h1 h2 h' : Heap} {a x e : Addr} {o : HO}
theorem Un.any (u : Un fs ex H H1 h h1) {b : Addr} {ob : Obj} (q : h.get? b = some ob) (n : H b = none) (hx : b ∉ ex) : ∃ sl, h1.get? b = some { ob with slots := sl } := by
  by_cases hb : b ∈ fs
  · exact u.slot b ob q n hb hx
  · exact ⟨ob.slots, u.keep b ob q n hb hx⟩
theorem Un.kept (k : ∀ b u, h.get? b = some u → h'.get? b = some u) : Un fs ex H H h h' :=
  ⟨fun b ob q _ _ _ => k b ob q, fun b ob q _ _ _ => ⟨ob.slots, k b ob q⟩, fun _ _ _ n _ => n, fun b ob q _ => ⟨ob, k b ob q⟩, fun _ _ q => q, fun _ _ _ q => q, fun _ ps q => ⟨#[], by rw [q]; simp⟩⟩
theorem Un.refl : Un fs ex H H h h := Un.kept fun _ _ q => q
theorem Un.laid (k : ∀ b u, h.get? b = some u → h'.get? b = some u) (hp : h.objs.size ≤ a) (hn : H a = none) : Un fs ex H (upd H a o) h h' where
  keep := fun b u q _ _ _ => k b u q
  slot := fun b u q _ _ _ => ⟨u.slots, k b u q⟩
  free := fun b u q n _ => by rw [upd_ne (Nat.ne_of_lt (Nat.lt_of_lt_of_le (Heap.lt_size q) hp))]; exact n
  there := fun b u q _ => ⟨u, k b u q⟩
  tups := fun b xs q => by rw [upd_ne (ne_of_none q hn)]; exact q
  frzs := fun b u xs q => by rw [upd_ne (ne_of_none q hn)]; exact q
  tbls := fun b ps q => ⟨#[], by rw [upd_ne (ne_of_none q hn), q]; simp⟩
theorem Un.write (mu : Mut (H x)) (he : e = x ∨ H e = some (.own x)) (k : ∀ b u, b ≠ e → h.get? b = some u → h'.get? b = some u) (heo : ∃ u, h'.get? e = some u) : Un fs ex H (upd H x o) h h' := by
  have hx : ∀ b, H b = none → b ≠ x := fun b n z => by subst z; rw [n] at mu; exact mu
  have hb : ∀ b, H b = none → b ≠ e := fun b n z => by
    subst z
    rcases he with r | r
    · exact hx b n r
    · rw [n] at r; cases r
  have hm : ∀ b u, H b = some u → ¬ Mut (some u) → b ≠ x := fun b u q nm z => by subst z; rw [q] at mu; exact nm mu
  refine ⟨fun b u q n _ _ => k b u (hb b n) q, fun b u q n _ _ => ⟨u.slots, k b u (hb b n) q⟩, fun b u q n _ => by rw [upd_ne (hx b n)]; exact n, fun b u q _ => ?_,
    fun b xs q => by rw [upd_ne (hm b _ q fun z => z)]; exact q, fun b u xs q => by rw [upd_ne (hm b _ q fun z => z)]; exact q, fun b ps q => ⟨#[], by rw [upd_ne (hm b _ q fun z => z), q]; simp⟩⟩
  by_cases hbe : b = e
  · subst hbe; exact heo
  · exact ⟨u, k b u hbe q⟩
end
def trk (h : Heap) (H : Hp) : List Addr := (List.range h.objs.size).filter fun a => (H a).isSome
def hidT (h : Heap) (H : Hp) : Heap := PySem.W.hideAll h (trk h H)
theorem hidT_size (h : Heap) (H : Hp) : (hidT h H).objs.size = h.objs.size := PySem.W.hideAll_size _ _
theorem hidT_get {h : Heap} {H : Hp} {b : Addr} {o : Obj} (e : h.get? b = some o) (n : H b = none) : (hidT h H).get? b = some o :=
  PySem.W.hideAll_get _ e fun hm => by
    have q : (H b).isSome = true := (List.mem_filter.mp hm).2
    rw [n] at q; simp at q
theorem of_hidT {h : Heap} {H : Hp} {b : Addr} {o : Obj} (e : (hidT h H).get? b = some o) : h.get? b = some o ∧ H b = none := by
  have e' : h.get? b = some o := PySem.W.of_hideAll (trk h H) e
  refine ⟨e', ?_⟩
  cases q : H b with
  | none => rfl
  | some x =>
    have hm : b ∈ trk h H := List.mem_filter.mpr ⟨List.mem_range.mpr (Heap.lt_size e'), by simp [q]⟩
    have z : (hidT h H).get? b = none := PySem.W.hideAll_none (trk h H) hm
    rw [z] at e; cases e
end L2
namespace L2
open PySem PySem.Spec PyProof.Rows
structure Mod (K : PySem.W.Frag) (mg : Str → Option Value) (base : Heap) : Prop where
  kin : K.In base
  glob : base.Ns mainGlobals mg
  blt : ∃ mb, base.Ns builtinsNs mb ∧ ∀ x : Str, x ≠ "__name__" → mb x = bootBuiltins x
  nolimit : base.NoLimit
structure Cx where
  prog : Program
  w : World
  K : PySem.W.Frag
  mg : Str → Option Value
  base : Heap
  A : Around
  N : List Str
  s_0 : Shared
  H_0 : Hp
  env : Env
  outer : List Env
  stack : List Env
  ex : List Addr
  fn : Str → Bool
  calm : Bool
  pn : List (Addr × Obj)
  xe : Value → Shared → Prop
def frs (l : List Env) : List Addr := l.filterMap (·.frame)
abbrev Cx.fs (X : Cx) : List Addr := frs X.outer
def Vis (sc : Scope) (x : Str) : Prop := sc.names.lookup x = some .local ∨ sc.names.lookup x = some .cell ∨ sc.names.lookup x = some .free
def Loc (sc : Scope) (x : Str) : Prop := sc.names.lookup x = some .local ∨ sc.names.lookup x = some .cell
def Look (env : Env) (h : Heap) (m : Str → Option Value) (x : Str) (u : Value) : Prop :=
  (env.kindOf x = some .local ∧ m x = some u) ∨ ((env.kindOf x = some .cell ∨ env.kindOf x = some .free) ∧ ∃ c, env.cells.lookup x = some c ∧ h.IsCell c (some u))
structure Cx.Ok (X : Cx) : Prop where
  mod : Mod X.K X.mg X.base
  kind : X.env.scope.kind = .function
  glob : X.env.globals = mainGlobals
  blt : X.env.builtins = builtinsNs
  above : X.s_0.heap.objs.size ≤ X.env.locals
  inj : ∀ x y c, X.env.cells.lookup x = some c → X.env.cells.lookup y = some c → x = y
  has : ∀ x, (X.env.kindOf x = some .cell ∨ X.env.kindOf x = some .free) → ∃ c, X.env.cells.lookup x = some c
  cab : ∀ x c, X.fn x = true → X.env.cells.lookup x = some c → X.s_0.heap.objs.size ≤ c
  hd : X.calm = true → X.A.handled = none
  frames : X.A.frames = some X.stack
  stk : X.stack = X.outer ∨ (X.stack = X.env :: X.outer ∧ X.env.frame = some X.env.locals)
  exf : ∀ b ∈ X.ex, b ≠ X.env.locals ∧ ∀ x c, X.env.cells.lookup x = some c → c ≠ b
  bs : ∀ b o, X.base.get? b = some o → X.s_0.heap.get? b = some o ∧ X.H_0 b = none
  bsz : X.base.objs.size ≤ X.s_0.heap.objs.size
  noex : ∀ b o, X.base.get? b = some o → b ∉ X.ex
  exfs : ∀ b ∈ X.ex, b ∉ X.fs
  funs : X.s_0.heap.FunFrames X.base X.outer
  frf : ∀ b ∈ X.fs, X.H_0 b = none
structure Inv (X : Cx) (pins : List (Addr × Obj)) (σ : List (Option V)) (H : Hp) (s : Shared) : Prop where
  ok : X.Ok
  os : s.os = X.s_0.os
  bare : AllBare s.gens
  base : Un X.fs X.ex X.H_0 H X.s_0.heap s.heap
  loc : ∃ m, s.heap.Ns X.env.locals m ∧ ∀ (i : Nat) (x : Str) (v : V), X.N[i]? = some x → σ[i]? = some (some v) → Vis X.env.scope x → ∃ u, RelV v u ∧ Look X.env s.heap m x u
  cell : ∀ x c, X.env.cells.lookup x = some c → ∃ v, s.heap.IsCell c v
  free : H X.env.locals = none
  freeC : ∀ x c, X.env.cells.lookup x = some c → H c = none
  pin : ∀ p ∈ X.pn ++ pins, s.heap.get? p.1 = some p.2 ∧ H p.1 = none ∧ p.1 ≠ X.env.locals ∧ p.1 ∉ X.fs ∧ ∀ v, p.2.data ≠ .cell v
  hok : HOk X.prog X.w H s.heap
  len : σ.length = X.N.length
section
variable {X : Cx} {pins : List (Addr × Obj)} {σ : List (Option V)} {H H' : Hp} {s : Shared} {h' : Heap}
theorem Cx.Ok.nofr (ok : X.Ok) {b : Addr} {o : Obj} (e : X.base.get? b = some o) : b ∉ X.fs := fun hb => by
  have := (ok.funs.mem hb).1
  rw [e] at this; cases this
theorem Inv.bs (I : Inv X pins σ H s) : ∀ b o, X.base.get? b = some o → s.heap.get? b = some o ∧ H b = none := fun b o e =>
  ⟨I.base.keep b o (I.ok.bs b o e).1 (I.ok.bs b o e).2 (I.ok.nofr e) (I.ok.noex b o e), I.base.free b o (I.ok.bs b o e).1 (I.ok.bs b o e).2 (I.ok.noex b o e)⟩
theorem Inv.bk (I : Inv X pins σ H s) : ∀ b o, X.base.get? b = some o → s.heap.get? b = some o := fun b o e => (I.bs b o e).1
theorem Inv.mod (I : Inv X pins σ H s) : Mod X.K X.mg X.base := I.ok.mod
theorem Inv.kIn (I : Inv X pins σ H s) : X.K.In s.heap := I.ok.mod.kin.keeps I.bk
theorem Inv.fr (I : Inv X pins σ H s) : ∃ m, Fr X.base X.env.locals s.heap m :=
  let ⟨m, hn, _⟩ := I.loc
  ⟨m, hn, I.bk, Nat.le_trans I.ok.bsz I.ok.above⟩
theorem Inv.lt (I : Inv X pins σ H s) : X.env.locals < s.heap.objs.size := let ⟨_, hn, _⟩ := I.loc; hn.lt
theorem Inv.sz (I : Inv X pins σ H s) : X.s_0.heap.objs.size ≤ s.heap.objs.size := Nat.le_trans I.ok.above (Nat.le_of_lt I.lt)
theorem Inv.nofs (I : Inv X pins σ H s) {a : Addr} (h : s.heap.objs.size ≤ a) : a ∉ X.fs := fun hb => by
  obtain ⟨_, o, ho, _⟩ := I.ok.funs.mem hb
  exact absurd (Nat.lt_of_lt_of_le (Heap.lt_size ho) (Nat.le_trans I.sz h)) (Nat.lt_irrefl _)
theorem Inv.cne (I : Inv X pins σ H s) : ∀ x c, X.env.cells.lookup x = some c → c ≠ X.env.locals := fun x c e z => by
  obtain ⟨v, o, ho, hd⟩ := I.cell x c e
  obtain ⟨m, ⟨o', es, ep, ho', hd', _⟩, _⟩ := I.loc
  rw [z, ho'] at ho; cases ho; rw [hd'] at hd; cases hd
theorem Inv.funs (I : Inv X pins σ H s) : s.heap.FunFrames X.base X.outer := by
  have all : ∀ (l : List Env), (∀ b ∈ frs l, b ∈ X.fs) → X.s_0.heap.FunFrames X.base l → s.heap.FunFrames X.base l := by
    intro l
    induction l with
    | nil => intro _ _; trivial
    | cons env r ih =>
      intro hs hl
      obtain ⟨hk, ⟨L, o, hf, hn, ho, hd⟩, hr⟩ := hl
      have hL : L ∈ X.fs := hs L (by unfold frs; rw [List.filterMap_cons, hf]; exact List.mem_cons_self)
      obtain ⟨sl, e⟩ := I.base.slot L o ho (I.ok.frf L hL) hL fun z => I.ok.exfs L z hL
      exact ⟨hk, ⟨L, _, hf, hn, e, hd⟩, ih (fun b hb => hs b (by unfold frs; rw [List.filterMap_cons, hf]; exact List.mem_cons_of_mem _ hb)) hr⟩
  exact all X.outer (fun _ hb => hb) I.ok.funs
theorem Inv.stack (I : Inv X pins σ H s) : s.heap.FunFrames X.base X.stack := by
  rcases I.ok.stk with e | ⟨e, hf⟩
  · rw [e]; exact I.funs
  · rw [e]
    obtain ⟨m, hn, _⟩ := I.loc
    refine .cons (by rw [I.ok.kind]; decide) hf hn ?_ I.funs
    exact Heap.get?_none_of_le (Nat.le_trans I.ok.bsz I.ok.above)
theorem Inv.stkSub (I : Inv X pins σ H s) : ∀ b ∈ frs X.stack, b ∈ X.env.locals :: X.fs := fun b hb => by
  rcases I.ok.stk with e | ⟨e, hf⟩
  · rw [e] at hb; exact List.mem_cons_of_mem _ hb
  · rw [e] at hb
    unfold frs at hb
    rw [List.filterMap_cons, hf] at hb
    exact hb
theorem Inv.stkFree (I : Inv X pins σ H s) : ∀ b ∈ frs X.stack, H b = none := fun b hb => by
  rcases List.mem_cons.mp (I.stkSub b hb) with e | hb
  · rw [e]; exact I.free
  · obtain ⟨_, o, ho, _⟩ := I.ok.funs.mem hb
    exact I.base.free b o ho (I.ok.frf b hb) fun z => I.ok.exfs b z hb
theorem Inv.step {g' : Array GenState} {t' : Nat} {d' : Drawn} {ch : List Addr} (I : Inv X pins σ H s)
    (hch : ∀ b ∈ ch, (b ∈ X.ex ∨ X.s_0.heap.objs.size ≤ b) ∧ b ≠ X.env.locals ∧ (∀ x c, X.env.cells.lookup x = some c → c ≠ b) ∧ ∀ p ∈ X.pn ++ pins, p.1 ≠ b)
    (keep : ∀ b o, b ≠ X.env.locals → b ∉ X.fs → b ∉ ch → s.heap.get? b = some o → H b = none → h'.get? b = some o)
    (slot : ∀ b o, b ≠ X.env.locals → b ∈ X.fs → b ∉ ch → s.heap.get? b = some o → H b = none → ∃ sl, h'.get? b = some { o with slots := sl }) (free : ∀ b o, b ∉ ch → s.heap.get? b = some o → H b = none → H' b = none)
    (there : ∀ b o, b ∉ ch → s.heap.get? b = some o → ∃ o', h'.get? b = some o')
    (tups : ∀ b xs, H b = some (.tup xs) → H' b = some (.tup xs)) (frzs : ∀ b o u, H b = some (.frz o u) → H' b = some (.frz o u)) (tbls : ∀ b ps, H b = some (.tbl ps) → ∃ more, H' b = some (.tbl (ps ++ more)))
    (ns : ∀ m, s.heap.Ns X.env.locals m → h'.Ns X.env.locals m) (hok : HOk X.prog X.w H' h') (hg : AllBare g') :
    Inv X pins σ H' { s with heap := h', gens := g', drawn := d', toks := t' } := by
  have neL : ∀ b o, X.s_0.heap.get? b = some o → b ≠ X.env.locals := fun b o e => Nat.ne_of_lt (Nat.lt_of_lt_of_le (Heap.lt_size e) I.ok.above)
  have neC : ∀ b o, X.s_0.heap.get? b = some o → b ∉ X.ex → b ∉ ch := fun b o e hx hb => by
    rcases (hch b hb).1 with z | z
    · exact hx z
    · exact absurd (Nat.lt_of_lt_of_le (Heap.lt_size e) z) (Nat.lt_irrefl _)
  have cellK : ∀ x c, X.env.cells.lookup x = some c → ∀ v, s.heap.IsCell c v → h'.IsCell c v := fun x c e v ⟨o, ho, hd⟩ => by
    have nch : c ∉ ch := fun z => (hch c z).2.2.1 x c e rfl
    by_cases hc : c ∈ X.fs
    · obtain ⟨sl, q⟩ := slot c o (I.cne x c e) hc nch ho (I.freeC x c e)
      exact ⟨_, q, hd⟩
    · exact ⟨o, keep c o (I.cne x c e) hc nch ho (I.freeC x c e), hd⟩
  refine ⟨I.ok, I.os, hg, ⟨fun b o e n hb hx => ?_, fun b o e n hb hx => ?_, fun b o e n hx => ?_, fun b o e hx => ?_, fun b xs e => tups b xs (I.base.tups b xs e), fun b o xs e => frzs b o xs (I.base.frzs b o xs e), fun b ps e => ?_⟩, ?_, fun x c e => ?_, ?_, fun x c e => ?_, fun p hp => ?_, hok, I.len⟩
  · exact keep b o (neL b o e) hb (neC b o e hx) (I.base.keep b o e n hb hx) (I.base.free b o e n hx)
  · obtain ⟨sl, e1⟩ := I.base.slot b o e n hb hx
    obtain ⟨sl', e2⟩ := slot b _ (neL b o e) hb (neC b o e hx) e1 (I.base.free b o e n hx)
    exact ⟨sl', e2⟩
  · obtain ⟨o', e1⟩ := I.base.there b o e hx
    exact free b o' (neC b o e hx) e1 (I.base.free b o e n hx)
  · obtain ⟨o', e1⟩ := I.base.there b o e hx
    exact there b o' (neC b o e hx) e1
  · obtain ⟨m1, e1⟩ := I.base.tbls b ps e
    obtain ⟨m2, e2⟩ := tbls b _ e1
    exact ⟨m1 ++ m2, by rw [e2, Array.append_assoc]⟩
  · obtain ⟨m, hn, hl⟩ := I.loc
    refine ⟨m, ns m hn, fun i x v e1 e2 e3 => ?_⟩
    obtain ⟨u, r, l⟩ := hl i x v e1 e2 e3
    refine ⟨u, r, ?_⟩
    rcases l with l | ⟨k, c, e, z⟩
    · exact .inl l
    · exact .inr ⟨k, c, e, cellK x c e _ z⟩
  · obtain ⟨v, z⟩ := I.cell x c e
    exact ⟨v, cellK x c e v z⟩
  · obtain ⟨m, ⟨o, _, _, ho, _⟩, _⟩ := I.loc
    exact free _ o (fun z => (hch _ z).2.1 rfl) ho I.free
  · obtain ⟨v, o, ho, hd⟩ := I.cell x c e
    exact free c o (fun z => (hch c z).2.2.1 x c e rfl) ho (I.freeC x c e)
  · obtain ⟨e, n, ne, nf, d⟩ := I.pin p hp
    have nch : p.1 ∉ ch := fun z => (hch p.1 z).2.2.2 p hp rfl
    exact ⟨keep p.1 p.2 ne nf nch e n, free p.1 p.2 nch e n, ne, nf, d⟩
theorem Inv.un {t' : Nat} (I : Inv X pins σ H s) (u : Un X.fs [] H H' s.heap h') (hok : HOk X.prog X.w H' h') : Inv X pins σ H' { s with heap := h', toks := t' } := by
  obtain ⟨m, ⟨o, es, ep, ho, r⟩, _⟩ := id I.loc
  obtain ⟨sl, hL⟩ := u.any ho I.free (by simp)
  exact I.step (g' := s.gens) (d' := s.drawn) (ch := []) (fun _ z => nomatch z) (fun b o _ hb _ e n => u.keep b o e n hb (by simp)) (fun b o _ hb _ e n => u.slot b o e n hb (by simp)) (fun b o _ e n => u.free b o e n (by simp)) (fun b o _ e => u.there b o e (by simp)) u.tups u.frzs u.tbls (fun m' hm => by
    obtain ⟨o', es', ep', ho', r'⟩ := hm
    rw [ho] at ho'; cases ho'
    exact ⟨_, es', ep', hL, r'⟩) hok I.bare
theorem Inv.call {g' : Array GenState} {t' : Nat} {d' : Drawn} {ch : List Addr} (I : Inv X pins σ H s) (u : Un (frs X.stack) ch H H' s.heap h') (hok : HOk X.prog X.w H' h') (hg : AllBare g')
    (hch : ∀ b ∈ ch, (b ∈ X.ex ∨ X.s_0.heap.objs.size ≤ b) ∧ b ≠ X.env.locals ∧ (∀ x c, X.env.cells.lookup x = some c → c ≠ b) ∧ ∀ p ∈ X.pn ++ pins, p.1 ≠ b) :
    Inv X pins σ H' { s with heap := h', gens := g', drawn := d', toks := t' } := by
  obtain ⟨m, ⟨o, es, ep, ho, r⟩, _⟩ := id I.loc
  obtain ⟨sl, hL⟩ := u.any ho I.free fun z => (hch _ z).2.1 rfl
  exact I.step (ch := ch) hch (fun b o hL hb hc e n => u.keep b o e n (fun z => (List.mem_cons.mp (I.stkSub b z)).elim hL hb) hc) (fun b o _ _ hc e n => u.any e n hc) (fun b o hc e n => u.free b o e n hc) (fun b o hc e => u.there b o e hc) u.tups u.frzs u.tbls (fun m' hm => by
    obtain ⟨o', es', ep', ho', r'⟩ := hm
    rw [ho] at ho'; cases ho'
    exact ⟨_, es', ep', hL, r'⟩) hok hg
theorem Inv.turned {t' : Nat} {it : Addr} (I : Inv X pins σ H s) (k : ∀ b o, b ≠ it → s.heap.get? b = some o → h'.get? b = some o) (hn : H it = none) (hL : it ≠ X.env.locals)
    (h1 : it ∈ X.ex ∨ X.s_0.heap.objs.size ≤ it) (h2 : ∀ x c, X.env.cells.lookup x = some c → c ≠ it) (h3 : ∀ p ∈ X.pn ++ pins, p.1 ≠ it) : Inv X pins σ H { s with heap := h', toks := t' } := by
  have nit : ∀ b u, H b = some u → b ≠ it := fun b u e z => by rw [z, hn] at e; cases e
  refine I.step (g' := s.gens) (d' := s.drawn) (ch := [it]) (fun b hb => ?_) (fun b o _ _ hc e _ => k b o (fun z => hc (by simp [z])) e) (fun b o _ _ hc e _ => ⟨o.slots, k b o (fun z => hc (by simp [z])) e⟩) (fun _ _ _ _ n => n)
    (fun b o hc e => ⟨o, k b o (fun z => hc (by simp [z])) e⟩) (fun _ _ e => e) (fun _ _ _ e => e) (fun b ps e => ⟨#[], by rw [e]; simp⟩) (fun m hm => ?_) (fun b u e => ?_) I.bare
  · have e : b = it := by simpa using hb
    subst e
    exact ⟨h1, hL, h2, h3⟩
  · obtain ⟨o, es, ep, ho, r⟩ := hm
    exact ⟨o, es, ep, k _ o (Ne.symm hL) ho, r⟩
  · refine (I.hok b u e).stay (fun c v hc q => k c v ?_ q) (fun _ q => q) fun _ _ q => q
    rcases hc with z | z
    · rw [z]; exact nit b u e
    · exact nit c _ z
theorem Inv.tok (I : Inv X pins σ H s) (t : Nat) : Inv X pins σ H { s with toks := t } := I.un (h' := s.heap) (t' := t) Un.refl I.hok
theorem Inv.kept {t' : Nat} (I : Inv X pins σ H s) (k : ∀ b u, s.heap.get? b = some u → h'.get? b = some u) : Inv X pins σ H { s with heap := h', toks := t' } := I.un (Un.kept k) (I.hok.kept k)
theorem Inv.laid {a : Addr} {o : HO} {t' : Nat} (I : Inv X pins σ H s) (k : ∀ b u, s.heap.get? b = some u → h'.get? b = some u) (hp : s.heap.objs.size ≤ a) (new : ObjOk X.prog X.w (upd H a o) h' a o) :
    Inv X pins σ (upd H a o) { s with heap := h', toks := t' } := I.un (Un.laid k hp (I.hok.fresh hp)) (I.hok.laid k hp new)
theorem Inv.write {x e : Addr} {o : HO} {t' : Nat} (I : Inv X pins σ H s) (mu : Mut (H x)) (he : e = x ∨ H e = some (.own x)) (k : ∀ b u, b ≠ e → s.heap.get? b = some u → h'.get? b = some u) (heo : ∃ u, h'.get? e = some u)
    (new : ObjOk X.prog X.w (upd H x o) h' x o) : Inv X pins σ (upd H x o) { s with heap := h', toks := t' } := I.un (Un.write mu he k heo) (I.hok.write mu he k heo new)
theorem Inv.weak {σ' : List (Option V)} (I : Inv X pins σ H s) (hl : σ'.length = σ.length) (w : ∀ (i : Nat) v, σ'[i]? = some (some v) → σ[i]? = some (some v)) : Inv X pins σ' H s :=
  ⟨I.ok, I.os, I.bare, I.base, let ⟨m, hn, hl'⟩ := I.loc; ⟨m, hn, fun i x v e1 e2 e3 => hl' i x v e1 (w i v e2) e3⟩, I.cell, I.free, I.freeC, I.pin, I.hok, hl.trans I.len⟩
theorem Inv.pins_of {pins' : List (Addr × Obj)} (I : Inv X pins σ H s) (h : ∀ p ∈ pins', s.heap.get? p.1 = some p.2 ∧ H p.1 = none ∧ p.1 ≠ X.env.locals ∧ p.1 ∉ X.fs ∧ ∀ v, p.2.data ≠ .cell v) : Inv X pins' σ H s :=
  ⟨I.ok, I.os, I.bare, I.base, I.loc, I.cell, I.free, I.freeC, fun p hp => (List.mem_append.mp hp).elim (fun z => I.pin p (List.mem_append_left _ z)) (h p), I.hok, I.len⟩
theorem nodup_ix {N : List Str} (hN : N.Nodup) {i j : Nat} {x : Str} (a : N[i]? = some x) (b : N[j]? = some x) : i = j := by
  obtain ⟨h1, e1⟩ := List.getElem?_eq_some_iff.mp a
  obtain ⟨h2, e2⟩ := List.getElem?_eq_some_iff.mp b
  exact (List.getElem_inj hN).mp (e1.trans e2.symm)
theorem store_ok2 {M : Model} {A : Around} {E : Value → Shared → Prop} {i : Nat} {x : Str} {v : V} {u : Value} {Q : Unit → Shared → Prop} (I : Inv X pins σ H s) (hN : X.N.Nodup) (hi : X.N[i]? = some x) (hx : Loc X.env.scope x) (r : RelV v u)
    (h : ∀ s', Inv X pins (σ.set i (some v)) H s' → (∃ a, Heap.SameBut a s.heap s'.heap ∧ (a = X.env.locals ∨ X.env.cells.lookup x = some a)) → Q () s') (hf : X.fn x = true ∨ X.env.scope.names.lookup x = some .local := by first | exact .inl rfl | exact .inr rfl | assumption) : wpAny M A (storeName X.env x u) Q E s := by
  obtain ⟨m, hn, hl⟩ := id I.loc
  have hcls : (X.env.scope.kind == .class || (X.env.scope.kind == .module && X.env.locals != X.env.globals)) = false := by rw [I.ok.kind]; rfl
  have hiσ : i < σ.length := by rw [I.len]; exact (List.getElem?_eq_some_iff.mp hi).1
  have cne := I.cne
  have tracked : ∀ {a : Addr} {h' : Heap}, (∃ o, s.heap.get? a = some o ∧ H a = none) → Heap.SameBut a s.heap h' → HOk X.prog X.w H h' := fun {a h'} ha hs b ob e => by
    obtain ⟨_, _, hfree⟩ := ha
    refine (I.hok b ob e).stay (fun c w' hc q => (hs.2 c ?_).trans q) (fun _ q => q) fun _ _ q => q
    rintro rfl
    rcases hc with rfl | hc
    · rw [hfree] at e; cases e
    · rw [hfree] at hc; cases hc
  rcases hx with hk | hk
  · refine wpAny_storeName_local hk hn (fun h' hn' hs => ?_) hcls
    obtain ⟨oL, _, _, hoL, _⟩ := id hn
    refine h _ ⟨I.ok, I.os, I.bare, ⟨fun b o e n hb hx => ?_, fun b o e n hb hx => ?_, I.base.free, fun b o e hx => ?_, I.base.tups, I.base.frzs, I.base.tbls⟩, ⟨_, hn', fun j y v' e1 e2 e3 => ?_⟩, fun y c e => ?_, I.free, I.freeC, fun p hp => ?_, tracked ⟨oL, hoL, I.free⟩ hs, by simpa using I.len⟩ ⟨_, hs, .inl rfl⟩
    · exact (hs.2 b (Nat.ne_of_lt (Nat.lt_of_lt_of_le (Heap.lt_size e) I.ok.above))).trans (I.base.keep b o e n hb hx)
    · obtain ⟨sl, e1⟩ := I.base.slot b o e n hb hx
      exact ⟨sl, (hs.2 b (Nat.ne_of_lt (Nat.lt_of_lt_of_le (Heap.lt_size e) I.ok.above))).trans e1⟩
    · obtain ⟨o', e1⟩ := I.base.there b o e hx
      exact ⟨o', (hs.2 b (Nat.ne_of_lt (Nat.lt_of_lt_of_le (Heap.lt_size e) I.ok.above))).trans e1⟩
    · by_cases hj : j = i
      · subst hj
        rw [hi] at e1; cases e1
        rw [List.getElem?_set_self hiσ] at e2
        cases e2
        exact ⟨u, r, .inl ⟨hk, by simp⟩⟩
      · rw [List.getElem?_set_ne (Ne.symm hj)] at e2
        obtain ⟨u', r', q⟩ := hl j y v' e1 e2 e3
        refine ⟨u', r', ?_⟩
        rcases q with ⟨k, e⟩ | ⟨k, c, e, z⟩
        · refine .inl ⟨k, ?_⟩
          have : y ≠ x := fun e => hj (nodup_ix hN e1 (e ▸ hi))
          simp [this, e]
        · exact .inr ⟨k, c, e, z.sameBut hs (cne y c e)⟩
    · obtain ⟨w', z⟩ := I.cell y c e
      exact ⟨w', z.sameBut hs (cne y c e)⟩
    · obtain ⟨e, n, ne, nf, d⟩ := I.pin p hp
      exact ⟨(hs.2 p.1 ne).trans e, n, ne, nf, d⟩
  · have hfn : X.fn x = true := by
      rcases hf with z | z
      · exact z
      · rw [z] at hk; cases hk
    obtain ⟨c, hc⟩ := I.ok.has x (.inl hk)
    obtain ⟨w', z⟩ := I.cell x c hc
    refine wpAny_storeName_cell I.ok.kind hk hc z (fun h' hc' hs => ?_)
    obtain ⟨oc, hoc, hocd⟩ := id z
    refine h { s with heap := h' } ⟨I.ok, I.os, I.bare, ⟨fun b o e n hb hx => ?_, fun b o e n hb hx => ?_, I.base.free, fun b o e hx => ?_, I.base.tups, I.base.frzs, I.base.tbls⟩, ⟨m, hn.sameBut hs (Ne.symm (cne x c hc)), fun j y v' e1 e2 e3 => ?_⟩, fun y c' e => ?_, I.free, I.freeC, fun p hp => ?_, tracked ⟨oc, hoc, I.freeC x c hc⟩ hs, by simpa using I.len⟩ ⟨c, hs, .inr hc⟩
    · exact (hs.2 b (Nat.ne_of_lt (Nat.lt_of_lt_of_le (Heap.lt_size e) (I.ok.cab x c hfn hc)))).trans (I.base.keep b o e n hb hx)
    · obtain ⟨sl, e1⟩ := I.base.slot b o e n hb hx
      exact ⟨sl, (hs.2 b (Nat.ne_of_lt (Nat.lt_of_lt_of_le (Heap.lt_size e) (I.ok.cab x c hfn hc)))).trans e1⟩
    · obtain ⟨o', e1⟩ := I.base.there b o e hx
      exact ⟨o', (hs.2 b (Nat.ne_of_lt (Nat.lt_of_lt_of_le (Heap.lt_size e) (I.ok.cab x c hfn hc)))).trans e1⟩
    · by_cases hj : j = i
      · subst hj
        rw [hi] at e1; cases e1
        rw [List.getElem?_set_self hiσ] at e2
        cases e2
        exact ⟨u, r, .inr ⟨.inl hk, c, hc, hc'⟩⟩
      · rw [List.getElem?_set_ne (Ne.symm hj)] at e2
        obtain ⟨u', r', q⟩ := hl j y v' e1 e2 e3
        refine ⟨u', r', ?_⟩
        rcases q with q | ⟨k, c', e, z'⟩
        · exact .inl q
        · refine .inr ⟨k, c', e, z'.sameBut hs ?_⟩
          rintro rfl
          exact hj (nodup_ix hN e1 (I.ok.inj _ _ _ e hc ▸ hi))
    · by_cases hcc : c' = c
      · subst hcc; exact ⟨_, hc'⟩
      · obtain ⟨w2, z2⟩ := I.cell y c' e
        exact ⟨w2, z2.sameBut hs hcc⟩
    · obtain ⟨e, n, ne, nf, d⟩ := I.pin p hp
      refine ⟨(hs.2 p.1 ?_).trans e, n, ne, nf, d⟩
      intro q
      rw [q, hoc] at e
      have q' : oc = p.2 := Option.some.inj e
      exact d w' (by rw [← q']; exact hocd)
theorem store_ok {M : Model} {A : Around} {E : Value → Shared → Prop} {i : Nat} {x : Str} {v : V} {u : Value} {Q : Unit → Shared → Prop} (I : Inv X pins σ H s) (hN : X.N.Nodup) (hi : X.N[i]? = some x) (hx : Loc X.env.scope x) (r : RelV v u)
    (h : ∀ s', Inv X pins (σ.set i (some v)) H s' → Q () s') (hf : X.fn x = true ∨ X.env.scope.names.lookup x = some .local := by first | exact .inl rfl | exact .inr rfl | assumption) : wpAny M A (storeName X.env x u) Q E s :=
  store_ok2 I hN hi hx r (fun s' I' _ => h s' I') hf
theorem Inv.call' {s' : Shared} {ch : List Addr} (I : Inv X pins σ H s) (ho : s'.os = s.os) (u : Un (frs X.stack) ch H H' s.heap s'.heap) (hok : HOk X.prog X.w H' s'.heap) (hg : AllBare s'.gens)
    (hch : ∀ b ∈ ch, (b ∈ X.ex ∨ X.s_0.heap.objs.size ≤ b) ∧ b ≠ X.env.locals ∧ (∀ x c, X.env.cells.lookup x = some c → c ≠ b) ∧ ∀ p ∈ X.pn ++ pins, p.1 ≠ b) : Inv X pins σ H' s' := by
  obtain ⟨h', g', d', t', o'⟩ := s'
  have e : o' = s.os := ho
  subst e
  exact I.call (g' := g') (t' := t') (d' := d') u hok hg hch
end
abbrev XK := Value → Option Addr → Hp → Prop
abbrev St := List (Option V)
abbrev VK := V → Hp → Prop
abbrev TE := St → Hp → VK → Prop
abbrev TT := St → Hp → (Bool → Hp → Prop) → Prop
abbrev TA := St → Hp → (List V → Hp → Prop) → Prop
structure Ends where
  nx : St → Hp → Prop
  rt : VK
  bk : St → Hp → Prop := fun _ _ => False
  ct : St → Hp → Prop := fun _ _ => False
abbrev TS := Ends → St → Hp → Prop
def EP (X : Cx) (pins : List (Addr × Obj)) (σ : St) (Q : VK) (u : Value) (s' : Shared) : Prop := ∃ v H', Inv X pins σ H' s' ∧ RelV v u ∧ Q v H'
def TP (X : Cx) (pins : List (Addr × Obj)) (σ : St) (Q : Bool → Hp → Prop) (b : Bool) (s' : Shared) : Prop := ∃ H', Inv X pins σ H' s' ∧ Q b H'
def AP (X : Cx) (pins : List (Addr × Obj)) (σ : St) (Q : List V → Hp → Prop) (us : List Value) (s' : Shared) : Prop := ∃ vs H', Inv X pins σ H' s' ∧ Vals vs us ∧ Q vs H'
def SP (X : Cx) (pins : List (Addr × Obj)) (D : Ends) (f : Flow) (s' : Shared) : Prop :=
  match f with
  | .next => ∃ σ' H', Inv X pins σ' H' s' ∧ D.nx σ' H'
  | .brk => ∃ σ' H', Inv X pins σ' H' s' ∧ D.bk σ' H'
  | .cont => ∃ σ' H', Inv X pins σ' H' s' ∧ D.ct σ' H'
  | .ret u => ∃ v σ' H', Inv X pins σ' H' s' ∧ RelV v u ∧ D.rt v H'
def PE (X : Cx) (e : Expr) (t : TE) : Prop :=
  ∀ (pins : List (Addr × Obj)) (s : Shared) (σ : St) (H : Hp) (Q : VK), Inv X pins σ H s → t σ H Q → wpAny (model X.prog X.w) X.A (eval e X.env) (EP X pins σ Q) X.xe s
def PT (X : Cx) (e : Expr) (t : TT) : Prop :=
  ∀ (pins : List (Addr × Obj)) (s : Shared) (σ : St) (H : Hp) (Q : Bool → Hp → Prop), Inv X pins σ H s → t σ H Q → wpAny (model X.prog X.w) X.A (isTrue e X.env (eval e X.env)) (TP X pins σ Q) X.xe s
def PW (X : Cx) (e : Expr) (t : TT) : Prop :=
  ∀ (whole : Sem Value) (pins : List (Addr × Obj)) (s : Shared) (σ : St) (H : Hp) (Q : Bool → Hp → Prop), Inv X pins σ H s → t σ H Q → wpAny (model X.prog X.w) X.A (isTrue e X.env whole) (TP X pins σ Q) X.xe s
theorem PW.pt {X : Cx} {e : Expr} {t : TT} (h : PW X e t) : PT X e t := h _
def PA (X : Cx) (es : List Expr) (t : TA) : Prop :=
  ∀ (pos : Pos) (pins : List (Addr × Obj)) (s : Shared) (σ : St) (H : Hp) (Q : List V → Hp → Prop), Inv X pins σ H s → t σ H Q → wpAny (model X.prog X.w) X.A (spliced (backTo pos (starEach es X.env))) (AP X pins σ Q) X.xe s
def PS (X : Cx) (st : Stmt) (t : TS) : Prop :=
  ∀ (pins : List (Addr × Obj)) (s : Shared) (σ : St) (H : Hp) (D : Ends), Inv X pins σ H s → t D σ H → wpAny (model X.prog X.w) X.A (exec st X.env) (SP X pins D) X.xe s
def PSs (X : Cx) (st : List Stmt) (t : TS) : Prop :=
  ∀ (pins : List (Addr × Obj)) (s : Shared) (σ : St) (H : Hp) (D : Ends), Inv X pins σ H s → t D σ H → wpAny (model X.prog X.w) X.A (execs st X.env) (SP X pins D) X.xe s
theorem thn {α : Type} {t : Sem α} {Q Q' : α → Shared → Prop} {M : Model} {A : Around} {E : Value → Shared → Prop} {s : Shared} (h : wpAny M A t Q E s) (hQ : ∀ a s, Q a s → Q' a s) : wpAny M A t Q' E s := wpAny_mono h hQ fun _ _ x => x
end L2
namespace L2
open PySem PySem.Spec PyProof.Rows
section
variable {X : Cx}
theorem bin {a b : Expr} {ta tb : TE} (ha : PE X a ta) (hb : PE X b tb) {pins : List (Addr × Obj)} {s : Shared} {σ : St} {H : Hp} {R : V → V → Hp → Prop} (I : Inv X pins σ H s) (h : ta σ H fun x H1 => tb σ H1 fun y H2 => R x y H2)
    {α : Type} {Q : α → Shared → Prop} {f : Value → Value → Sem α}
    (hf : ∀ v u s2 x y H2, Inv X pins σ H2 s2 → RelV x v → RelV y u → R x y H2 → wpAny (model X.prog X.w) X.A (f v u) Q X.xe s2) :
    wpAny (model X.prog X.w) X.A (eval a X.env) (fun v s₁ => wpAny (model X.prog X.w) X.A (eval b X.env) (fun u s₂ => wpAny (model X.prog X.w) X.A (f v u) Q X.xe s₂) X.xe s₁) X.xe s := by
  refine thn (ha pins s σ H _ I h) fun v s1 ⟨x, H1, I1, r1, q1⟩ => ?_
  refine thn (hb pins s1 σ H1 _ I1 q1) fun u s2 ⟨y, H2, I2, r2, q2⟩ => ?_
  exact hf v u s2 x y H2 I2 r1 r2 q2
def tVar (i : Nat) : TE := fun σ H Q => ∃ v, σ[i]? = some (some v) ∧ Q v H
def tC (v : V) : TE := fun _ H Q => Q v H
theorem pe_var {i : Nat} {x : Str} {pos : Pos} (hN : X.N[i]? = some x) (hv : Vis X.env.scope x) (hd : (x == ("__debug__" : Str)) = false := by decide) (hcd : (x == ("__classdict__" : Str)) = false := by decide) : PE X (.Name x pos) (tVar i) := by
  intro pins s σ H Q I h
  obtain ⟨v, e, h⟩ := h
  obtain ⟨m, hn, hl⟩ := I.loc
  obtain ⟨u, r, l⟩ := hl i x v hN e hv
  have fin : EP X pins σ Q u s := ⟨v, H, I, r, h⟩
  rcases l with ⟨hk, hm⟩ | ⟨hk, c, hc, hcell⟩
  · exact wpAny_Name (wpAny_loadName_local I.ok.kind hk hn hm fin) hd
  · rcases hk with hk | hk
    · exact wpAny_Name (wpAny_loadName_cell I.ok.kind hk hc hcell fin) hd
    · exact wpAny_Name (wpAny_loadName_free I.ok.kind hk hc hcell fin hcd) hd
theorem pe_int {i j pos} : PE X (.Constant (.int i) j pos) (tC (.int i)) := fun _ _ _ H _ I h => wpAny_Constant_int ⟨.int i, H, I.tok _, ⟨_, rfl⟩, h⟩
theorem pe_bl {b j pos} : PE X (.Constant (.bool b) j pos) (tC (.bl b)) := fun _ _ _ H _ I h => Constant_bool ⟨.bl b, H, I, rfl, h⟩
theorem pe_non {j pos} : PE X (.Constant .none j pos) (tC .non) := fun _ _ _ H _ I h => Constant_none ⟨.non, H, I, rfl, h⟩
def Gl (X : Cx) (x : Str) : Prop := X.env.kindOf x = some .globalImplicit
theorem ld_glob {E : Value → Shared → Prop} {pins : List (Addr × Obj)} {s : Shared} {σ : St} {H : Hp} {x : Str} {u : Value} {pos : Pos} {Q : Value → Shared → Prop} (I : Inv X pins σ H s) (hg : Gl X x) (hm : X.mg x = some u) (h : Q u s)
    (hd : (x == ("__debug__" : Str)) = false := by decide) : wpAny (model X.prog X.w) X.A (eval (.Name x pos) X.env) Q E s :=
  Calls.Name_function_global I.ok.kind hg (Calls.loadGlobal_global (by rw [I.ok.glob]; exact I.mod.glob.keeps I.bk) hm h) hd
theorem ld_blt {E : Value → Shared → Prop} {pins : List (Addr × Obj)} {s : Shared} {σ : St} {H : Hp} {x : Str} {u : Value} {pos : Pos} {Q : Value → Shared → Prop} (I : Inv X pins σ H s) (hg : Gl X x) (hm : X.mg x = none) (hv : bootBuiltins x = some u) (h : Q u s)
    (hn : x ≠ "__name__" := by decide) (hd : (x == ("__debug__" : Str)) = false := by decide) : wpAny (model X.prog X.w) X.A (eval (.Name x pos) X.env) Q E s := by
  obtain ⟨mb, h1, h2⟩ := I.mod.blt
  exact Calls.Name_function_global I.ok.kind hg (Calls.loadGlobal_builtin (by rw [I.ok.glob]; exact I.mod.glob.keeps I.bk) hm (by rw [I.ok.blt]; exact h1.keeps I.bk) ((h2 x hn).trans hv) h) hd
theorem pe_glob {x : Str} {v : V} {u : Value} {pos : Pos} (hg : Gl X x) (hm : X.mg x = some u) (r : RelV v u) (hd : (x == ("__debug__" : Str)) = false := by decide) : PE X (.Name x pos) (tC v) :=
  fun _ _ _ H _ I h => ld_glob I hg hm ⟨v, H, I, r, h⟩ hd
theorem pe_bltn {x : Str} {v : V} {u : Value} {pos : Pos} (hg : Gl X x) (hm : X.mg x = none) (hv : bootBuiltins x = some u) (r : RelV v u) (hn : x ≠ "__name__" := by decide) (hd : (x == ("__debug__" : Str)) = false := by decide) : PE X (.Name x pos) (tC v) :=
  fun _ _ _ H _ I h => ld_blt I hg hm hv ⟨v, H, I, r, h⟩ hn hd
variable {a b : Expr} {ta tb : TE} {pos : Pos}
theorem nobehind (b : Expr) {op : CmpOp} (h : op ≠ .In) (h2 : op ≠ .NotIn) : behindInMarks op b = false := by
  have e1 : (op == CmpOp.In) = false := by cases op <;> first | rfl | exact absurd rfl h
  have e2 : (op == CmpOp.NotIn) = false := by cases op <;> first | rfl | exact absurd rfl h2
  cases b <;> simp [behindInMarks, e1, e2]
variable {tA tB' : TT} {rest : List Expr}
def tAnd (t u : TT) : TT := fun σ H Q => t σ H fun c H1 => if c = true then u σ H1 Q else Q false H1
def tOr (t u : TT) : TT := fun σ H Q => t σ H fun c H1 => if c = true then Q true H1 else u σ H1 Q
def tNot (t : TT) : TT := fun σ H Q => t σ H fun c H1 => Q (!c) H1
theorem pw_and1 (ha : PT X a tA) : PW X (.BoolOp .And [a] pos) tA := by
  intro wh pins s σ H Q I h
  refine isTrue_and (thn (ha pins s σ H Q I h) fun c s1 e => ?_)
  cases c with
  | true => exact isTrue_and_nil e
  | false => exact e
theorem pw_or1 (ha : PT X a tA) : PW X (.BoolOp .Or [a] pos) tA := by
  intro wh pins s σ H Q I h
  refine isTrue_or (thn (ha pins s σ H Q I h) fun c s1 e => ?_)
  cases c with
  | false => exact isTrue_or_nil e
  | true => exact e
theorem pw_and (ha : PT X a tA) (hb : PW X (.BoolOp .And (b :: rest) pos) tB') : PW X (.BoolOp .And (a :: b :: rest) pos) (tAnd tA tB') := by
  intro wh pins s σ H Q I h
  refine isTrue_and (thn (ha pins s σ H _ I h) fun c s1 ⟨H1, I1, q1⟩ => ?_)
  cases c with
  | true => exact hb wh pins s1 σ H1 Q I1 q1
  | false => exact ⟨H1, I1, q1⟩
theorem pw_or (ha : PT X a tA) (hb : PW X (.BoolOp .Or (b :: rest) pos) tB') : PW X (.BoolOp .Or (a :: b :: rest) pos) (tOr tA tB') := by
  intro wh pins s σ H Q I h
  refine isTrue_or (thn (ha pins s σ H _ I h) fun c s1 ⟨H1, I1, q1⟩ => ?_)
  cases c with
  | true => exact ⟨H1, I1, q1⟩
  | false => exact hb wh pins s1 σ H1 Q I1 q1
theorem pt_not (ha : PT X a tA) : PT X (.UnaryOp .Not a pos) (tNot tA) := by
  intro pins s σ H Q I h
  exact isTrue_not (ha pins s σ H (fun c H1 => Q (!c) H1) I h)
def tAndV (ta tb : TE) : TE := fun σ H Q => ta σ H fun x H1 => ∃ c, x = .bl c ∧ if c = true then tb σ H1 Q else Q (.bl false) H1
def tNotV (ta : TE) : TE := fun σ H Q => ta σ H fun x H1 => ∃ c, x = .bl c ∧ Q (.bl (!c)) H1
theorem pe_one {op} {t : TE} (h : PE X a t) : PE X (.BoolOp op [a] pos) t := fun pins s σ H Q I hw => BoolOp_one (h pins s σ H Q I hw)
theorem pe_and (ha : PE X a ta) (hb : PE X (.BoolOp .And (b :: rest) pos) tb) : PE X (.BoolOp .And (a :: b :: rest) pos) (tAndV ta tb) := by
  intro pins s σ H Q I h
  refine BoolOp_and (thn (ha pins s σ H _ I h) fun v s1 ⟨x, H1, I1, r1, q1⟩ => ?_)
  obtain ⟨c, rfl, q1⟩ := q1
  cases r1
  refine wpAny_truthy_bool ?_
  cases c with
  | true => exact hb pins s1 σ H1 Q I1 q1
  | false => exact ⟨.bl false, H1, I1, rfl, q1⟩
theorem pe_not (ha : PE X a ta) : PE X (.UnaryOp .Not a pos) (tNotV ta) := by
  intro pins s σ H Q I h
  refine UnaryOp_ (thn (ha pins s σ H _ I h) fun v s1 ⟨x, H1, I1, r1, q1⟩ => ?_)
  obtain ⟨c, rfl, q1⟩ := q1
  cases r1
  exact not_of (wpAny_truthy_bool ⟨.bl (!c), H1, I1, rfl, q1⟩)
def tIf (t : TT) (ta tb : TE) : TE := fun σ H Q => t σ H fun c H1 => if c = true then ta σ H1 Q else tb σ H1 Q
theorem pe_ifExp {c : Expr} (hc : PT X c tA) (ha : PE X a ta) (hb : PE X b tb) : PE X (.IfExp c a b pos) (tIf tA ta tb) := by
  intro pins s σ H Q I h
  refine wpAny_IfExp (thn (hc pins s σ H _ I h) fun d s1 ⟨H1, I1, q1⟩ => ?_)
  cases d with
  | true => exact ha pins s1 σ H1 Q I1 q1
  | false => exact hb pins s1 σ H1 Q I1 q1
end
end L2
namespace L2
open PySem PySem.Spec PyProof.Rows
def SqL (K : PySem.W.Frag) (H : Hp) (a : Addr) (xs : List V) : Prop :=
  Rd H a (.lst xs) ∨
    ∃ (o : Obj) (its : Array Value) (n : Nat), K.lookup a = some o ∧ o.cls = .type "list" ∧ o.dict = none ∧ o.data = .seq its n ∧ its.size ≤ sizeLine ∧ Vals xs its.toList
def SqT (K : PySem.W.Frag) (H : Hp) (a : Addr) (xs : List V) : Prop :=
  Rd H a (.tup xs) ∨
    ∃ (o : Obj) (its : Array Value) (n : Nat), K.lookup a = some o ∧ o.cls = .type "tuple" ∧ o.data = .seq its n ∧ its.size ≤ sizeLine ∧ Vals xs its.toList
def absV : Value → Option V
  | .none => some .non
  | .bool b => some (.bl b)
  | .int i _ => some (.int i)
  | .str x _ => some (.str x)
  | .bytes b _ => some (.byt b)
  | .float b _ => some (.flt b)
  | .ref a => some (.ref a)
  | .type n => some (.ty n)
  | _ => none
theorem RelV.abs {x : V} {u : Value} (r : RelV x u) : absV u = some x := by
  cases x with
  | non => cases r; rfl
  | bl _ => cases r; rfl
  | int _ => obtain ⟨t, rfl⟩ := r; rfl
  | str _ => obtain ⟨t, rfl⟩ := r; rfl
  | byt _ => obtain ⟨t, rfl⟩ := r; rfl
  | flt _ => obtain ⟨t, rfl⟩ := r; rfl
  | ref _ => cases r; rfl
  | ty _ => cases r; rfl
theorem RelV.inj {x y : V} {u : Value} (r : RelV x u) (q : RelV y u) : x = y := Option.some.inj (r.abs.symm.trans q.abs)
theorem Vals.inj : ∀ {xs ys : List V} {us : List Value}, Vals xs us → Vals ys us → xs = ys
  | _, _, _, .nil, .nil => rfl
  | _, _, _, .cons r t, .cons r' t' => by rw [r.inj r', Vals.inj t t']
section
variable {X : Cx} {pins : List (Addr × Obj)} {σ : St} {H : Hp} {s : Shared} {a : Addr} {xs ys : List V}
theorem SqL.of {K : PySem.W.Frag} (h : H a = some (.lst xs)) : SqL K H a xs := .inl (.inl h)
theorem SqT.of {K : PySem.W.Frag} (h : H a = some (.tup xs)) : SqT K H a xs := .inl (.inl h)
theorem Inv.list (I : Inv X pins σ H s) (h : SqL X.K H a xs) : ∃ its : List Value, Vals xs its ∧ PlainL s.heap a its.toArray ∧ xs.length ≤ sizeLine := by
  rcases h with h | ⟨o, its, n, hk, hc, hd, hs, hz, r⟩
  · obtain ⟨z, its, n, r, e⟩ := h.ok I.hok
    exact ⟨its, r, ⟨_, n, e, rfl, rfl, rfl⟩, z⟩
  · refine ⟨its.toList, r, ⟨o, n, I.kIn a o hk, hc, hd, by simpa using hs⟩, ?_⟩
    have e := r.length
    simp only [Array.length_toList] at e
    omega
theorem Inv.tuple (I : Inv X pins σ H s) (h : SqT X.K H a xs) : ∃ its : List Value, Vals xs its ∧ IsTup s.heap a its.toArray ∧ xs.length ≤ sizeLine := by
  rcases h with h | ⟨o, its, n, hk, hc, hs, hz, r⟩
  · obtain ⟨z, its, r, p⟩ := h.ok I.hok
    exact ⟨its, r, p, z⟩
  · refine ⟨its.toList, r, ⟨o, I.kIn a o hk, hc, n, by simpa using hs⟩, ?_⟩
    have e := r.length
    simp only [Array.length_toList] at e
    omega
theorem Inv.list_inj (I : Inv X pins σ H s) (h : SqL X.K H a xs) (h' : SqL X.K H a ys) : xs = ys := by
  obtain ⟨its, r, ⟨o, n, e, _, _, d⟩, _⟩ := I.list h
  obtain ⟨its', r', ⟨o', n', e', _, _, d'⟩, _⟩ := I.list h'
  rw [e] at e'; cases e'
  rw [d] at d'
  injection d' with d1 _
  have : its = its' := by simpa using congrArg Array.toList d1
  subst this
  exact r.inj r'
end
section
variable {X : Cx} {pins : List (Addr × Obj)} {σ : St} {H : Hp} {s : Shared} {E : Value → Shared → Prop}
end
section
variable {X : Cx} {st : Stmt} {rest : List Stmt} {t u : TS} {e : Expr} {te : TE} {pos : Pos}
def tNext : TS := fun D σ H => D.nx σ H
def tSeq (t u : TS) : TS := fun D σ H => t { D with nx := u D } σ H
theorem pss_nil : PSs X [] tNext := fun _ _ σ H _ I h => wpAny_execs_nil ⟨σ, H, I, h⟩
theorem pss_cons (h1 : PS X st t) (h2 : PSs X rest u) : PSs X (st :: rest) (tSeq t u) := by
  intro pins s σ H D I h
  refine wpAny_execs_cons (thn (h1 pins s σ H { D with nx := u D } I h) fun f s1 q => ?_)
  cases f with
  | next =>
    obtain ⟨σ', H', I', q⟩ := q
    exact h2 pins s1 σ' H' D I' q
  | ret v => exact q
  | brk => exact q
  | cont => exact q
theorem Inv.quiet {pins : List (Addr × Obj)} {σ : St} {H : Hp} {s : Shared} (I : Inv X pins σ H s) : interactive X.env = false := by simp [interactive, I.ok.kind]
def tDrop (te : TE) : TS := fun D σ H => te σ H fun _ H1 => D.nx σ H1
theorem ps_expr (he : PE X e te) (hs : swapsWith e none pos.line X.env = pure false := by rfl) : PS X (.Expr e pos) (tDrop te) := by
  intro pins s σ H D I h
  exact wpAny_Expr_any (thn (he pins s σ H _ I h) fun v s1 ⟨x, H1, I1, r1, q1⟩ => ⟨σ, H1, I1, q1⟩) I.quiet hs
def tRet (te : TE) : TS := fun D σ H => te σ H D.rt
theorem ps_ret (he : PE X e te) : PS X (.Return (some e) pos) (tRet te) := by
  intro pins s σ H D I h
  exact wpAny_Return_some (thn (he pins s σ H _ I h) fun v s1 ⟨x, H1, I1, r1, q1⟩ => ⟨x, σ, H1, I1, r1, q1⟩)
def tIfS (c : TT) (t u : TS) : TS := fun D σ H => c σ H fun b H1 => if b = true then t D σ H1 else u D σ H1
theorem ps_if {c : Expr} {a b : List Stmt} {tc : TT} (hc : PT X c tc) (ha : PSs X a t) (hb : PSs X b u) : PS X (.If c a b pos) (tIfS tc t u) := by
  intro pins s σ H D I h
  refine wpAny_If (thn (hc pins s σ H _ I h) fun d s1 ⟨H1, I1, q1⟩ => ?_)
  cases d with
  | true => exact ha pins s1 σ H1 D I1 q1
  | false => exact hb pins s1 σ H1 D I1 q1
def tNever : TS := fun _ _ _ => False
theorem ps_never : PS X st tNever := fun _ _ _ _ _ _ h => h.elim
end
abbrev TG := V → St → Hp → (St → Hp → Prop) → Prop
abbrev TGs := List V → St → Hp → (St → Hp → Prop) → Prop
def PG (X : Cx) (target : Expr) (t : TG) : Prop :=
  ∀ (pins : List (Addr × Obj)) (s : Shared) (σ : St) (H : Hp) (v : V) (u : Value) (Q : St → Hp → Prop), Inv X pins σ H s → RelV v u → t v σ H Q →
    wpAny (model X.prog X.w) X.A (assign target X.env u) (fun _ s' => ∃ σ' H', Inv X pins σ' H' s' ∧ Q σ' H') X.xe s
def PGs (X : Cx) (ts : List Expr) (t : TGs) : Prop :=
  ∀ (pins : List (Addr × Obj)) (s : Shared) (σ : St) (H : Hp) (vs : List V) (us : List Value) (Q : St → Hp → Prop), Inv X pins σ H s → Vals vs us → t vs σ H Q →
    wpAny (model X.prog X.w) X.A (assignInOrder ((assignEach ts X.env).map (·.2)) us) (fun _ s' => ∃ σ' H', Inv X pins σ' H' s' ∧ Q σ' H') X.xe s
section
variable {X : Cx} {pos : Pos}
def gName (i : Nat) : TG := fun v σ H Q => Q (σ.set i (some v)) H
theorem pg_name {i : Nat} {x : Str} (hN : X.N.Nodup) (hi : X.N[i]? = some x) (hx : Loc X.env.scope x) (hf : X.fn x = true ∨ X.env.scope.names.lookup x = some .local := by first | exact .inl rfl | exact .inr rfl | assumption) : PG X (.Name x pos) (gName i) := by
  intro pins s σ H v u Q I r h
  exact wpAny_assign_Name (store_ok I hN hi hx r (fun s' I' => ⟨_, H, I', h⟩) hf)
def gNil : TGs := fun vs σ H Q => vs = [] ∧ Q σ H
def gCons (t : TG) (u : TGs) : TGs := fun vs σ H Q => ∃ v r, vs = v :: r ∧ t v σ H fun σ' H' => u r σ' H' Q
theorem pgs_nil : PGs X [] gNil := by
  intro pins s σ H vs us Q I r h
  obtain ⟨e, h⟩ := h
  subst e
  cases r
  exact assignInOrder_nil ⟨σ, H, I, h⟩
theorem pgs_cons {e : Expr} {es : List Expr} {t : TG} {u : TGs} (h1 : PG X e t) (h2 : PGs X es u)
    (hs : (assignEach (e :: es) X.env).map (·.2) = assign e X.env :: (assignEach es X.env).map (·.2) := by rfl) : PGs X (e :: es) (gCons t u) := by
  intro pins s σ H vs us Q I r h
  obtain ⟨v, vr, e1, h⟩ := h
  subst e1
  cases r with
  | cons r rr =>
    rw [hs]
    refine assignInOrder_cons (thn (h1 pins s σ H _ _ _ I r h) fun _ s1 ⟨σ1, H1, I1, q1⟩ => ?_)
    exact h2 pins s1 σ1 H1 _ _ Q I1 rr q1
def gTup (K : PySem.W.Frag) (n : Nat) (t : TGs) : TG := fun v σ H Q => ∃ a xs, v = .ref a ∧ SqT K H a xs ∧ xs.length = n ∧ t xs σ H Q
theorem pg_tup {es : List Expr} {k : Nat} {t : TGs} {n : Nat} (hc : X.calm = true) (h : PGs X es t)
    (hn : (assignEach es X.env).length = n := by rfl) (hst : (assignEach es X.env).findIdx? (·.1) = none := by rfl) : PG X (.Tuple es k pos) (gTup X.K n t) := by
  intro pins s σ H v u Q I r hw
  obtain ⟨a, xs, e1, hq, hl, hw⟩ := hw
  subst e1
  cases r
  obtain ⟨its, rv, ht, hz⟩ := I.tuple hq
  refine assign_Tuple_tuple (I.ok.hd hc) ht (by simp [hn, ← hl, rv.length]) hst fun h' hx => ?_
  have I1 : Inv X pins σ H { s with heap := h' } := I.kept (t' := s.toks) fun b o e => hx b o (Nat.ne_of_lt (Heap.lt_size e)) e
  exact h pins _ σ H xs _ Q I1 (by simpa using rv) hw
def tAsg (te : TE) (g : TG) : TS := fun D σ H => te σ H fun x H1 => g x σ H1 D.nx
theorem ps_asg {tg e : Expr} {te : TE} {g : TG} (he : PE X e te) (hg : PG X tg g) (hs : swapsWithSole [tg] e pos.line X.env = pure false := by rfl) (hw : swappedStores [tg] e X.env = pure none := by rfl)
    (h1 : (assignEach [tg] X.env).map (·.2) = [assign tg X.env] := by rfl) : PS X (.Assign [tg] e pos) (tAsg te g) := by
  intro pins s σ H D I h
  refine wpAny_Assign_stores (thn (he pins s σ H _ I h) fun v s1 ⟨x, H1, I1, r1, q1⟩ => ?_) hs hw
  rw [h1]
  exact thn (hg pins s1 σ H1 x v _ I1 r1 q1) fun _ s2 q => q
theorem ps_set {i : Nat} {x : Str} {e : Expr} {te : TE} {pos' : Pos} (hN : X.N.Nodup) (hi : X.N[i]? = some x) (hx : Loc X.env.scope x) (he : PE X e te) (hs : swapsWith e (some (.Name x pos')) pos.line X.env = pure false := by rfl) (hf : X.fn x = true ∨ X.env.scope.names.lookup x = some .local := by first | exact .inl rfl | exact .inr rfl | assumption) :
    PS X (.Assign [.Name x pos'] e pos) (tAsg te (gName i)) := by
  intro pins s σ H D I h
  refine wpAny_Assign_Name (thn (he pins s σ H _ I h) fun v s1 ⟨y, H1, I1, r1, q1⟩ => ?_) hs
  exact store_ok I1 hN hi hx r1 (fun s2 I2 => ⟨_, H1, I2, q1⟩) hf
def tPar (i j : Nat) (ta : TA) : TS := fun D σ H => ta σ H fun vs H1 => ∃ v w, vs = [v, w] ∧ D.nx ((σ.set i (some v)).set j (some w)) H1
theorem ps_par {i j : Nat} {x y : Str} {a b : Expr} {ta : TA} {px py pt : Pos} {kt k2 pt2} (hc : X.calm = true) (hN : X.N.Nodup) (hi : X.N[i]? = some x) (hj : X.N[j]? = some y) (hij : i ≠ j)
    (hx : X.env.scope.names.lookup x = some .local) (hy : X.env.scope.names.lookup y = some .local) (ha : PA X [a, b] ta)
    (hw : swappedStores [.Tuple [.Name x px, .Name y py] kt pt] (.Tuple [a, b] k2 pt2) X.env = pure (some [x, y]))
    (hs : swapsWithSole [.Tuple [.Name x px, .Name y py] kt pt] (.Tuple [a, b] k2 pt2) pos.line X.env = pure false := by rfl) :
    PS X (.Assign [.Tuple [.Name x px, .Name y py] kt pt] (.Tuple [a, b] k2 pt2) pos) (tPar i j ta) := by
  intro pins s σ H D I h
  rw [exec_Assign_arm]
  refine wpAny_bind (wpAny_standAt ?_)
  rw [hs]
  refine wpAny_bind (wpAny_pure ?_)
  rw [if_neg (by decide)]
  refine wpAny_bind (Tuple_ (thn (ha _ pins s σ H _ I h) fun us s1 ⟨vs, H1, I1, r1, q1⟩ => ?_))
  obtain ⟨v, w, e1, q1⟩ := q1
  subst e1
  obtain ⟨u1, u2, rfl, rv, rw'⟩ : ∃ u1 u2, us = [u1, u2] ∧ RelV v u1 ∧ RelV w u2 := by
    cases r1 with
    | cons p q =>
      cases q with
      | cons p' q' =>
        cases q'
        exact ⟨_, _, rfl, p, p'⟩
  refine wpAny_newObj_type ?_ (by show 2 ≤ sizeLine; decide)
  have I2 : Inv X pins σ H1 { s1 with heap := s1.heap.push { cls := .type "tuple", data := .seq [u1, u2].toArray } } := I1.kept (t' := s1.toks) fun b o e => Heap.get?_push_of_some _ e
  rw [hw]
  refine wpAny_bind (wpAny_pure ?_)
  show wpAny (model X.prog X.w) X.A (do rule "assign.swapped-stores"; let items ← unpackItems (.ref s1.heap.objs.size) 2 none; assignInOrder [fun v => bindName X.env y v, fun v => bindName X.env x v] items.reverse; pure Flow.next) _ _ _
  refine wpAny_bind (wpAny_rule (wpAny_bind (unpackItems_tuple (items := #[u1, u2]) (I.ok.hd hc) (IsTup.new s1.heap _) fun h' hx' => ?_)))
  have I3 := I2.kept (h' := h') (t' := s1.toks) fun b o e => hx' b o (Nat.ne_of_lt (Heap.lt_size e)) e
  show wpAny _ _ (assignInOrder [fun v => bindName X.env y v, fun v => bindName X.env x v] [u2, u1] >>= fun _ => pure Flow.next) _ _ _
  refine wpAny_bind (assignInOrder_cons (wpAny_bindName (store_ok I3 hN hj (.inl hy) rw' (fun s2 I4 => ?_) (.inr hy))))
  refine assignInOrder_cons (wpAny_bindName (store_ok I4 hN hi (.inl hx) rv (fun s3 I5 => assignInOrder_nil (wpAny_pure ?_)) (.inr hx)))
  rw [List.set_comm _ _ (Ne.symm hij)] at I5
  exact ⟨_, H1, I5, q1⟩
end
section
variable {X : Cx} {pos : Pos}
def tWhile (c : TT) (tb : TS) : TS := fun D σ H => ∃ W : Nat → St → Hp → Prop, (∃ m, W m σ H) ∧ ∀ m σ H, W m σ H →
  c σ H fun b H1 => if b = true then ∃ N : St → Hp → Prop, (∀ σ' H', N σ' H' → ∃ m', m' < m ∧ W m' σ' H') ∧ tb { D with nx := N, ct := N, bk := D.nx } σ H1 else D.nx σ H1
theorem ps_while {c : Expr} {body : List Stmt} {tc : TT} {tb : TS} (hp : PassesOwn (model X.prog X.w) X.A X.env X.xe) (hc : PT X c tc) (hb : PSs X body tb) : PS X (.While c body [] pos) (tWhile tc tb) := by
  intro pins s σ H D I h
  obtain ⟨W, ⟨m0, w0⟩, turn⟩ := h
  refine wpAny_While (codeAny_whileLoop (fun n s' => ∃ σ' H', Inv X pins σ' H' s' ∧ W n σ' H') ?_ m0 ⟨σ, H, I, w0⟩)
  rintro n s1 ⟨σ1, H1, I1, w1⟩
  refine wpAny_passesOwn hp (thn (hc pins s1 σ1 H1 _ I1 (turn n σ1 H1 w1)) fun b s2 ⟨H2, I2, q2⟩ => ?_)
  cases b with
  | true =>
    obtain ⟨N, hN, q2⟩ := q2
    rw [if_pos rfl]
    refine wpAny_passesOwn hp (thn (hb pins s2 σ1 H2 _ I2 q2) fun f s3 q3 => ?_)
    cases f with
    | next =>
      obtain ⟨σ3, H3, I3, n3⟩ := q3
      obtain ⟨m', hm, w3⟩ := hN σ3 H3 n3
      exact ⟨m', hm, σ3, H3, I3, w3⟩
    | cont =>
      obtain ⟨σ3, H3, I3, n3⟩ := q3
      obtain ⟨m', hm, w3⟩ := hN σ3 H3 n3
      exact ⟨m', hm, σ3, H3, I3, w3⟩
    | brk => exact q3
    | ret v => exact q3
  | false =>
    rw [if_neg Bool.false_ne_true]
    exact wpAny_execs_nil ⟨σ1, H2, I2, q2⟩
end
structure It where
  go : Nat → Hp → Prop
  yld : Nat → Hp → V → Hp → Prop
  stop : Nat → Hp → Prop
def FpOk (X : Cx) (pins : List (Addr × Obj)) (H : Hp) (b : Addr) : Prop :=
  H b = none ∧ b ≠ X.env.locals ∧ b ∉ X.fs ∧ (b ∈ X.ex ∨ X.s_0.heap.objs.size ≤ b) ∧ (∀ x c, X.env.cells.lookup x = some c → c ≠ b) ∧ ∀ p ∈ X.pn ++ pins, p.1 ≠ b
theorem Inv.fpOk {X : Cx} {pins : List (Addr × Obj)} {σ : St} {H H' : Hp} {s : Shared} {b : Addr} (I : Inv X pins σ H s) (hb : s.heap.objs.size ≤ b) (hn : H' b = none) : FpOk X pins H' b := by
  refine ⟨hn, Nat.ne_of_gt (Nat.lt_of_lt_of_le I.lt hb), I.nofs hb, .inr (Nat.le_trans I.sz hb), fun x c e z => ?_, fun p hp z => ?_⟩
  · obtain ⟨v, q⟩ := I.cell x c e
    exact absurd (Nat.lt_of_lt_of_le q.lt (by rw [z]; exact hb)) (Nat.lt_irrefl _)
  · exact absurd (Nat.lt_of_lt_of_le (Heap.lt_size (I.pin p hp).1) (by rw [z]; exact hb)) (Nat.lt_irrefl _)
structure Turn (P : Program) (w : World) (K : PySem.W.Frag) (tg : Expr) (J : It) (fp : List Addr) (it : Addr) (tn : Nat → Heap → Prop) : Prop where
  mem : it ∈ fp
  obj : ∀ i h, tn i h → ∀ b ∈ fp, ∃ o, h.get? b = some o ∧ ∀ v, o.data ≠ .cell v
  keep : ∀ i h h', tn i h → (∀ b ∈ fp, ∀ o, h.get? b = some o → h'.get? b = some o) → tn i h'
  item : ∀ (X : Cx), X.prog = P → X.w = w → X.K = K → X.calm = true → ∀ (i : Nat) (pins : List (Addr × Obj)) (s : Shared) (σ : St) (H : Hp) (E : Value → Shared → Prop), Inv X pins σ H s → (∀ b ∈ fp, FpOk X pins H b) → tn i s.heap → J.go i H →
    wpAny (model P w) X.A (pyNext (.ref it)) (fun r s1 => ∃ u, r = some u ∧
      wpAny (model P w) X.A (letOwnedTupleGo tg (.ref it) u) (fun _ s2 => ∃ x H', Inv X pins σ H' s2 ∧ RelV x u ∧ J.yld i H x H' ∧ tn (i + 1) s2.heap ∧ ∀ b ∈ fp, H' b = none) E s1) E s
  done : ∀ (X : Cx), X.prog = P → X.w = w → X.K = K → X.calm = true → ∀ (i : Nat) (pins : List (Addr × Obj)) (s : Shared) (σ : St) (H : Hp) (E : Value → Shared → Prop), Inv X pins σ H s → (∀ b ∈ fp, FpOk X pins H b) → tn i s.heap → J.stop i H →
    wpAny (model P w) X.A (pyNext (.ref it)) (fun r s1 => r = none ∧ Inv X pins σ H s1) E s
  self : ∀ (A : Around) (i : Nat) (s : Shared) (Q : Value → Shared → Prop) (E : Value → Shared → Prop), tn i s.heap → Q (.ref it) s → wpAny (model P w) A (pyIter (.ref it)) Q E s
abbrev TI := St → Hp → (It → Hp → Prop) → Prop
def PIE (X : Cx) (pins : List (Addr × Obj)) (σ : St) (tg : Expr) (R : It → Hp → Prop) (itv : Value) (s2 : Shared) : Prop :=
  ∃ (it : Addr) (fp : List Addr) (tn : Nat → Heap → Prop) (J : It) (H' : Hp), itv = .ref it ∧ Inv X pins σ H' s2 ∧ Turn X.prog X.w X.K tg J fp it tn ∧ tn 0 s2.heap ∧ (∀ b ∈ fp, FpOk X pins H' b) ∧ R J H'
def PI (X : Cx) (tg iter : Expr) (wi : TI) : Prop :=
  ∀ (pins : List (Addr × Obj)) (s : Shared) (σ : St) (H : Hp) (R : It → Hp → Prop), Inv X pins σ H s → wi σ H R →
    wpAny (model X.prog X.w) X.A (eval iter X.env) (fun v s1 => wpAny (model X.prog X.w) X.A (pyIter v) (PIE X pins σ tg R) X.xe s1) X.xe s
theorem go_of {M : Model} {A : Around} {E : Value → Shared → Prop} {s : Shared} {tg : Expr} {it : Addr} {u : Value} {o : Obj} {n : String} {vs : Array Value} {Q : Unit → Shared → Prop} (ho : s.heap.get? it = some o) (hc : o.cls = .type n) (hd : o.data = .fields vs)
    (hn : ["enumerate", "zip", "dict_itemiterator", "dict_reverseitemiterator", "odict_iterator", "itertools.zip_longest", "itertools.pairwise"].contains n = false) (hQ : Q () s) : wpAny M A (letOwnedTupleGo tg (.ref it) u) Q E s := by
  unfold letOwnedTupleGo
  cases tg <;> first
    | exact wpAny_pure hQ
    | (cases u <;> first
        | exact wpAny_pure hQ
        | (refine wpAny_bind (wpAny_load ho ?_)
           rw [hc, hd]
           show wpAny M A (if (["enumerate", "zip", "dict_itemiterator", "dict_reverseitemiterator", "odict_iterator", "itertools.zip_longest", "itertools.pairwise"].contains n && vs[0]? == some (rawInt _)) = true then _ else _) Q E s
           rw [if_neg (by intro h; rw [hn, Bool.false_and] at h; cases h)]
           exact wpAny_pure hQ))
def Itl (K : PySem.W.Frag) (a : Addr) : It :=
  ⟨fun i H => ∃ xs x, SqL K H a xs ∧ xs[i]? = some x, fun i H x H' => H' = H ∧ ∀ xs, SqL K H a xs → xs[i]? = some x, fun i H => ∃ xs, SqL K H a xs ∧ xs.length ≤ i⟩
def Itr (lo : Int) (n : Nat) : It := ⟨fun i _ => i < n, fun i H x H' => H' = H ∧ x = .int (lo + i), fun i _ => n ≤ i⟩
theorem turn_list {P : Program} {w : World} {K : PySem.W.Frag} {tg : Expr} (a it : Addr) : Turn P w K tg (Itl K a) [it] it (fun i h => h.IsListIter it a i) where
  mem := by simp
  obj := fun i h st b hb => by
    have e : b = it := by simpa using hb
    subst e
    obtain ⟨o, e, c, d⟩ := st
    exact ⟨o, e, fun v z => by rw [d] at z; cases z⟩
  keep := fun i h h' st k => st.at fun o e => k it (by simp) o e
  item := by
    intro X hP hw hK hc i pins s σ H E I hf st hg
    subst hP hw hK
    obtain ⟨xs, x, hq, hx⟩ := hg
    obtain ⟨its, rv, p, hz⟩ := I.list hq
    obtain ⟨u, hu, ru⟩ := rv.get hx
    obtain ⟨f0, f1, f2, f3, f4, f5⟩ := hf it (by simp)
    refine wpAny_pyNext_list_item st p.isList (x := u) (by simpa using hu) fun h' st' sb => ?_
    have I1 : Inv X pins σ H { s with heap := h' } := I.turned (t' := s.toks) (fun b o hb e => (sb.2 b hb).trans e) f0 f1 f3 f4 f5
    obtain ⟨o, e, c, d⟩ := id st'
    exact ⟨u, rfl, go_of (s := { s with heap := h' }) e c d (by decide) ⟨x, H, I1, ru, ⟨rfl, fun ys hy => by rw [I.list_inj hy hq]; exact hx⟩, st', fun b hb => (hf b hb).1⟩⟩
  done := by
    intro X hP hw hK hc i pins s σ H E I hf st hg
    subst hP hw hK
    obtain ⟨xs, hq, hx⟩ := hg
    obtain ⟨its, rv, p, hz⟩ := I.list hq
    obtain ⟨f0, f1, f2, f3, f4, f5⟩ := hf it (by simp)
    have hl := rv.length
    exact wpAny_pyNext_list_end (I.ok.hd hc) st p.isList (by simp; omega) fun h' eb => ⟨rfl, I.turned (t' := s.toks) (fun b o hb e => eb b o hb e) f0 f1 f3 f4 f5⟩
  self := fun _ _ _ _ _ st h => wpAny_pyIter_listiter st h
theorem turn_range {P : Program} {w : World} {K : PySem.W.Frag} {tg : Expr} (it : Addr) (lo : Int) (n : Nat) : Turn P w K tg (Itr lo n) [it] it (fun i h => IsRangeIter h it (lo + (i : Nat) * 1) ((n : Int) - (i : Nat)) 1) where
  mem := by simp
  obj := fun i h st b hb => by
    have e : b = it := by simpa using hb
    subst e
    exact ⟨_, st, fun v z => by
      have z' : Data.fields _ = Data.cell v := z
      cases z'⟩
  keep := fun i h h' st k => k it (by simp) _ st
  item := by
    intro X hP hw hK hc i pins s σ H E I hf st hg
    subst hP hw hK
    obtain ⟨f0, f1, f2, f3, f4, f5⟩ := hf it (by simp)
    have W := Walks.range (prog := X.prog) (w := X.w) (I.ok.hd hc) it lo 1 n
    refine W.item i s _ _ hg st fun v h' tk hv st' kk => ?_
    obtain ⟨t, rfl⟩ := hv
    have I1 : Inv X pins σ H { s with heap := h', toks := tk } := I.turned (fun b o hb e => kk b o (by simpa using hb) e) f0 f1 f3 f4 f5
    refine ⟨_, rfl, go_of (s := { s with heap := h', toks := tk }) (n := "range_iterator") st' rfl rfl (by decide) ⟨.int (lo + i), H, I1, ⟨t, ?_⟩, ⟨rfl, rfl⟩, st', fun b hb => (hf b hb).1⟩⟩
    rw [Int.mul_one]
  done := by
    intro X hP hw hK hc i pins s σ H E I hf st hg
    subst hP hw hK
    obtain ⟨f0, f1, f2, f3, f4, f5⟩ := hf it (by simp)
    exact wpAny_pyNext_range_end (I.ok.hd hc) st (by have : n ≤ i := hg; omega) fun h' eb => ⟨rfl, I.turned (t' := s.toks) (fun b o hb e => eb b o hb e) f0 f1 f3 f4 f5⟩
  self := fun _ _ _ _ _ st h => wpAny_pyIter_rangeiter st h
end L2
namespace L2
open PySem PySem.Spec PyProof.Rows
section
variable {X : Cx} {tg : Expr}
def iList (K : PySem.W.Frag) (tl : TE) : TI := fun σ H R => tl σ H fun x H1 => ∃ a, x = .ref a ∧ (∃ xs, SqL K H1 a xs) ∧ R (Itl K a) H1
theorem pi_list {l : Expr} {tl : TE} (hl : PE X l tl) : PI X tg l (iList X.K tl) := by
  intro pins s σ H R I h
  refine thn (hl pins s σ H _ I h) fun v s1 ⟨x, H1, I1, r1, q1⟩ => ?_
  obtain ⟨a, e, ⟨xs, hq⟩, q⟩ := q1
  subst e
  cases r1
  obtain ⟨its, rv, p, hz⟩ := I1.list hq
  refine wpAny_pyIter_list p.isList ?_
  refine ⟨s1.heap.objs.size, [s1.heap.objs.size], _, _, H1, rfl, I1.kept (t' := s1.toks) fun b o e => Heap.get?_push_of_some _ e, turn_list a _, ⟨_, Heap.get?_push_size _ rfl, rfl, rfl⟩, fun b hb => ?_, q⟩
  have e : b = s1.heap.objs.size := by simpa using hb
  subst e
  exact I1.fpOk (Nat.le_refl _) (I1.hok.fresh (Nat.le_refl _))
theorem range_it {pins : List (Addr × Obj)} {σ : St} {H : Hp} {s : Shared} {R : It → Hp → Prop} {E : Value → Shared → Prop} {lo hi : Int} {t u v : Tok} {tk : Nat} (I : Inv X pins σ H s) (h1 : -(2 ^ 62) ≤ lo) (h2 : lo < 2 ^ 62) (h3 : -(2 ^ 62) ≤ hi) (h4 : hi < 2 ^ 62)
    (q : R (Itr lo (hi - lo).toNat) H) : wpAny (model X.prog X.w) X.A (pyIter (.ref s.heap.objs.size)) (PIE X pins σ tg R) E { s with heap := s.heap.push { cls := .type "range", data := .fields #[.int lo t, .int hi u, .int 1 v] }, toks := tk } := by
  refine wpAny_pyIter_range (IsRange.new ..) (small_one h1 h2 h3 h4) ?_
  have I1 : Inv X pins σ H { s with heap := s.heap.push { cls := .type "range", data := .fields #[.int lo t, .int hi u, .int 1 v] }, toks := tk } := I.kept fun b o e => Heap.get?_push_of_some _ e
  refine ⟨(s.heap.push { cls := .type "range", data := .fields #[.int lo t, .int hi u, .int 1 v] }).objs.size, [(s.heap.push { cls := .type "range", data := .fields #[.int lo t, .int hi u, .int 1 v] }).objs.size], _, _, H, rfl,
    I1.kept (t' := tk) fun b o e => Heap.get?_push_of_some _ e, turn_range _ lo (hi - lo).toNat, ?_, fun b hb => ?_, q⟩
  · have e1 : lo + ((0 : Nat) : Int) * 1 = lo := by simp
    have e2 : (((hi - lo).toNat : Nat) : Int) - ((0 : Nat) : Int) = Builtin.Range.rangeSize lo hi 1 := by rw [rangeSize_one]; split <;> omega
    show IsRangeIter _ _ (lo + ((0 : Nat) : Int) * 1) ((((hi - lo).toNat : Nat) : Int) - ((0 : Nat) : Int)) 1
    rw [e1, e2]
    exact Heap.get?_push_size _ rfl
  · have e : b = (s.heap.push { cls := .type "range", data := .fields #[.int lo t, .int hi u, .int 1 v] }).objs.size := by simpa using hb
    subst e
    exact I1.fpOk (Nat.le_refl _) (I1.hok.fresh (Nat.le_refl _))
def iRng1 (ta : TA) : TI := fun σ H R => ta σ H fun vs H1 => ∃ j : Int, vs = [.int j] ∧ -(2 ^ 62) ≤ j ∧ j < 2 ^ 62 ∧ R (Itr 0 j.toNat) H1
def iRng2 (ta : TA) : TI := fun σ H R => ta σ H fun vs H1 => ∃ i j : Int, vs = [.int i, .int j] ∧ (-(2 ^ 62) ≤ i ∧ i < 2 ^ 62 ∧ -(2 ^ 62) ≤ j ∧ j < 2 ^ 62) ∧ R (Itr i (j - i).toNat) H1
theorem pi_range1 {a : Expr} {ta : TA} {p pos : Pos} (hg : Gl X "range") (hm : X.mg "range" = none) (ha : PA X [a] ta) (hs : starEach [a] X.env = [(false, eval a X.env)] := by rfl) : PI X tg (.Call (.Name "range" p) [a] [] pos) (iRng1 ta) := by
  intro pins s σ H R I h
  refine Call_ (ld_blt I hg hm boot_range (PyProof.Rows.callWith_type1 (thn (ha pos pins s σ H _ I h) fun us s1 ⟨vs, H1, I1, r1, q1⟩ => ?_) hs rfl))
  obtain ⟨j, e, q1, q2, q⟩ := q1
  subst e
  cases r1 with
  | cons r rr =>
    cases rr
    obtain ⟨t, rfl⟩ := r
    exact call_range_1 (range_it I1 (by omega) (by omega) q1 q2 (by simpa using q))
theorem pi_range2 {a b : Expr} {ta : TA} {p pos : Pos} (hg : Gl X "range") (hm : X.mg "range" = none) (ha : PA X [a, b] ta) (hs : starEach [a, b] X.env = [(false, eval a X.env), (false, eval b X.env)] := by rfl) (hs2 : starEach [b] X.env = [(false, eval b X.env)] := by rfl) :
    PI X tg (.Call (.Name "range" p) [a, b] [] pos) (iRng2 ta) := by
  intro pins s σ H R I h
  refine Call_ (ld_blt I hg hm boot_range (PyProof.Rows.callWith_type1 (thn (ha pos pins s σ H _ I h) fun us s1 ⟨vs, H1, I1, r1, q1⟩ => ?_) (by rw [hs, hs2]) (by rw [hs2]; rfl)))
  obtain ⟨i, j, e, ⟨q1, q2, q3, q4⟩, q⟩ := q1
  subst e
  cases r1 with
  | cons r rr =>
    cases rr with
    | cons r' rr =>
      cases rr
      obtain ⟨t, rfl⟩ := r
      obtain ⟨t', rfl⟩ := r'
      exact call_range_2 (range_it I1 q1 q2 q3 q4 q)
def tFor (wi : TI) (g : TG) (tb : TS) : TS := fun D σ H => wi σ H fun J H1 => ∃ W : Nat → Nat → St → Hp → Prop, (∃ m, W 0 m σ H1) ∧ ∀ i m σ H, W i m σ H →
  (J.stop i H ∧ D.nx σ H) ∨ (J.go i H ∧ ∃ N : St → Hp → Prop, (∀ σ' H', N σ' H' → ∃ m', m' < m ∧ W (i + 1) m' σ' H') ∧ ∀ x H', J.yld i H x H' → g x σ H' fun σ2 H2 => tb { D with nx := N, ct := N, bk := D.nx } σ2 H2)
def pinsAt (fp : List Addr) (h : Heap) : List (Addr × Obj) := fp.filterMap fun b => (h.get? b).map fun o => (b, o)
theorem mem_pinsAt {fp : List Addr} {h : Heap} {b : Addr} {o : Obj} (hb : b ∈ fp) (e : h.get? b = some o) : (b, o) ∈ pinsAt fp h := List.mem_filterMap.mpr ⟨b, hb, by rw [e]; rfl⟩
theorem of_pinsAt {fp : List Addr} {h : Heap} {p : Addr × Obj} (hp : p ∈ pinsAt fp h) : p.1 ∈ fp ∧ h.get? p.1 = some p.2 := by
  obtain ⟨b, hb, e⟩ := List.mem_filterMap.mp hp
  cases q : h.get? b with
  | none => rw [q] at e; cases e
  | some o =>
    rw [q] at e
    have e' : (b, o) = p := Option.some.inj e
    subst e'
    exact ⟨hb, q⟩
theorem Inv.pinned {pins : List (Addr × Obj)} {σ : St} {H : Hp} {s : Shared} {fp : List Addr} (I : Inv X pins σ H s) (hf : ∀ b ∈ fp, FpOk X pins H b) (ho : ∀ b ∈ fp, ∃ o, s.heap.get? b = some o ∧ ∀ v, o.data ≠ .cell v) : Inv X (pins ++ pinsAt fp s.heap) σ H s :=
  I.pins_of fun p hp => (List.mem_append.mp hp).elim (fun z => I.pin p (List.mem_append_right _ z)) fun z => by
    obtain ⟨hb, e⟩ := of_pinsAt z
    obtain ⟨f0, f1, f2, _⟩ := hf p.1 hb
    obtain ⟨o, e', d⟩ := ho p.1 hb
    rw [e] at e'; cases e'
    exact ⟨e, f0, f1, f2, d⟩
theorem Inv.unpinned {pins pl : List (Addr × Obj)} {σ : St} {H : Hp} {s : Shared} (I : Inv X (pins ++ pl) σ H s) : Inv X pins σ H s := I.pins_of fun p hp => I.pin p (List.mem_append_right _ (List.mem_append_left _ hp))
theorem ps_for {iter : Expr} {body : List Stmt} {wi : TI} {g : TG} {tb : TS} {pos : Pos} (hp : PassesOwn (model X.prog X.w) X.A X.env X.xe) (hc : X.calm = true) (hi : PI X tg iter wi) (hg : PG X tg g) (hb : PSs X body tb)
    (hs : ∀ x, foldedSetIterable iter X.env x = pure x := by intro _; rfl) : PS X (.For tg iter body [] pos) (tFor wi g tb) := by
  intro pins s σ H D I h
  refine wpAny_For (thn (hi pins s σ H _ I h) fun v s1 h1 => thn h1 fun itv s2 h2 => ?_) hs
  obtain ⟨it, fp, tn, J, H2, e, I2, T, st2, f2, W, ⟨m0, w0⟩, turn⟩ := h2
  subst e
  have stat : ∀ {H' : Hp}, (∀ b ∈ fp, H' b = none) → ∀ b ∈ fp, FpOk X pins H' b := fun hn b hb => ⟨hn b hb, (f2 b hb).2⟩
  refine codeAny_forLoop_any (fun n s' => ∃ i σ' H', Inv X pins σ' H' s' ∧ tn i s'.heap ∧ (∀ b ∈ fp, H' b = none) ∧ W i n σ' H') ?_ m0 ⟨0, σ, H2, I2, st2, fun b hb => (f2 b hb).1, w0⟩
  rintro n s3 ⟨i, σ3, H3, I3, st3, fr3, w3⟩
  rcases turn i n σ3 H3 w3 with ⟨stop, qn⟩ | ⟨go, N, hN, step⟩
  · refine wpAny_passesOwn hp (thn (T.done X rfl rfl rfl hc i pins s3 σ3 H3 X.xe I3 (stat fr3) st3 stop) fun r s4 ⟨hr, I4⟩ => ?_)
    subst hr
    exact wpAny_execs_nil ⟨σ3, H3, I4, qn⟩
  · refine wpAny_passesOwn hp (thn (T.item X rfl rfl rfl hc i pins s3 σ3 H3 X.xe I3 (stat fr3) st3 go) fun r s4 ⟨u, hr, h4⟩ => ?_)
    subst hr
    refine wpAny_passesOwn hp (thn h4 fun _ s5 ⟨x, H5, I5, r5, y5, st5, fr5⟩ => ?_)
    have I5' := I5.pinned (stat fr5) (T.obj _ _ st5)
    refine wpAny_passesOwn hp (thn (hg _ s5 σ3 H5 x u _ I5' r5 (step x H5 y5)) fun _ s6 ⟨σ6, H6, I6, q6⟩ => ?_)
    refine wpAny_passesOwn hp (thn (hb _ s6 σ6 H6 _ I6 q6) fun f s7 q7 => ?_)
    have again : ∀ {σ7 : St} {H7 : Hp}, Inv X (pins ++ pinsAt fp s5.heap) σ7 H7 s7 → N σ7 H7 → ∃ m, m < n ∧ ∃ i σ' H', Inv X pins σ' H' s7 ∧ tn i s7.heap ∧ (∀ b ∈ fp, H' b = none) ∧ W i m σ' H' := fun {σ7 H7} I7 n7 => by
      obtain ⟨m', hm, w7⟩ := hN σ7 H7 n7
      refine ⟨m', hm, i + 1, σ7, H7, I7.unpinned, T.keep _ _ _ st5 fun b hb o e => (I7.pin (b, o) (List.mem_append_right _ (List.mem_append_right _ (mem_pinsAt hb e)))).1, fun b hb => ?_, w7⟩
      obtain ⟨o, e, d⟩ := T.obj _ _ st5 b hb
      exact (I7.pin (b, o) (List.mem_append_right _ (List.mem_append_right _ (mem_pinsAt hb e)))).2.1
    cases f with
    | next => obtain ⟨σ7, H7, I7, n7⟩ := q7; exact again I7 n7
    | cont => obtain ⟨σ7, H7, I7, n7⟩ := q7; exact again I7 n7
    | brk => obtain ⟨σ7, H7, I7, q7⟩ := q7; exact ⟨σ7, H7, I7.unpinned, q7⟩
    | ret v => obtain ⟨x7, σ7, H7, I7, r7, q7⟩ := q7; exact ⟨x7, σ7, H7, I7.unpinned, r7, q7⟩
end
end L2
namespace L2
open PySem PySem.Spec PyProof.Rows
abbrev R2 := V → V → Hp → VK → Prop
def OpR (X : Cx) (f : Value → Value → Sem Value) (r : R2) : Prop :=
  ∀ (pins : List (Addr × Obj)) (s : Shared) (σ : St) (H : Hp) (x y : V) (v u : Value) (Q : VK), Inv X pins σ H s → RelV x v → RelV y u → r x y H Q →
    wpAny (model X.prog X.w) X.A (f v u) (EP X pins σ Q) X.xe s
def UnR (X : Cx) (f : Value → Sem Value) (r : V → Hp → VK → Prop) : Prop :=
  ∀ (pins : List (Addr × Obj)) (s : Shared) (σ : St) (H : Hp) (x : V) (v : Value) (Q : VK), Inv X pins σ H s → RelV x v → r x H Q →
    wpAny (model X.prog X.w) X.A (f v) (EP X pins σ Q) X.xe s
def CallR (X : Cx) (f : Value) (r : List V → Hp → VK → Prop) : Prop :=
  ∀ (pins : List (Addr × Obj)) (s : Shared) (σ : St) (H : Hp) (xs : List V) (us : List Value) (Q : VK), Inv X pins σ H s → Vals xs us → r xs H Q →
    wpAny (model X.prog X.w) X.A (call f us) (EP X pins σ Q) X.xe s
def TruR (X : Cx) (r : V → Hp → (Bool → Hp → Prop) → Prop) : Prop :=
  ∀ (pins : List (Addr × Obj)) (s : Shared) (σ : St) (H : Hp) (x : V) (v : Value) (Q : Bool → Hp → Prop), Inv X pins σ H s → RelV x v → r x H Q →
    wpAny (model X.prog X.w) X.A (truthy v) (TP X pins σ Q) X.xe s
def tOp (r : R2) (ta tb : TE) : TE := fun σ H Q => ta σ H fun x H1 => tb σ H1 fun y H2 => r x y H2 Q
def tUn (r : V → Hp → VK → Prop) (ta : TE) : TE := fun σ H Q => ta σ H fun x H1 => r x H1 Q
def rI (C : Int → Int → Prop) (g : Int → Int → V) : R2 := fun x y H Q => ∃ i j, x = .int i ∧ y = .int j ∧ C i j ∧ Q (g i j) H
def rI0 (g : Int → Int → V) : R2 := fun x y H Q => ∃ i j, x = .int i ∧ y = .int j ∧ Q (g i j) H
def rU (g : Int → V) : V → Hp → VK → Prop := fun x H Q => ∃ i, x = .int i ∧ Q (g i) H
section
variable {X : Cx} {a b c : Expr} {ta tb tc : TE} {pos : Pos}
theorem binT (ha : PE X a ta) (hb : PE X b tb) {pins : List (Addr × Obj)} {s : Shared} {σ : St} {H : Hp} {R : V → V → Hp → Prop} (I : Inv X pins σ H s)
    (h : ta σ H fun x H1 => tb σ H1 fun y H2 => R x y H2) {Q : Value → Shared → Prop} {f : Value → Value → Sem Value}
    (hf : ∀ v u s2 x y H2, Inv X pins σ H2 s2 → RelV x v → RelV y u → R x y H2 → wpAny (model X.prog X.w) X.A (f v u) Q X.xe s2) :
    wpAny (model X.prog X.w) X.A (eval a X.env) (fun v s₁ => wpAny (model X.prog X.w) X.A (eval b X.env) (fun u s₂ => wpAny (model X.prog X.w) X.A (f v u) Q X.xe s₂) X.xe s₁) X.xe s := by
  refine thn (ha pins s σ H _ I h) fun v s1 ⟨x, H1, I1, r1, q1⟩ => ?_
  refine thn (hb pins s1 σ H1 _ I1 q1) fun u s2 ⟨y, H2, I2, r2, q2⟩ => ?_
  exact hf v u s2 x y H2 I2 r1 r2 q2
theorem pe_op {op : Operator} {r : R2} (ho : OpR X (binaryOp op) r) (ha : PE X a ta) (hb : PE X b tb) : PE X (.BinOp a op b pos) (tOp r ta tb) := by
  intro pins s σ H Q I h
  exact wpAny_BinOp (binT ha hb I h fun v u s2 x y H2 I2 rx ry q => ho pins s2 σ H2 x y v u Q I2 rx ry q)
theorem pe_un {op : UnaryOp} {r : V → Hp → VK → Prop} (ho : UnR X (unaryOp op) r) (ha : PE X a ta) : PE X (.UnaryOp op a pos) (tUn r ta) := by
  intro pins s σ H Q I h
  exact UnaryOp_ (thn (ha pins s σ H _ I h) fun v s1 ⟨x, H1, I1, r1, q1⟩ => ho pins s1 σ H1 x v Q I1 r1 q1)
theorem opI {f : Value → Value → Sem Value} {C : Int → Int → Prop} {g : Int → Int → Int}
    (rule : ∀ (i j : Int) (t u : Tok) (s : Shared) (Q : Value → Shared → Prop) (E : Value → Shared → Prop), C i j → Q (.int (g i j) s.toks) { s with toks := s.toks + 1 } → wpAny (model X.prog X.w) X.A (f (.int i t) (.int j u)) Q E s) :
    OpR X f (rI C fun i j => .int (g i j)) := by
  intro pins s σ H x y v u Q I rx ry h
  obtain ⟨i, j, rfl, rfl, hc, q⟩ := h
  obtain ⟨t, rfl⟩ := rx
  obtain ⟨t', rfl⟩ := ry
  exact rule i j t t' s _ _ hc ⟨.int (g i j), H, I.tok _, ⟨_, rfl⟩, q⟩
theorem opI0 {f : Value → Value → Sem Value} {g : Int → Int → Int}
    (rule : ∀ (i j : Int) (t u : Tok) (s : Shared) (Q : Value → Shared → Prop) (E : Value → Shared → Prop), Q (.int (g i j) s.toks) { s with toks := s.toks + 1 } → wpAny (model X.prog X.w) X.A (f (.int i t) (.int j u)) Q E s) :
    OpR X f (rI0 fun i j => .int (g i j)) := by
  intro pins s σ H x y v u Q I rx ry h
  obtain ⟨i, j, rfl, rfl, q⟩ := h
  obtain ⟨t, rfl⟩ := rx
  obtain ⟨t', rfl⟩ := ry
  exact rule i j t t' s _ _ ⟨.int (g i j), H, I.tok _, ⟨_, rfl⟩, q⟩
theorem opB0 {f : Value → Value → Sem Value} {g : Int → Int → Bool}
    (rule : ∀ (i j : Int) (t u : Tok) (s : Shared) (Q : Value → Shared → Prop) (E : Value → Shared → Prop), Q (.bool (g i j)) s → wpAny (model X.prog X.w) X.A (f (.int i t) (.int j u)) Q E s) :
    OpR X f (rI0 fun i j => .bl (g i j)) := by
  intro pins s σ H x y v u Q I rx ry h
  obtain ⟨i, j, rfl, rfl, q⟩ := h
  obtain ⟨t, rfl⟩ := rx
  obtain ⟨t', rfl⟩ := ry
  exact rule i j t t' s _ _ ⟨.bl (g i j), H, I, rfl, q⟩
def CPow (i j : Int) : Prop := 0 ≤ j ∧ j ≤ 1000000 ∧ i.natAbs < 2 ^ 64
theorem op_add : OpR X (binaryOp .Add) (rI0 fun i j => .int (i + j)) := opI0 fun _ _ _ _ _ _ _ q => add_int q
theorem op_sub : OpR X (binaryOp .Sub) (rI0 fun i j => .int (i - j)) := opI0 fun _ _ _ _ _ _ _ q => sub_int q
theorem op_modN : OpR X (binaryOp .Mod) (rI (fun _ j => j ≠ 0) fun i j => .int (i.fmod j)) := opI fun _ _ _ _ _ _ _ hc q => mod_int' hc q
theorem op_pow : OpR X (binaryOp .Pow) (rI CPow fun i j => .int (i ^ j.toNat)) := opI fun _ _ _ _ _ _ _ hc q => pow_int_small hc.1 hc.2.1 hc.2.2 q
theorem unI {f : Value → Sem Value} {g : Int → Int}
    (rule : ∀ (i : Int) (t : Tok) (s : Shared) (Q : Value → Shared → Prop) (E : Value → Shared → Prop), Q (.int (g i) s.toks) { s with toks := s.toks + 1 } → wpAny (model X.prog X.w) X.A (f (.int i t)) Q E s) :
    UnR X f (rU fun i => .int (g i)) := by
  intro pins s σ H x v Q I rx h
  obtain ⟨i, rfl, q⟩ := h
  obtain ⟨t, rfl⟩ := rx
  exact rule i t s _ _ ⟨.int (g i), H, I.tok _, ⟨_, rfl⟩, q⟩
theorem un_neg : UnR X (unaryOp .USub) (rU fun i => .int (-i)) := unI fun _ _ _ _ _ q => neg_int q
end
section
variable {X : Cx} {a b c : Expr} {ta tb tc : TE} {pos : Pos}
theorem op_lt : OpR X (compareOp .Lt) (rI0 fun i j => .bl (decide (i < j))) := opB0 fun _ _ _ _ _ _ _ q => lt_int q
theorem op_le : OpR X (compareOp .LtE) (rI0 fun i j => .bl (decide (i ≤ j))) := opB0 fun _ _ _ _ _ _ _ q => le_int q
theorem op_gt : OpR X (compareOp .Gt) (rI0 fun i j => .bl (decide (j < i))) := opB0 fun _ _ _ _ _ _ _ q => gt_int q
theorem op_ge : OpR X (compareOp .GtE) (rI0 fun i j => .bl (decide (j ≤ i))) := opB0 fun _ _ _ _ _ _ _ q => ge_int q
def isObj : HO → Bool
  | .lst _ => true
  | .ins _ _ _ => true
  | _ => false
theorem obj_there {pins : List (Addr × Obj)} {s : Shared} {σ : St} {H : Hp} {a : Addr} {o : HO} (I : Inv X pins σ H s) (h : H a = some o) (p : isObj o = true) : ∃ ob, s.heap.get? a = some ob ∧ ob.cls ≠ .type "tuple" := by
  cases o with
  | lst xs =>
    obtain ⟨_, its, n, _, e⟩ : xs.length ≤ sizeLine ∧ ∃ (its : List Value) (n : Nat), Vals xs its ∧ s.heap.get? a = some { cls := .type "list", data := .seq its.toArray n } := I.hok a _ h
    exact ⟨_, e, (by show Value.type "list" ≠ .type "tuple"; decide +kernel)⟩
  | ins C dx fs =>
    have x := I.hok a _ h
    obtain ⟨_, _, _, e, _⟩ := x
    exact ⟨_, e, (by show Value.ref C ≠ .type "tuple"; exact fun z => by cases z)⟩
  | _ => exact absurd (show false = true from p) Bool.false_ne_true
theorem pe_cmpR {op : CmpOp} {r : R2} (ho : OpR X (compareOp op) r) (ha : PE X a ta) (hb : PE X b tb) (hm : behindInMarks op b = false) : PE X (.Compare a [op] [b] pos) (tOp r ta tb) := by
  intro pins s σ H Q I h
  exact wpAny_Compare1 (binT ha hb I h fun v u s2 x y H2 I2 rx ry q => ho pins s2 σ H2 x y v u Q I2 rx ry q) hm
def tTest (t : TE) : TT := fun σ H Q => t σ H fun x H' => ∃ k, x = .bl k ∧ Q k H'
theorem pt_cmpR {op : CmpOp} {r : R2} (ho : OpR X (compareOp op) r) (ha : PE X a ta) (hb : PE X b tb) (hm : behindInMarks op b = false) : PT X (.Compare a [op] [b] pos) (tTest (tOp r ta tb)) := by
  intro pins s σ H Q I h
  refine wpAny_isTrue_Compare1 (thn (ha pins s σ H _ I h) fun v s1 ⟨x, H1, I1, r1, q1⟩ => thn (hb pins s1 σ H1 _ I1 q1) fun u s2 ⟨y, H2, I2, r2, q2⟩ =>
    thn (ho pins s2 σ H2 x y v u _ I2 r1 r2 q2) fun c s3 ⟨z, H3, I3, r3, k, e, q3⟩ => ?_) hm
  subst e
  cases r3
  exact wpAny_truthy_bool ⟨H3, I3, q3⟩
def tChain (r r' : R2) (ta tb tc : TE) : TE := fun σ H Q => ta σ H fun x H1 => tb σ H1 fun y H2 => r x y H2 fun z H3 => ∃ k, z = .bl k ∧
  (if k = true then tc σ H3 fun w' H4 => r' y w' H4 Q else Q (.bl false) H3)
theorem pe_chain {op op' : CmpOp} {r r' : R2} (ho : OpR X (compareOp op) r) (ho' : OpR X (compareOp op') r') (ha : PE X a ta) (hb : PE X b tb) (hc : PE X c tc)
    (hm : lastMarks [op, op'] [b, c] = false := by with_unfolding_all rfl) : PE X (.Compare a [op, op'] [b, c] pos) (tChain r r' ta tb tc) := by
  intro pins s σ H Q I h
  refine Compare_chain (thn (ha pins s σ H _ I h) fun v s1 ⟨x, H1, I1, r1, q1⟩ => chain_link (thn (hb pins s1 σ H1 _ I1 q1) fun u s2 ⟨y, H2, I2, r2, q2⟩ =>
    thn (ho pins s2 σ H2 x y v u _ I2 r1 r2 q2) fun d s3 ⟨z, H3, I3, r3, k, e, q3⟩ => ?_)) hm
  subst e
  cases r3
  refine wpAny_truthy_bool ?_
  cases k with
  | false => exact ite_ff ⟨.bl false, H3, I3, rfl, q3⟩
  | true => exact ite_tt (chain_last (thn (hc pins s3 σ H3 _ I3 q3) fun w' s4 ⟨z', H4, I4, r4, q4⟩ => ho' pins s4 σ H4 y z' u w' Q I4 r2 r4 q4))
theorem pt_chain {op op' : CmpOp} {r r' : R2} (ho : OpR X (compareOp op) r) (ho' : OpR X (compareOp op') r') (ha : PE X a ta) (hb : PE X b tb) (hc : PE X c tc)
    (hm : lastMarks [op, op'] [b, c] = false := by with_unfolding_all rfl) : PT X (.Compare a [op, op'] [b, c] pos) (tTest (tChain r r' ta tb tc)) := by
  intro pins s σ H Q I h
  refine isTrue_chain (thn (ha pins s σ H _ I h) fun v s1 ⟨x, H1, I1, r1, q1⟩ => test_link (thn (hb pins s1 σ H1 _ I1 q1) fun u s2 ⟨y, H2, I2, r2, q2⟩ =>
    thn (ho pins s2 σ H2 x y v u _ I2 r1 r2 q2) fun d s3 ⟨z, H3, I3, r3, k, e, q3⟩ => ?_)) hm
  subst e
  cases r3
  refine wpAny_truthy_bool ?_
  cases k with
  | false =>
    obtain ⟨k', e', q'⟩ := q3
    cases e'
    exact ite_ff ⟨H3, I3, q'⟩
  | true =>
    refine ite_tt (test_last (thn (hc pins s3 σ H3 _ I3 q3) fun w' s4 ⟨z', H4, I4, r4, q4⟩ => thn (ho' pins s4 σ H4 y z' u w' _ I4 r2 r4 q4) fun d' s5 ⟨z2, H5, I5, r5, k2, e2, q5⟩ => ?_))
    subst e2
    cases r5
    exact wpAny_truthy_bool ⟨H5, I5, q5⟩
def TruV (K : PySem.W.Frag) (x : V) (H : Hp) (k : Bool) : Prop :=
  match x with
  | .non => k = false
  | .bl b => k = b
  | .int i => k = (i != 0)
  | .str y => y.length ≤ sizeLine ∧ k = ((y.length : Int) != 0)
  | .byt y => y.size ≤ sizeLine ∧ k = ((y.size : Int) != 0)
  | .ref p => (∃ xs, SqL K H p xs ∧ k = !xs.isEmpty) ∨ (∃ xs, SqT K H p xs ∧ k = !xs.isEmpty) ∨ ∃ kvs, H p = some (.dK kvs) ∧ k = !kvs.isEmpty
  | _ => False
theorem isEmpty_kv {κ : Type} {kvs : List (κ × V)} {vs : List (κ × Value)} (r : KV kvs vs) : (!vs.isEmpty) = !kvs.isEmpty := by
  cases r <;> rfl
theorem isEmpty_of {xs : List V} {its : List Value} (r : Vals xs its) : (!its.toArray.isEmpty) = !xs.isEmpty := by
  cases r <;> simp
theorem line63 : (sizeLine : Nat) < 2 ^ 63 := by rw [sizeLine_eq]; decide
theorem tru_ok : TruR X (fun x H Q => ∃ k, TruV X.K x H k ∧ Q k H) := by
  intro pins s σ H x v Q I rx h
  obtain ⟨k, e, q⟩ := h
  have hl := line63
  have hs : sizeLine = 16777216 := sizeLine_eq
  cases x with
  | non =>
    cases rx
    have e' : k = false := e
    subst e'
    exact truthy_none ⟨H, I, q⟩
  | bl b =>
    cases rx
    have e' : k = b := e
    subst e'
    exact wpAny_truthy_bool ⟨H, I, q⟩
  | int i =>
    obtain ⟨t, rfl⟩ := rx
    have e' : k = (i != 0) := e
    subst e'
    exact PySem.P.truthy_int ⟨H, I, q⟩
  | str y =>
    obtain ⟨t, rfl⟩ := rx
    obtain ⟨hy, e'⟩ : y.length ≤ sizeLine ∧ k = ((y.length : Int) != 0) := e
    subst e'
    exact PySem.P.truthy_str (by omega) ⟨H, I.tok _, q⟩
  | byt y =>
    obtain ⟨t, rfl⟩ := rx
    obtain ⟨hy, e'⟩ : y.size ≤ sizeLine ∧ k = ((y.size : Int) != 0) := e
    subst e'
    exact PySem.W.truthy_bytes (by omega) ⟨H, I.tok _, q⟩
  | ref p =>
    cases rx
    have e' : (∃ xs, SqL X.K H p xs ∧ k = !xs.isEmpty) ∨ (∃ xs, SqT X.K H p xs ∧ k = !xs.isEmpty) ∨ ∃ kvs, H p = some (.dK kvs) ∧ k = !kvs.isEmpty := e
    rcases e' with ⟨xs, hx, e'⟩ | ⟨xs, hx, e'⟩ | ⟨kvs, hx, e'⟩
    · subst e'
      obtain ⟨its, r, pl, hz⟩ := I.list hx
      have hlen := r.length
      exact wpAny_truthy_list pl.isList (by simp only [List.size_toArray]; omega) ⟨H, I.tok _, by rw [isEmpty_of r]; exact q⟩
    · subst e'
      obtain ⟨its, r, pl, hz⟩ := I.tuple hx
      have hlen := r.length
      exact truthy_tuple pl (by simp only [List.size_toArray]; omega) ⟨H, I.tok _, by rw [isEmpty_of r]; exact q⟩
    · subst e'
      obtain ⟨hz, hS, vs, r, m⟩ : kvs.length ≤ sizeLine ∧ (p == sysModules) = false ∧ ∃ vs, KV kvs vs ∧ s.heap.DictOf (mixKind X.prog X.w) p vs := I.hok p _ hx
      have hlen : kvs.length = vs.length := Paired.length r
      exact wpAny_truthy_dict hS m (by omega) ⟨H, I.tok _, by rw [isEmpty_kv r]; exact q⟩
  | _ => exact (show False from e).elim
theorem pt_truth (ha : PE X a ta) (he : ∀ whole, isTrue a X.env whole = (do let v ← whole; standAt a.pos; holding [v] (truthy v))) :
    PT X a (fun σ H Q => ta σ H fun x H' => ∃ k, TruV X.K x H' k ∧ Q k H') := by
  intro pins s σ H Q I h
  exact isTrue_plain (thn (ha pins s σ H _ I h) fun v s1 ⟨x, H1, I1, r1, q1⟩ => tru_ok pins s1 σ H1 x v Q I1 r1 q1) (he _)
theorem vals1 {x : V} {us : List Value} (r : Vals [x] us) : ∃ u, us = [u] ∧ RelV x u := by
  cases r with
  | cons r1 r2 => cases r2; exact ⟨_, rfl, r1⟩
theorem vals2 {x y : V} {us : List Value} (r : Vals [x, y] us) : ∃ u w', us = [u, w'] ∧ RelV x u ∧ RelV y w' := by
  cases r with
  | cons r1 r2 =>
    cases r2 with
    | cons r3 r4 => cases r4; exact ⟨_, _, rfl, r1, r3⟩
theorem call_abs : CallR X (.builtin "abs") (fun xs H Q => ∃ i, xs = [.int i] ∧ Q (.int (if i < 0 then -i else i)) H) := by
  intro pins s σ H xs us Q I r h
  obtain ⟨i, rfl, q⟩ := h
  obtain ⟨u, rfl, t, rfl⟩ := vals1 r
  exact call_abs_int fun u tk => ⟨.int (if i < 0 then -i else i), H, I.tok _, ⟨_, rfl⟩, q⟩
end
end L2
namespace L2
open PySem PySem.Spec PyProof.Rows
structure ObjM (h : Heap) (x dx C : Addr) (mA : Str → Option Value) : Prop where
  obj : h.get? x = some (PySem.W.instObj C dx)
  ns : h.Ns1 dx mA
  ne : dx ≠ x
theorem lookIn_ns {h : Heap} {dx : Addr} {mA : Str → Option Value} (n : h.Ns1 dx mA) : ∃ od, h.get? dx = some od ∧ ∀ name, PySem.W.lookIn name od = some (mA name) := by
  obtain ⟨o, es, ep, ho, hd, hk, _, hm⟩ := n
  refine ⟨o, ho, fun name => ?_⟩
  have e := hm name
  unfold nsFind findBy at e
  rw [← Array.find?_toList] at e
  unfold PySem.W.lookIn
  rw [hd]
  dsimp only
  split
  · rename_i y q
    rw [q] at e
    exact congrArg some e
  · rename_i q
    rw [q] at e
    have a : es.toList.any (·.refKey) = false := by
      rw [List.any_eq_false]
      intro y hy
      obtain ⟨z, t, hkey⟩ := hk y (Array.mem_toList_iff.mp hy)
      simp [DictEntry.refKey, hkey]
    have a' : ¬ es.toList.any (·.refKey) = true := by rw [a]; exact Bool.false_ne_true
    rw [if_neg a']
    exact congrArg some e
theorem ObjM.look {h : Heap} {x dx C : Addr} {mA : Str → Option Value} (I : ObjM h x dx C mA) : ∃ od, PySem.W.InstAt h x (PySem.W.instObj C dx) C (some od) ∧ ∀ name, PySem.W.lookIn name od = some (mA name) :=
  let ⟨od, ho, hl⟩ := lookIn_ns I.ns
  ⟨od, ⟨I.obj, rfl, rfl, ho⟩, hl⟩
section
variable {prog : Program} {w : World} {A : Around} {E : Value → Shared → Prop} {s : Shared} {K : PySem.W.Frag} {x dx C f : Addr} {mA : Str → Option Value} {name : Str} {v : Value}
theorem get_map {expr : Bool} {Q : Value → Shared → Prop} (X : K.In s.heap) (I : ObjM s.heap x dx C mA) (hg : PySem.W.plainGet K C name = true) (hh : PySem.W.hasDictIn K C = true)
    (ha : PySem.W.findIn K (.ref C) name = some none) (hv : mA name = some v) (hv' : PySem.W.handedIn v = true) (h : Q v { s with toks := s.toks + 1 }) :
    wpAny (model prog w) A (getAttr (.ref x) name expr) Q E s := by
  obtain ⟨od, J, hl⟩ := I.look
  exact PySem.W.get_value X J (PySem.W.plainGet_of hg).1 (PySem.W.findObj_own hh ha rfl (by rw [hl, hv])) hv' h
theorem get_meth {pl : Sem Bool} {Q : Value × List Value → Shared → Prop} (X : K.In s.heap) (I : ObjM s.heap x dx C mA) (hg : PySem.W.plainGet K C name = true)
    (hf : PySem.W.findIn K (.ref C) name = some (some (.ref f))) (ht : PySem.W.isFn K (.ref f) = true) (hv : mA name = none) (h : Q (.ref f, [.ref x]) s) :
    wpAny (model prog w) A (getMethod (.ref x) name pl) Q E s := by
  obtain ⟨od, J, hl⟩ := I.look
  exact PySem.W.method_fn X J (PySem.W.plainGet_of hg).1 (PySem.W.plainGet_of hg).2 hf (beq_iff_eq.mp ht) (by show (PySem.W.lookIn name od).map (·.isSome) = some false; rw [hl, hv]; rfl) h
theorem set_map {ns : List Str} {Q : Unit → Shared → Prop} (X : K.In s.heap) (I : ObjM s.heap x dx C mA)
    (hs : PySem.W.findIn K (.ref C) "__setattr__" = some (some (.builtin "object.__setattr__"))) (hp : PySem.W.plainOver K C = true) (ht : PySem.W.takerIn K C name = some none) (hh : PySem.W.hasDictIn K C = true)
    (hw : PySem.Within mA ns) (hsz : ns.length ≤ sizeLine)
    (h : ∀ h', ObjM h' x dx C (fun y => if y = name then some v else mA y) → Heap.SameBut dx s.heap h' → Q () { s with heap := h', toks := s.toks + 2 }) :
    wpAny (model prog w) A (setAttr (.ref x) name v) Q E s := by
  obtain ⟨od, J, hl⟩ := I.look
  refine PySem.W.set_plain X J hs (PySem.W.osa_open (s := { s with toks := s.toks + 1 }) (r := none) X J hp ht fun b => ?_)
  obtain ⟨cd, hc, hd'⟩ := PySem.W.any_some hh
  have hx : s.heap.get? x = some ⟨.ref C, some dx, .plain, #[]⟩ := I.obj
  refine wpAny_bind (wpAny_pure (wpAny_bind (wpAny_bind (wpAny_loadPart hx (wpAny_bind (PySem.W.Looks.here (s := { s with toks := s.toks + 1 }) (PySem.W.looks_clsIn X hc) ?_))))))
  rw [hd']
  refine wpAny_pure (a := some dx) (wpAny_bind (wpAny_pure (wpAny_bind ?_)))
  refine wpAny_nsSet1 (s := { s with toks := s.toks + 1 }) I.ns fun h' hn2 hs2 => ?_
  obtain ⟨oD, esD, epD, hoD, hdD, hcD⟩ := hn2.count (PySem.Within.cons name v hw)
  refine wpAny_bind (wpAny_lookBehind hoD (by rw [hdD]; exact pastItsLine_dict (Nat.le_trans hcD (by rw [List.length_cons]; omega))) ?_)
  exact wpAny_pure (h _ ⟨(hs2.2 _ (Ne.symm I.ne)).trans I.obj, hn2, I.ne⟩ hs2)
theorem make_map {R : Result → Shared → Prop} {vs : List Value} {kw : List (Str × Value)} (X : K.In s.heap) (hm : PySem.W.makesIn K C = true)
    (hi : PySem.W.findIn K (.ref C) "__init__" = some (some (.ref f))) (hf : PySem.W.typeIn K (.ref f) = some (.type "function"))
    (h : codeAny (model prog w) (A.under (.builtin "type.__call__" ⟨.ref C :: vs, kw⟩)) (.call (.ref f) ⟨.ref (s.heap.objs.size + 1) :: vs, kw⟩) (PySem.W.InitBack (s.heap.objs.size + 1) R)
      { s with heap := (s.heap.push PySem.W.emptyDict).push (PySem.W.instObj C s.heap.objs.size) }) :
    codeAny (model prog w) A (.call (.ref C) ⟨vs, kw⟩) R s := by
  obtain ⟨hh, g, d, t, os⟩ := s
  exact PySem.W.make_core (PySem.W.makes_of X hm) (PySem.W.looks_findIn X hi) (fun self => PySem.W.bind_fn X self hf) (.inl rfl) h
theorem make_map0 {R : Result → Shared → Prop} (X : K.In s.heap) (hm : PySem.W.makesIn K C = true)
    (hi : PySem.W.findIn K (.ref C) "__init__" = some (some (.builtin "object.__init__")))
    (hb : ∀ self, PySem.W.Looks (model prog w) s.heap (bindSpecial (.builtin "object.__init__") self) (.builtin "object.__init__", [self]))
    (h : codeAny (model prog w) (A.under (.builtin "type.__call__" ⟨[.ref C], []⟩)) (.call (.builtin "object.__init__") ⟨[.ref (s.heap.objs.size + 1)], []⟩) (PySem.W.InitBack (s.heap.objs.size + 1) R)
      { s with heap := (s.heap.push PySem.W.emptyDict).push (PySem.W.instObj C s.heap.objs.size) }) :
    codeAny (model prog w) A (.call (.ref C) ⟨[], []⟩) R s := by
  obtain ⟨hh, g, d, t, os⟩ := s
  exact PySem.W.make_core (PySem.W.makes_of X hm) (PySem.W.looks_findIn X hi) hb (.inr ⟨rfl, rfl⟩) h
end
def putF (f : Str) (v : V) : List (Str × V) → List (Str × V)
  | [] => [(f, v)]
  | (g, x) :: r => if g = f then (g, v) :: r else (g, x) :: putF f v r
theorem lookup_putF (f g : Str) (v : V) : ∀ fs : List (Str × V), (putF f v fs).lookup g = if g = f then some v else fs.lookup g
  | [] => by
    show List.lookup g [(f, v)] = _
    by_cases h : g = f
    · have hb : (g == f) = true := beq_iff_eq.mpr h
      simp only [List.lookup, hb, if_pos h]
    · have hb : (g == f) = false := beq_eq_false_iff_ne.mpr h
      simp only [List.lookup, hb, if_neg h]
  | (k, x) :: r => by
    have ih := lookup_putF f g v r
    rw [show putF f v ((k, x) :: r) = (if k = f then (k, v) :: r else (k, x) :: putF f v r) from rfl]
    by_cases hk : k = f
    · rw [if_pos hk]
      by_cases h : g = k
      · have hb : (g == k) = true := beq_iff_eq.mpr h
        simp only [List.lookup, hb, if_pos (h.trans hk)]
      · have hb : (g == k) = false := beq_eq_false_iff_ne.mpr h
        simp only [List.lookup, hb, if_neg (fun e : g = f => h (e.trans hk.symm))]
    · rw [if_neg hk]
      by_cases h : g = k
      · have hb : (g == k) = true := beq_iff_eq.mpr h
        simp only [List.lookup, hb, if_neg (fun e : g = f => hk (h.symm.trans e))]
      · have hb : (g == k) = false := beq_eq_false_iff_ne.mpr h
        simp only [List.lookup, hb]
        exact ih
theorem keys_putF (f : Str) (v : V) : ∀ fs : List (Str × V), f ∈ (putF f v fs).map (·.1) ∧ ∀ g, g ∈ fs.map (·.1) → g ∈ (putF f v fs).map (·.1)
  | [] => ⟨by simp [putF], fun g h => by simp at h⟩
  | (k, x) :: r => by
    obtain ⟨i1, i2⟩ := keys_putF f v r
    rw [show putF f v ((k, x) :: r) = (if k = f then (k, v) :: r else (k, x) :: putF f v r) from rfl]
    by_cases hk : k = f
    · rw [if_pos hk]
      subst hk
      exact ⟨by simp, fun g h => by simpa using h⟩
    · rw [if_neg hk]
      refine ⟨?_, fun g h => ?_⟩
      · rw [List.map_cons]
        exact List.mem_cons_of_mem _ i1
      · rw [List.map_cons] at h ⊢
        rcases List.mem_cons.mp h with e | e
        · exact List.mem_cons.mpr (.inl e)
        · exact List.mem_cons_of_mem _ (i2 g e)
theorem length_putF (f : Str) (v : V) : ∀ fs : List (Str × V), (putF f v fs).length ≤ fs.length + 1
  | [] => by simp [putF]
  | (k, x) :: r => by
    have ih := length_putF f v r
    rw [show putF f v ((k, x) :: r) = (if k = f then (k, v) :: r else (k, x) :: putF f v r) from rfl]
    by_cases hk : k = f
    · rw [if_pos hk, List.length_cons, List.length_cons]; omega
    · rw [if_neg hk, List.length_cons, List.length_cons]; omega
theorem RelO.some_of {v : V} {o : Option Value} (r : RelO (some v) o) : ∃ u, o = some u ∧ RelV v u := by
  cases o with
  | none => exact (show False from r).elim
  | some u => exact ⟨u, rfl, r⟩
theorem RelO.none_of {o : Option Value} (r : RelO none o) : o = none := by
  cases o with
  | none => rfl
  | some u => exact (show False from r).elim
theorem handed_of {v : V} {u : Value} (r : RelV v u) : PySem.W.handedIn u = true := by
  cases v with
  | non => cases (show u = Value.none from r); rfl
  | bl b => cases (show u = Value.bool b from r); rfl
  | int i => obtain ⟨t, e⟩ := (show ∃ t, u = Value.int i t from r); cases e; rfl
  | str x => obtain ⟨t, e⟩ := (show ∃ t, u = Value.str x t from r); cases e; rfl
  | byt b => obtain ⟨t, e⟩ := (show ∃ t, u = Value.bytes b t from r); cases e; rfl
  | flt b => obtain ⟨t, e⟩ := (show ∃ t, u = Value.float b t from r); cases e; rfl
  | ref a => cases (show u = Value.ref a from r); rfl
  | ty n => cases (show u = Value.type n from r); rfl
section
variable {P : Program} {w : World} {H H' : Hp} {h h' : Heap} {a C dx : Addr} {fs fs' : List (Str × V)}
theorem ins_get (hok : HOk P w H h) (e : H a = some (.ins C dx fs)) : ∃ mA, ObjM h a dx C mA ∧ (∀ f, RelO (fs.lookup f) (mA f)) ∧ PySem.Within mA (fs.map (·.1)) ∧ fs.length ≤ 1000 ∧ H dx = some (.own a) := by
  obtain ⟨d, z, ne, ob, mA, n, r, q⟩ := (show ObjOk P w H h a (.ins C dx fs) from hok a _ e)
  exact ⟨mA, ⟨ob, n, ne⟩, r, q, z, d⟩
end
structure Cls (K : PySem.W.Frag) (C : Addr) : Prop where
  pg : PySem.W.plainGet K C Str.empty = true
  hd : PySem.W.hasDictIn K C = true
  po : PySem.W.plainOver K C = true
  sa : PySem.W.findIn K (.ref C) "__setattr__" = some (some (.builtin "object.__setattr__"))
theorem Cls.get {K : PySem.W.Frag} {C : Addr} (c : Cls K C) (f : Str) : PySem.W.plainGet K C f = true := c.pg
def NoAttr (K : PySem.W.Frag) (C : Addr) (f : Str) : Prop := PySem.W.findIn K (.ref C) f = some none
theorem NoAttr.taker {K : PySem.W.Frag} {C : Addr} {f : Str} (n : NoAttr K C f) : PySem.W.takerIn K C f = some none := by
  unfold PySem.W.takerIn
  rw [show PySem.W.findIn K (.ref C) f = some none from n]
  rfl
structure Meth (K : PySem.W.Frag) (C : Addr) (m : Str) (f : Addr) : Prop where
  at_ : PySem.W.findIn K (.ref C) m = some (some (.ref f))
  fn : PySem.W.isFn K (.ref f) = true
  kp : PySem.W.keepIn K (.ref f) = true
section
variable {X : Cx} {pins : List (Addr × Obj)} {σ : St} {H : Hp} {s : Shared} {a C dx : Addr} {fs : List (Str × V)} {f : Str} {v : V} {A : Around} {E : Value → Shared → Prop}
theorem getattr_ok {b : Bool} {Q : Value → Shared → Prop} (I : Inv X pins σ H s) (e : H a = some (.ins C dx fs)) (c : Cls X.K C) (n : NoAttr X.K C f) (l : fs.lookup f = some v)
    (h : ∀ u s', Inv X pins σ H s' → RelV v u → Q u s') : wpAny (model X.prog X.w) A (getAttr (.ref a) f b) Q E s := by
  obtain ⟨mA, O, r, _, _, _⟩ := ins_get I.hok e
  obtain ⟨u, hu, ru⟩ := RelO.some_of (v := v) (o := mA f) (by rw [← l]; exact r f)
  exact get_map I.kIn O (c.get f) c.hd n hu (handed_of ru) (h u _ (I.tok _) ru)
theorem getmeth_ok {m : Str} {g : Addr} {pl : Sem Bool} {Q : Value × List Value → Shared → Prop} (I : Inv X pins σ H s) (e : H a = some (.ins C dx fs)) (c : Cls X.K C) (k : Meth X.K C m g) (l : fs.lookup m = none)
    (h : Q (.ref g, [.ref a]) s) : wpAny (model X.prog X.w) A (getMethod (.ref a) m pl) Q E s := by
  obtain ⟨mA, O, r, _, _, _⟩ := ins_get I.hok e
  have hn : mA m = none := RelO.none_of (by rw [← l]; exact r m)
  exact get_meth I.kIn O (c.get m) k.at_ k.fn hn h
theorem setattr_ok {y : V} {u : Value} {Q : Unit → Shared → Prop} (I : Inv X pins σ H s) (e : H a = some (.ins C dx fs)) (c : Cls X.K C) (n : NoAttr X.K C f) (hl : fs.length < 1000) (ry : RelV y u)
    (h : ∀ s', Inv X pins σ (upd H a (.ins C dx (putF f y fs))) s' → Q () s') : wpAny (model X.prog X.w) A (setAttr (.ref a) f u) Q E s := by
  obtain ⟨mA, O, r, wi, _, ho⟩ := ins_get I.hok e
  have hz : (fs.map (·.1)).length ≤ sizeLine := by rw [List.length_map, sizeLine_eq]; omega
  refine set_map I.kIn O c.sa c.po n.taker c.hd wi hz fun h' O' sb => h _ ?_
  have hd : ∃ o, h'.get? dx = some o := let ⟨o, _, _, e', _⟩ := O'.ns; ⟨o, e'⟩
  refine I.write (x := a) (e := dx) (by rw [e]; exact True.intro) (.inr ho) (fun b q hb z => (sb.2 b hb).trans z) hd ?_
  refine ⟨by rw [upd_ne O.ne]; exact ho, ?_, O.ne, O'.obj, _, O'.ns, fun g => ?_, fun g hg => ?_⟩
  · have := length_putF f y fs; omega
  · show RelO ((putF f y fs).lookup g) (if g = f then some u else mA g)
    rw [lookup_putF]
    by_cases q : g = f
    · rw [if_pos q, if_pos q]; exact ry
    · rw [if_neg q, if_neg q]; exact r g
  · by_cases q : g = f
    · rw [q]; exact (keys_putF f y fs).1
    · refine (keys_putF f y fs).2 g (wi g fun z => hg ?_)
      show (if g = f then some u else mA g) = none
      rw [if_neg q]; exact z
theorem Inv.made (I : Inv X pins σ H s) : Inv X pins σ (upd (upd H s.heap.objs.size (.own (s.heap.objs.size + 1))) (s.heap.objs.size + 1) (.ins C s.heap.objs.size []))
    { s with heap := (s.heap.push PySem.W.emptyDict).push (PySem.W.instObj C s.heap.objs.size) } := by
  have e1 : (s.heap.push PySem.W.emptyDict).get? s.heap.objs.size = some PySem.W.emptyDict := Heap.get?_push_size s.heap rfl
  have e2 : ((s.heap.push PySem.W.emptyDict).push (PySem.W.instObj C s.heap.objs.size)).get? (s.heap.objs.size + 1) = some (PySem.W.instObj C s.heap.objs.size) := by
    have := Heap.get?_push_size (s.heap.push PySem.W.emptyDict) (o := PySem.W.instObj C s.heap.objs.size) rfl
    rwa [Heap.size_push] at this
  have e3 : (s.heap.push PySem.W.emptyDict).Ns s.heap.objs.size (fun _ => none) := ⟨PySem.W.emptyDict, #[], _, e1, rfl, (fun e he => absurd he (by simp)), fun _ => rfl⟩
  have I1 := I.laid (a := s.heap.objs.size) (o := .own (s.heap.objs.size + 1)) (h' := s.heap.push PySem.W.emptyDict) (t' := s.toks) (fun b u q => Heap.get?_push_of_some _ q) (Nat.le_refl _) ⟨_, e1⟩
  refine I1.laid (a := s.heap.objs.size + 1) (o := .ins C s.heap.objs.size []) (t' := s.toks) (fun b u q => Heap.get?_push_of_some _ q) (Nat.le_of_eq (Heap.size_push _ _)) ?_
  have ne : s.heap.objs.size ≠ s.heap.objs.size + 1 := Nat.ne_of_lt (Nat.lt_succ_self _)
  refine ⟨by rw [upd_ne ne, upd_same], Nat.zero_le _, ne, e2, fun _ => none, (Heap.Ns1.of_empty e3).at fun o q => Heap.get?_push_of_some _ q, fun _ => True.intro, fun y hy => absurd rfl hy⟩
theorem attr_of {prog : Program} {w : World} {env : Env} {e : Expr} {f : Str} {pos : Pos} {s : Shared} {Q : Value → Shared → Prop} (hb : attributeBase e f env (eval e env) = eval e env)
    (h : wpAny (model prog w) A (eval e env) (fun o s₁ => wpAny (model prog w) A (getAttr o f true) Q E s₁) E s) : wpAny (model prog w) A (eval (.Attribute e f pos) env) Q E s :=
  Attribute_any_ h (by rw [arm_eval_Attribute, hb])
end
def tFld (K : PySem.W.Frag) (ta : TE) (f : Str) : TE := fun σ H Q => ta σ H fun x H1 => ∃ a C dx fs v, x = .ref a ∧ H1 a = some (.ins C dx fs) ∧ Cls K C ∧ NoAttr K C f ∧ fs.lookup f = some v ∧ Q v H1
def sFld (K : PySem.W.Frag) (ta tv : TE) (f : Str) : TS := fun D σ H => tv σ H fun y H1 => ta σ H1 fun x H2 => ∃ a C dx fs, x = .ref a ∧ H2 a = some (.ins C dx fs) ∧ Cls K C ∧ NoAttr K C f ∧ fs.length < 1000 ∧
  D.nx σ (upd H2 a (.ins C dx (putF f y fs)))
section
variable {X : Cx} {o e value : Expr} {f : Str} {pos pos' tpos : Pos} {ta tv : TE}
theorem pe_fld (he : PE X e ta) (hb : attributeBase e f X.env (eval e X.env) = eval e X.env) : PE X (.Attribute e f pos) (tFld X.K ta f) := by
  intro pins s σ H Q I h
  refine attr_of hb (thn (he pins s σ H _ I h) fun u s1 ⟨x, H1, I1, rx, a, C, dx, fs, v, ex, ea, c, n, l, q⟩ => ?_)
  subst ex
  obtain rfl : u = Value.ref a := rx
  exact getattr_ok I1 ea c n l fun u' s2 I2 ru => ⟨v, H1, I2, ru, q⟩
theorem ps_fld (ha : PE X o ta) (hv : PE X value tv) (hs : swapsWith value (some (.Attribute o f pos')) pos.line X.env = pure false) : PS X (.Assign [.Attribute o f pos'] value pos) (sFld X.K ta tv f) := by
  intro pins s σ H D I h
  refine plainObj_wpAny_Assign_Attribute (thn (hv pins s σ H _ I h) fun u s1 ⟨y, H1, I1, ry, q⟩ => thn (ha pins s1 σ H1 _ I1 q) fun ov s2 ⟨x, H2, I2, rx, a, C, dx, fs, ex, ea, c, n, l, q2⟩ => ?_) hs
  subst ex
  obtain rfl : ov = Value.ref a := rx
  exact setattr_ok I2 ea c n l ry fun s3 I3 => ⟨σ, _, I3, q2⟩
theorem methcall_of {pl : Sem Bool} {m : Str} {apos : Pos} {args : List Expr} {pins : List (Addr × Obj)} {s : Shared} {σ : St} {H : Hp} {Q : Value → Shared → Prop} {te : TE} (he : PE X e te) (I : Inv X pins σ H s)
    (h : te σ H fun x H1 => ∃ a C dx fs g, x = .ref a ∧ H1 a = some (.ins C dx fs) ∧ Cls X.K C ∧ Meth X.K C m g ∧ fs.lookup m = none ∧
      ∀ s1, Inv X pins σ H1 s1 → wpAny (model X.prog X.w) X.A (callWith pos (.ref g) [.ref a] (backTo pos (starEach args X.env)) (backToKw pos (keywordEach [] X.env))) Q X.xe s1)
    (ht : eval (.Call (.Attribute e m apos) args [] pos) X.env = (do
      let ov ← eval e X.env
      standAt apos.atName
      let (f, first) ← holding [ov] (getMethod ov m pl)
      callWith pos f first (backTo pos (starEach args X.env)) (backToKw pos (keywordEach [] X.env)))) :
    wpAny (model X.prog X.w) X.A (eval (.Call (.Attribute e m apos) args [] pos) X.env) Q X.xe s := by
  refine PySem.W.methodCall_KW (pl := pl) (thn (he pins s σ H _ I h) fun u s1 ⟨x, H1, I1, rx, a, C, dx, fs, g, ex, ea, c, k, l, q⟩ => ?_) ht
  subst ex
  obtain rfl : u = Value.ref a := rx
  exact getmeth_ok I1 ea c k l (q s1 I1)
end
section
variable {X : Cx} {pins : List (Addr × Obj)} {σ : St} {H : Hp} {s : Shared} {A : Around} {E : Value → Shared → Prop} {Q : Value → Shared → Prop} {c : Value} {b : Bool}
inductive TyOf (K : PySem.W.Frag) (H : Hp) : V → Value → Prop where
  | non : TyOf K H .non (.type "NoneType")
  | bl (x : Bool) : TyOf K H (.bl x) (.type "bool")
  | int (i : Int) : TyOf K H (.int i) (.type "int")
  | str (x : Str) : TyOf K H (.str x) (.type "str")
  | flt (x : UInt64) : TyOf K H (.flt x) (.type "float")
  | lst {a : Addr} {xs : List V} (e : H a = some (.lst xs)) : TyOf K H (.ref a) (.type "list")
  | frz {a : Addr} {o : Obj} {xs : List V} (e : H a = some (.frz o (.lst xs))) : TyOf K H (.ref a) (.type "list")
  | tup {a : Addr} {xs : List V} (e : H a = some (.tup xs)) : TyOf K H (.ref a) (.type "tuple")
  | dK {a : Addr} {kvs : List (Key × V)} (e : H a = some (.dK kvs)) : TyOf K H (.ref a) (.type "dict")
  | dT {a : Addr} {kvs : List (List Key × V)} (e : H a = some (.dT kvs)) : TyOf K H (.ref a) (.type "dict")
  | ins {a C dx : Addr} {fs : List (Str × V)} (e : H a = some (.ins C dx fs)) (cl : Cls K C) (ha : PySem.W.findIn K (.ref C) "__class__" = some (some (.builtin "object.__class__")))
      (hn : PySem.W.specialIn K (.builtin "object.__class__") "__get__" = some (some (.builtin "getset_descriptor.__get__"))) (htk : PySem.W.takesIn K (.builtin "object.__class__") = some true)
      (hm : PySem.W.mroIn K C (.type "object") = some true) : TyOf K H (.ref a) (.ref C)
theorem isinst_ok {x : V} {u t : Value} (I : Inv X pins σ H s) (rx : RelV x u) (ty : TyOf X.K H x t) (e : PySem.W.kitOne X.K t c = some b) (h : ∀ tk, Q (.bool b) { s with toks := tk }) :
    wpAny (model X.prog X.w) A (call (.builtin "isinstance") [u, c]) Q E s := by
  cases ty with
  | non => cases (show u = Value.none from rx); exact PySem.W.kia_one PySem.W.kitx_none I.kIn True.intro e (fun z => nomatch z) h
  | bl y => cases (show u = Value.bool y from rx); exact PySem.W.kia_one PySem.W.kitx_bool I.kIn True.intro e (fun z => nomatch z) h
  | int i => obtain ⟨t, q⟩ := (show ∃ t, u = Value.int i t from rx); cases q; exact PySem.W.kia_one PySem.W.kitx_int I.kIn True.intro e (fun z => nomatch z) h
  | str y => obtain ⟨t, q⟩ := (show ∃ t, u = Value.str y t from rx); cases q; exact PySem.W.kia_one PySem.W.kitx_str I.kIn True.intro e (fun z => nomatch z) h
  | flt y => obtain ⟨t, q⟩ := (show ∃ t, u = Value.float y t from rx); cases q; exact PySem.W.kia_one PySem.W.kitx_float I.kIn True.intro e (fun z => nomatch z) h
  | @lst a xs ea =>
    cases (show u = Value.ref a from rx)
    obtain ⟨_, _, n, _, h1⟩ := (show ObjOk X.prog X.w H s.heap a (.lst xs) from I.hok a _ ea)
    exact PySem.W.kia_one PySem.W.kitx_list I.kIn ⟨_, h1, rfl⟩ e (fun z => nomatch z) h
  | @frz a ob xs ea =>
    cases (show u = Value.ref a from rx)
    obtain ⟨_, _, _, n, _, h1⟩ := (show ObjOk X.prog X.w H s.heap a (.frz ob (.lst xs)) from I.hok a _ ea)
    exact PySem.W.kia_one PySem.W.kitx_list I.kIn ⟨_, h1, rfl⟩ e (fun z => nomatch z) h
  | @tup a xs ea =>
    cases (show u = Value.ref a from rx)
    obtain ⟨_, _, _, p⟩ := (show ObjOk X.prog X.w H s.heap a (.tup xs) from I.hok a _ ea)
    obtain ⟨o, h1, h2, _⟩ := p
    exact PySem.W.kia_one PySem.W.kitx_tuple I.kIn ⟨o, h1, h2⟩ e (fun z => nomatch z) h
  | @dK a kvs ea =>
    cases (show u = Value.ref a from rx)
    obtain ⟨_, _, vs, _, p⟩ := (show ObjOk X.prog X.w H s.heap a (.dK kvs) from I.hok a _ ea)
    obtain ⟨o, es, ep, h1, h2, _⟩ := p
    exact PySem.W.kia_one PySem.W.kitx_dict I.kIn ⟨o, h1, h2.1⟩ e (fun z => nomatch z) h
  | @dT a kvs ea =>
    cases (show u = Value.ref a from rx)
    obtain ⟨_, _, xs, _, o, es, ep, h1, h2, _⟩ := (show ObjOk X.prog X.w H s.heap a (.dT kvs) from I.hok a _ ea)
    exact PySem.W.kia_one PySem.W.kitx_dict I.kIn ⟨o, h1, h2.1⟩ e (fun z => nomatch z) h
  | @ins a C dx fs ea cl ha hn htk hm =>
    cases (show u = Value.ref a from rx)
    obtain ⟨mA, O, _⟩ := ins_get I.hok ea
    obtain ⟨od, J, _⟩ := O.look
    exact PySem.W.kia_one (PySem.W.kitx_own (cl.get _) cl.hd ha hn htk hm) I.kIn J e (fun z => nomatch z) h
end
end L2
namespace L2
open PySem PySem.Spec PyProof.Rows
structure Room (k : Nat) (A : Around) : Prop where
  hd : A.handled = none
  dp : A.depth + 3 * k + 5 < recursionLimit
  un : A.units + 16 * k + 200 < cLine
theorem Room.mono {j k : Nat} {A : Around} (r : Room k A) (h : j ≤ k) : Room j A := ⟨r.hd, by have := r.dp; omega, by have := r.un; omega⟩
theorem Room.deeper {k : Nat} {A : Around} (r : Room (k + 1) A) (env : Env) : Room k (A.deeper env) :=
  ⟨r.hd, by have := r.dp; show A.depth + 1 + 3 * k + 5 < _; omega, by have := r.un; show A.units + 3 + 16 * k + 200 < _; omega⟩
theorem make_depth {A : Around} {C : Addr} {us : List Value} {kw : List (Str × Value)} : (A.under (.builtin "type.__call__" ⟨.ref C :: us, kw⟩)).depth = A.depth + 1 := by
  first | rfl | simp [Around.under, Code.weight, Code.isCreation, Code.isGuard, Code.isCaller, Code.frames, Code.isFrame, guardIds]
theorem make_units {A : Around} {C : Addr} {us : List Value} {kw : List (Str × Value)} : (A.under (.builtin "type.__call__" ⟨.ref C :: us, kw⟩)).units = A.units + 1 := by
  first | rfl | simp [Around.under, Code.cUnits, Code.frames, Code.isFrame]
theorem Room.make {k : Nat} {A : Around} (r : Room (k + 1) A) (C : Addr) (us : List Value) (kw : List (Str × Value)) : Room k (A.under (.builtin "type.__call__" ⟨.ref C :: us, kw⟩)) :=
  ⟨r.hd, by have := r.dp; rw [make_depth]; omega, by have := r.un; rw [make_units]; omega⟩
theorem Room.depth {k : Nat} {A : Around} (r : Room k A) : A.depth < recursionLimit := by have := r.dp; omega
theorem Room.units {k : Nat} {A : Around} (r : Room k A) : A.units + 64 < cLine := by have := r.un; omega
def tNil : TA := fun _ H Q => Q [] H
def tCons (ta : TE) (tr : TA) : TA := fun σ H Q => ta σ H fun x H1 => tr σ H1 fun xs H2 => Q (x :: xs) H2
section
variable {X : Cx} {e : Expr} {es : List Expr} {te : TE} {t : TA} {pos : Pos}
theorem pa_nil : PA X [] tNil := fun _ _ _ _ H Q I h => Calls.spliced_nil ⟨[], H, I, .nil, h⟩
theorem pa_cons (ha : PE X e te) (hr : PA X es t) (hs : starEach (e :: es) X.env = (false, eval e X.env) :: starEach es X.env := by rfl) : PA X (e :: es) (tCons te t) := by
  intro pos pins s σ H Q I h
  rw [hs]
  show wpAny _ _ (spliced ((false, eval e X.env) :: backTo pos (starEach es X.env))) _ _ s
  refine Calls.spliced_cons (thn (ha pins s σ H _ I h) fun u s1 ⟨x, H1, I1, r1, q1⟩ => ?_)
  exact thn (hr pos pins s1 σ H1 _ I1 q1) fun us s2 ⟨xs, H2, I2, r2, q2⟩ => ⟨x :: xs, H2, I2, .cons r1 r2, q2⟩
def tTup (t : TA) : TE := fun σ H Q => t σ H fun xs H1 => xs.length ≤ sizeLine ∧ ∀ p, H1 p = none → Q (.ref p) (upd H1 p (.tup xs))
def tLst (t : TA) : TE := fun σ H Q => t σ H fun xs H1 => xs.length ≤ sizeLine ∧ ∀ p, H1 p = none → Q (.ref p) (upd H1 p (.lst xs))
theorem pe_tup {x1} (h : PA X es t) : PE X (.Tuple es x1 pos) (tTup t) := by
  intro pins s σ H Q I hq
  refine wpAny_Tuple_spliced (thn (h pos pins s σ H _ I hq) fun us s1 ⟨xs, H1, I1, r, z, q⟩ => ⟨by rw [← r.length]; exact z, ?_⟩)
  have hf : H1 s1.heap.objs.size = none := I1.hok.fresh (Nat.le_refl _)
  refine ⟨.ref s1.heap.objs.size, upd H1 s1.heap.objs.size (.tup xs), I1.laid (t' := s1.toks) (fun b u e => Heap.get?_push_of_some _ e) (Nat.le_refl _) ?_, rfl, q _ hf⟩
  exact ⟨z, us, r, ⟨_, Heap.get?_push_size _ rfl, rfl, _, rfl⟩⟩
theorem pe_lst (h : PA X es t) : PE X (.List es pos) (tLst t) := by
  intro pins s σ H Q I hq
  refine wpAny_List_spliced (thn (h pos pins s σ H _ I hq) fun us s1 ⟨xs, H1, I1, r, z, q⟩ => ⟨by rw [← r.length]; exact z, ?_⟩)
  have hf : H1 s1.heap.objs.size = none := I1.hok.fresh (Nat.le_refl _)
  refine ⟨.ref s1.heap.objs.size, upd H1 s1.heap.objs.size (.lst xs), I1.laid (t' := s1.toks) (fun b u e => Heap.get?_push_of_some _ e) (Nat.le_refl _) ?_, rfl, q _ hf⟩
  exact ⟨z, us, 0, r, Heap.get?_push_size _ rfl⟩
end
abbrev Sp := List V → Hp → VK → XK → Prop
abbrev CXT := List Env → Hp → Shared → XK → Value → Shared → Prop
structure Env0 (P : Program) (w : World) (K : PySem.W.Frag) (mg : Str → Option Value) (base : Heap) (A : Around) (outer : List Env) (s : Shared) (H : Hp) : Prop where
  frames : A.frames = some outer
  mod : Mod K mg base
  bs : ∀ b o, base.get? b = some o → s.heap.get? b = some o ∧ H b = none
  bsz : base.objs.size ≤ s.heap.objs.size
  funs : s.heap.FunFrames base outer
  frf : ∀ b ∈ frs outer, H b = none
  hok : HOk P w H s.heap
  bare : AllBare s.gens
def CE (outer : List Env) (P : Program) (w : World) (H : Hp) (s : Shared) (Q : VK) (u : Value) (s' : Shared) : Prop :=
  ∃ v H', s'.os = s.os ∧ AllBare s'.gens ∧ Un (frs outer) [] H H' s.heap s'.heap ∧ HOk P w H' s'.heap ∧ RelV v u ∧ Q v H'
def CR (CX : CXT) (outer : List Env) (P : Program) (w : World) (H : Hp) (s : Shared) (Q : VK) (E : XK) (r : Result) (s' : Shared) : Prop :=
  match r with
  | .ok (.ret u) => CE outer P w H s Q u s'
  | .ok _ => False
  | .error e => CX outer H s E e s'
structure FnOk (P : Program) (w : World) (K : PySem.W.Frag) (mg : Str → Option Value) (base : Heap) (CX : CXT) (k : Nat) (f : Addr) (fd : FuncData) (ps : List Str) (sp : Sp) : Prop where
  len : ∀ vs H Q E, sp vs H Q E → vs.length = ps.length
  run : ∀ (A : Around) (outer : List Env) (s : Shared) (H : Hp) (args : Args) (us : List Value) (vs : List V) (Q : VK) (E : XK), Room k A → Env0 P w K mg base A outer s H → BindsTo s fd args (ps.zip us) → Vals vs us → sp vs H Q E →
    codeAny (model P w) A (.call (.ref f) args) (CR CX outer P w H s Q E) s
theorem FnOk.mono {P : Program} {w : World} {K : PySem.W.Frag} {mg : Str → Option Value} {base : Heap} {CX : CXT} {j k : Nat} {f : Addr} {fd : FuncData} {ps : List Str} {sp : Sp} (F : FnOk P w K mg base CX j f fd ps sp) (h : j ≤ k) :
    FnOk P w K mg base CX k f fd ps sp := ⟨F.len, fun A outer s H args us vs Q E hr => F.run A outer s H args us vs Q E (hr.mono h)⟩
theorem Env0.make {P : Program} {w : World} {K : PySem.W.Frag} {mg : Str → Option Value} {base : Heap} {A : Around} {outer : List Env} {s : Shared} {H : Hp} (e : Env0 P w K mg base A outer s H) (C : Addr) (us : List Value) (kw : List (Str × Value)) :
    Env0 P w K mg base (A.under (.builtin "type.__call__" ⟨.ref C :: us, kw⟩)) outer s H := ⟨by first | exact e.frames | (simpa [Around.under, Code.envs, Code.isFrame, pushEnvs] using e.frames), e.mod, e.bs, e.bsz, e.funs, e.frf, e.hok, e.bare⟩
section
variable {X : Cx} {pins : List (Addr × Obj)} {σ : St} {H : Hp} {s s' : Shared}
theorem Inv.env0 (I : Inv X pins σ H s) : Env0 X.prog X.w X.K X.mg X.base X.A X.stack s H :=
  ⟨I.ok.frames, I.ok.mod, I.bs, Nat.le_trans I.ok.bsz I.sz, I.stack, I.stkFree, I.hok, I.bare⟩
theorem Inv.after {Q : VK} {u : Value} (I : Inv X pins σ H s) (h : CE X.stack X.prog X.w H s Q u s') : EP X pins σ Q u s' := by
  obtain ⟨v, H', os, bare, un, hok, r, q⟩ := h
  obtain ⟨hh, g, d, t, os'⟩ := s'
  obtain rfl : os' = s.os := os
  exact ⟨v, H', I.call (h' := hh) (g' := g) (d' := d) (t' := t) (ch := []) un hok bare (fun b z => absurd z (by simp)), r, q⟩
end
def tCall (sp : Sp) (dvs : List V) (E : XK) (t : TA) : TE := fun σ H Q => t σ H fun vs H1 => sp (vs ++ dvs) H1 Q E
def tMake (C : Addr) (sp : Sp) (dvs : List V) (E : XK) (t : TA) : TE := fun σ H Q => t σ H fun vs H1 => ∀ x dx, H1 x = none → H1 dx = none → dx ≠ x →
  sp (.ref x :: (vs ++ dvs)) (upd (upd H1 dx (.own x)) x (.ins C dx [])) (fun v H2 => v = .non ∧ Q (.ref x) H2) E
def Binds (K : PySem.W.Frag) (fd : FuncData) (ps : List Str) (ds : List Value) : Prop :=
  ∀ (s : Shared) (us : List Value), K.In s.heap → (us ++ ds).length = ps.length → BindsTo s fd ⟨us, []⟩ (ps.zip (us ++ ds))
theorem Binds.all {K : PySem.W.Frag} {fd : FuncData} {ps : List Str} (h : ∀ us : List Value, us.length = ps.length → bindArgs fd ⟨us, []⟩ = pure (ps.zip us)) : Binds K fd ps [] := fun s us _ hl => by
  rw [List.append_nil] at hl ⊢
  exact .of_eq (h us hl)
def Passes (CX : CXT) (X : Cx) (E : XK) : Prop := ∀ (pins : List (Addr × Obj)) (σ : St) (H : Hp) (s : Shared) (e : Value) (s' : Shared), Inv X pins σ H s → CX X.stack H s E e s' → X.xe e s'
section
variable {X : Cx} {CX : CXT} {k : Nat} {f C : Addr} {fd : FuncData} {ps : List Str} {sp : Sp} {dvs : List V} {ds : List Value} {E : XK} {x m : Str} {p pos apos : Pos} {e o : Expr} {es : List Expr} {ta : TE} {t : TA}
theorem run_fn {pins : List (Addr × Obj)} {σ : St} {H : Hp} {s : Shared} {Q : VK} {us : List Value} {vs : List V} (F : FnOk X.prog X.w X.K X.mg X.base CX k f fd ps sp) (hr : Room k X.A) (hb : Binds X.K fd ps ds) (hd : Vals dvs ds) (hx : Passes CX X E)
    (I : Inv X pins σ H s) (r : Vals vs us) (h : sp (vs ++ dvs) H Q E) : wpAny (model X.prog X.w) X.A (call (.ref f) us) (EP X pins σ Q) X.xe s := by
  have r2 : Vals (vs ++ dvs) (us ++ ds) := r.append hd
  have hl : (us ++ ds).length = ps.length := by rw [← r2.length]; exact F.len _ _ _ _ h
  refine wpAny_call (codeAny_mono (F.run X.A X.stack s H ⟨us, []⟩ (us ++ ds) (vs ++ dvs) Q E hr I.env0 (hb s us I.kIn hl) r2 h) fun r s' hq => ?_)
  cases r with
  | error e => exact hx pins σ H s e s' I hq
  | ok fl =>
    cases fl with
    | ret u => exact I.after hq
    | next => exact False.elim hq
    | brk => exact False.elim hq
    | cont => exact False.elim hq
theorem pe_call (F : FnOk X.prog X.w X.K X.mg X.base CX k f fd ps sp) (hr : Room k X.A) (hg : Gl X x) (hm : X.mg x = some (.ref f)) (hk : PySem.W.keepIn X.K (.ref f) = true) (hb : Binds X.K fd ps ds) (hd : Vals dvs ds) (hx : Passes CX X E)
    (ha : PA X (e :: es) t) (hdb : (x == ("__debug__" : Str)) = false := by decide) (he : starEach (e :: es) X.env = (false, eval e X.env) :: starEach es X.env := by rfl) (hpl : (backTo pos (starEach es X.env)).any (·.1) = false := by rfl) :
    PE X (.Call (.Name x p) (e :: es) [] pos) (tCall sp dvs E t) := by
  intro pins s σ H Q I h
  refine wpAny_Call_Name_kw (ld_glob I hg hm ?_ hdb)
  refine PySem.W.callWith_K (h₀ := X.base) I.ok.mod.kin hk (thn (ha pos pins s σ H _ I h) fun us s1 ⟨vs, H1, I1, r, q⟩ => ⟨I1.kIn, ?_⟩) he hpl
  exact run_fn F hr hb hd hx I1 r q
structure Mk (K : PySem.W.Frag) (C f : Addr) : Prop where
  makes : PySem.W.makesIn K C = true
  init : PySem.W.findIn K (.ref C) "__init__" = some (some (.ref f))
  fn : PySem.W.isFn K (.ref f) = true
  kp : PySem.W.keepIn K (.ref C) = true
theorem run_make {pins : List (Addr × Obj)} {σ : St} {H : Hp} {s : Shared} {Q : VK} {us : List Value} {vs : List V} (M : Mk X.K C f) (F : FnOk X.prog X.w X.K X.mg X.base CX k f fd ps sp) (hr : Room (k + 1) X.A) (hb : Binds X.K fd ps ds) (hd : Vals dvs ds)
    (hx : Passes CX X E) (I : Inv X pins σ H s) (r : Vals vs us)
    (h : ∀ x dx, H x = none → H dx = none → dx ≠ x → sp (.ref x :: (vs ++ dvs)) (upd (upd H dx (.own x)) x (.ins C dx [])) (fun v H2 => v = .non ∧ Q (.ref x) H2) E) :
    wpAny (model X.prog X.w) X.A (call (.ref C) us) (EP X pins σ Q) X.xe s := by
  have hq := h (s.heap.objs.size + 1) s.heap.objs.size (I.hok.fresh (Nat.le_succ _)) (I.hok.fresh (Nat.le_refl _)) (Nat.ne_of_lt (Nat.lt_succ_self _))
  have I2 := Inv.made (C := C) I
  have r2 : Vals (V.ref (s.heap.objs.size + 1) :: (vs ++ dvs)) (Value.ref (s.heap.objs.size + 1) :: (us ++ ds)) := .cons rfl (r.append hd)
  have hl : (Value.ref (s.heap.objs.size + 1) :: us ++ ds).length = ps.length := by
    have e := r2.length
    rw [F.len _ _ _ _ hq] at e
    exact e.symm
  refine wpAny_call (make_map (f := f) I.kIn M.makes M.init (beq_iff_eq.mp M.fn) (codeAny_mono (F.run _ X.stack _ _ ⟨Value.ref (s.heap.objs.size + 1) :: us, []⟩ (Value.ref (s.heap.objs.size + 1) :: (us ++ ds)) _ _ E (hr.make C us [])
    (I2.env0.make C us []) (hb _ (Value.ref (s.heap.objs.size + 1) :: us) I2.kIn hl) r2 hq) fun r s' hq' => ?_))
  cases r with
  | error e => exact hx pins σ _ _ e s' I2 hq'
  | ok fl =>
    cases fl with
    | ret u =>
      obtain ⟨v, H', I3, rv, ev, q3⟩ := I2.after hq'
      subst ev
      exact ⟨rv, ⟨V.ref (s.heap.objs.size + 1), H', I3, rfl, q3⟩⟩
    | next => exact False.elim hq'
    | brk => exact False.elim hq'
    | cont => exact False.elim hq'
theorem pe_make (M : Mk X.K C f) (F : FnOk X.prog X.w X.K X.mg X.base CX k f fd ps sp) (hr : Room (k + 1) X.A) (hg : Gl X x) (hm : X.mg x = some (.ref C)) (hb : Binds X.K fd ps ds) (hd : Vals dvs ds) (hx : Passes CX X E)
    (ha : PA X (e :: es) t) (hdb : (x == ("__debug__" : Str)) = false := by decide) (he : starEach (e :: es) X.env = (false, eval e X.env) :: starEach es X.env := by rfl) (hpl : (backTo pos (starEach es X.env)).any (·.1) = false := by rfl) :
    PE X (.Call (.Name x p) (e :: es) [] pos) (tMake C sp dvs E t) := by
  intro pins s σ H Q I h
  refine wpAny_Call_Name_kw (ld_glob I hg hm ?_ hdb)
  refine PySem.W.callWith_K (h₀ := X.base) I.ok.mod.kin M.kp (thn (ha pos pins s σ H _ I h) fun us s1 ⟨vs, H1, I1, r, q⟩ => ⟨I1.kIn, ?_⟩) he hpl
  exact run_make M F hr hb hd hx I1 r q
end
section
variable {X : Cx} {CX : CXT} {k : Nat} {f C : Addr} {fd : FuncData} {ps ks : List Str} {sp : Sp} {E : XK} {x m : Str} {p pos apos kpos : Pos} {e o : Expr} {es : List Expr} {kws : List Keyword} {te ta : TE} {t tk : TA} {nm : Option Str}
variable {g : List Value → List Value → List Value} {gV : List V → List V → List V}
end
structure FnScope (N P : List Str) (sc : Scope) : Prop where
  kind : sc.kind = .function
  co : sc.isCoroutine = false
  gen : sc.isGenerator = false
  nd : N.Nodup
  pre : N.take P.length = P
  par : ∀ x ∈ P, sc.names.lookup x = some .local ∨ sc.names.lookup x = some .cell
  nofree : ∀ y ∈ sc.names, y.2 ≠ .free
theorem bindL_out {kindOf : Str → Option NameKind} {x : Str} : ∀ {binds : List (Str × Value)} {m : Str → Option Value}, (∀ v, (x, v) ∉ binds) → bindL kindOf binds m x = m x
  | [], _, _ => rfl
  | (n, v) :: r, m, h => by
    unfold bindL
    rw [bindL_out fun w hw => h w (List.mem_cons_of_mem _ hw)]
    split
    · have : x ≠ n := by rintro rfl; exact h v List.mem_cons_self
      simp [this]
    · rfl
theorem bindC_out {kindOf : Str → Option NameKind} {x : Str} : ∀ {binds : List (Str × Value)} {m : Str → Option Value}, (∀ v, (x, v) ∉ binds) → bindC kindOf binds m x = m x
  | [], _, _ => rfl
  | (n, v) :: r, m, h => by
    unfold bindC
    rw [bindC_out fun w hw => h w (List.mem_cons_of_mem _ hw)]
    split
    · rfl
    · have : x ≠ n := by rintro rfl; exact h v List.mem_cons_self
      simp [this]
theorem bindL_get {kindOf : Str → Option NameKind} {x : Str} {v : Value} : ∀ {P : List Str} {vs : List Value} {i : Nat} {m : Str → Option Value}, P.Nodup → P[i]? = some x → vs[i]? = some v → kindOf x = some .local →
    bindL kindOf (P.zip vs) m x = some v
  | [], _, _, _, _, h, _, _ => by simp at h
  | _ :: _, [], _, _, _, _, h, _ => by simp at h
  | p :: P, w :: vs, 0, m, nd, h1, h2, hk => by
    simp at h1 h2; subst h1; subst h2
    show bindL kindOf ((p, w) :: P.zip vs) m p = _
    unfold bindL
    rw [bindL_out fun v hv => (List.nodup_cons.mp nd).1 (List.of_mem_zip hv).1, if_pos hk]
    simp
  | p :: P, w :: vs, i + 1, m, nd, h1, h2, hk => by
    show bindL kindOf ((p, w) :: P.zip vs) m x = _
    unfold bindL
    exact bindL_get (i := i) (List.nodup_cons.mp nd).2 (by simpa using h1) (by simpa using h2) hk
theorem bindC_get {kindOf : Str → Option NameKind} {x : Str} {v : Value} : ∀ {P : List Str} {vs : List Value} {i : Nat} {m : Str → Option Value}, P.Nodup → P[i]? = some x → vs[i]? = some v → kindOf x ≠ some .local →
    bindC kindOf (P.zip vs) m x = some v
  | [], _, _, _, _, h, _, _ => by simp at h
  | _ :: _, [], _, _, _, _, h, _ => by simp at h
  | p :: P, w :: vs, 0, m, nd, h1, h2, hk => by
    simp at h1 h2; subst h1; subst h2
    show bindC kindOf ((p, w) :: P.zip vs) m p = _
    unfold bindC
    rw [bindC_out fun v hv => (List.nodup_cons.mp nd).1 (List.of_mem_zip hv).1, if_neg hk]
    simp
  | p :: P, w :: vs, i + 1, m, nd, h1, h2, hk => by
    show bindC kindOf ((p, w) :: P.zip vs) m x = _
    unfold bindC
    exact bindC_get (i := i) (List.nodup_cons.mp nd).2 (by simpa using h1) (by simpa using h2) hk
def start (N : List Str) (vs : List V) : St := vs.map some ++ List.replicate (N.length - vs.length) none
def cxOf (CX : CXT) (P : Program) (w : World) (K : PySem.W.Frag) (mg : Str → Option Value) (base : Heap) (N : List Str) (qual : Str) (scope : Scope) (f : Addr) (cd : Value) (A : Around) (outer : List Env) (s : Shared) (H : Hp) (E : XK) : Cx where
  prog := P
  w := w
  K := K
  mg := mg
  base := base
  A := A.deeper (envOfC qual scope s.heap.objs.size f cd)
  N := N
  s_0 := s
  H_0 := H
  env := envOfC qual scope s.heap.objs.size f cd
  outer := outer
  stack := envOfC qual scope s.heap.objs.size f cd :: outer
  ex := []
  calm := true
  fn := fun _ => true
  pn := []
  xe := fun e s' => wpAny (model P w) (A.deeper (envOfC qual scope s.heap.objs.size f cd)) (leaving (envOfC qual scope s.heap.objs.size f cd) e) (fun _ s'' => CX outer H s E e s'') (fun e' s'' => CX outer H s E e' s'') s'
theorem cell_has {sc : Scope} {n : Nat} {x : Str} (h : sc.names.lookup x = some .cell) : ∃ c, (cellsFrom n sc.names []).lookup x = some c := by
  have q := PySem.W.cellsFrom_some sc.names n [] (.inl h)
  exact Option.isSome_iff_exists.mp q
theorem inv_start {CX : CXT} {P : Program} {w : World} {K : PySem.W.Frag} {mg : Str → Option Value} {base : Heap} {N ps : List Str} {qual : Str} {scope : Scope} {f : Addr} {cd : Value} {A : Around} {outer : List Env} {s s1 : Shared} {H : Hp} {E : XK} {us : List Value} {vs : List V}
    (S : FnScope N ps scope) (hd : A.handled = none) (e0 : Env0 P w K mg base A outer s H) (hl : vs.length = ps.length) (r : Vals vs us)
    (x : InCallC s s.heap.objs.size (bindL (envOfC qual scope s.heap.objs.size f cd).kindOf (ps.zip us) fun _ => none) (cellsFrom (s.heap.objs.size + 1) scope.names []) (bindC (envOfC qual scope s.heap.objs.size f cd).kindOf (ps.zip us) fun _ => none) s1) :
    Inv (cxOf CX P w K mg base N qual scope f cd A outer s H E) [] (start N vs) H s1 := by
  have hpl : ps.length ≤ N.length := by have := congrArg List.length S.pre; rw [List.length_take] at this; omega
  obtain ⟨h1, tk, rfl, hk⟩ := x.done
  have noA : ∀ b : Addr, b ∉ (cxOf CX P w K mg base N qual scope f cd A outer s H E).ex := fun b z => absurd (show b ∈ ([] : List Addr) from z) (by simp)
  refine ⟨⟨e0.mod, S.kind, rfl, rfl, Nat.le_refl _, fun y z c h1 h2 => ?_, fun y hy => ?_, fun y c _ h => ?_, fun _ => hd, Around.frames_deeper e0.frames, .inr ⟨rfl, rfl⟩, fun b z => absurd z (noA b), e0.bs, e0.bsz, fun b _ _ => noA b, fun b z => absurd z (noA b), e0.funs, e0.frf⟩,
    rfl, e0.bare, Un.kept hk, ⟨_, x.toInCall.ns, fun i y v h1 h2 h3 => ?_⟩, fun y c h => ⟨_, x.cell y c h⟩, e0.hok.fresh (Nat.le_refl _), fun y c h => ?_, fun p hp => absurd (show p ∈ ([] : List (Addr × Obj)) from hp) (by simp), e0.hok.kept hk, ?_⟩
  · exact name_of_addr x.apart (PySem.mem_of_lookup h1) (PySem.mem_of_lookup h2)
  · have hy : scope.names.lookup y = some .cell ∨ scope.names.lookup y = some .free := hy
    rcases hy with hy | hy
    · exact cell_has hy
    · exact absurd rfl (S.nofree _ (PySem.mem_of_lookup hy))
  · exact Nat.le_of_lt (x.above y c (PySem.mem_of_lookup h))
  · have hi : i < vs.length := by
      unfold start at h2
      by_cases hi : i < vs.length
      · exact hi
      · rw [List.getElem?_append_right (by simpa using hi)] at h2
        rw [List.getElem?_replicate] at h2
        split at h2 <;> cases h2
    have ha : vs[i]? = some v := by
      unfold start at h2
      rw [List.getElem?_append_left (by simpa using hi), List.getElem?_map] at h2
      cases e : vs[i]? with
      | none => rw [e] at h2; cases h2
      | some a => rw [e] at h2; cases h2; rfl
    obtain ⟨u, hu, rv⟩ := r.get ha
    have hp : ps[i]? = some y := by
      rw [← S.pre, List.getElem?_take_of_lt (by omega)]; exact h1
    have ndP : ps.Nodup := by rw [← S.pre]; exact S.nd.sublist (List.take_sublist _ _)
    refine ⟨u, rv, ?_⟩
    rcases S.par y (List.mem_of_getElem? hp) with k | k
    · exact .inl ⟨k, bindL_get ndP hp hu k⟩
    · obtain ⟨c, e⟩ := cell_has (n := s.heap.objs.size + 1) k
      refine .inr ⟨.inl k, c, e, ?_⟩
      have q := x.cell y c e
      rw [bindC_get ndP hp hu (by show scope.names.lookup y ≠ _; rw [k]; decide)] at q
      exact q
  · exact e0.hok.fresh (Nat.le_of_lt (x.above y c (PySem.mem_of_lookup h)))
  · unfold start
    show _ = N.length
    rw [List.length_append, List.length_map, List.length_replicate]
    omega
theorem fn_of {CX : CXT} {P : Program} {w : World} {K : PySem.W.Frag} {mg : Str → Option Value} {base : Heap} {k : Nat} {f : Addr} {name qual : Str} {params : Arguments} {body : List Stmt} {scope : Scope} {dV kV doc pm cdv ct oc : Value} {an od : Option Addr}
    {osl : Array (Option Value)} {N ps : List Str} {sp : Sp} (lk : K.lookup f = some ⟨oc, od, .func (PySem.W.fnOf name qual params body scope dV kV doc pm an cdv ct), osl⟩) (hcd : PySem.W.codeIn K cdv qual = true) (S : FnScope N ps scope)
    (len : ∀ vs H Q E, sp vs H Q E → vs.length = ps.length)
    (hbody : ∀ (A : Around) (outer : List Env) (s : Shared) (H : Hp) (vs : List V) (Q : VK) (E : XK), Room k (A.deeper (envOfC qual scope s.heap.objs.size f cdv)) → sp vs H Q E →
      ∃ t, PSs (cxOf CX P w K mg base N qual scope f cdv A outer s H E) body t ∧ t { nx := fun _ H' => Q .non H', rt := Q } (start N vs) H) :
    FnOk P w K mg base CX (k + 1) f (PySem.W.fnOf name qual params body scope dV kV doc pm an cdv ct) ps sp := by
  refine ⟨len, fun A outer s H args us vs Q E hr e0 hb r hsp => ?_⟩
  have hl := len _ _ _ _ hsp
  have KX : K.In s.heap := e0.mod.kin.keeps fun b o e => (e0.bs b o e).1
  have lim : s.heap.NoLimit := e0.mod.nolimit.keeps fun b o e => (e0.bs b o e).1
  have hkind : ∀ y ∈ ps.zip us, scope.names.lookup y.1 = some .local ∨ (scope.names.lookup y.1 = some .cell ∧ ((cellsFrom (s.heap.objs.size + 1) scope.names []).lookup y.1).isSome = true) := fun ⟨n, v⟩ hy => by
    rcases S.par n (List.of_mem_zip hy).1 with q | q
    · exact .inl q
    · exact .inr ⟨q, PySem.W.cellsFrom_some _ _ _ (.inl q)⟩
  refine codeAny_call_function hr.depth (KX _ _ lk) rfl S.co S.gen rfl (PySem.W.codeRec_of KX hcd) (hb _ _ _ _ ?_)
  refine wpAny_newFunctionEnv_cells S.kind hkind fun env he s1 x => ?_
  subst he
  refine ⟨lim.keeps x.toInCall.keep, codeAny_func ?_⟩
  obtain ⟨t, ht, hq⟩ := hbody A outer s H vs Q E (hr.deeper _) hsp
  have I : Inv (cxOf CX P w K mg base N qual scope f cdv A outer s H E) [] (start N vs) H s1 := inv_start S hr.hd e0 hl r x
  refine wpAny_mono (ht [] s1 (start N vs) H _ I hq) (fun fl s' hs => ?_) fun e s' hs => hs
  have fin : ∀ {σ' : St} {H' : Hp} {v : V} {u : Value}, Inv (cxOf CX P w K mg base N qual scope f cdv A outer s H E) [] σ' H' s' → RelV v u → Q v H' → CE outer P w H s Q u s' :=
    fun {σ' H' v u} J rv q => ⟨v, H', J.os, J.bare, J.base, J.hok, rv, q⟩
  cases fl with
  | ret u =>
    obtain ⟨v, σ', H', J, rv, q⟩ := hs
    exact fin J rv q
  | next =>
    obtain ⟨σ', H', J, q⟩ := hs
    exact fin (v := V.non) (u := Value.none) J rfl q
  | brk =>
    obtain ⟨_, _, _, q⟩ := hs
    exact False.elim q
  | cont =>
    obtain ⟨_, _, _, q⟩ := hs
    exact False.elim q
end L2
namespace L2
open PySem PySem.Spec PyProof.Rows
section
variable {X : Cx} {x : Str} {p pos : Pos} {e : Expr} {es : List Expr} {t : TA} {id T : String} {r : List V → Hp → VK → Prop}
def tCB (r : List V → Hp → VK → Prop) (t : TA) : TE := fun σ H Q => t σ H fun vs H1 => r vs H1 Q
theorem pe_callB (hc : CallR X (.builtin id) r) (hg : Gl X x) (hm : X.mg x = none) (hv : bootBuiltins x = some (.builtin id)) (ha : PA X (e :: es) t) (hn : x ≠ "__name__" := by decide) (hdb : (x == ("__debug__" : Str)) = false := by decide)
    (he : starEach (e :: es) X.env = (false, eval e X.env) :: starEach es X.env := by rfl) (hpl : (backTo pos (starEach es X.env)).any (·.1) = false := by rfl) : PE X (.Call (.Name x p) (e :: es) [] pos) (tCB r t) := by
  intro pins s σ H Q I h
  refine wpAny_Call_Name_kw (ld_blt I hg hm hv ?_ hn hdb)
  exact PyProof.Rows.callWith_builtin1 (thn (ha pos pins s σ H _ I h) fun us s1 ⟨vs, H1, I1, r1, q1⟩ => hc pins s1 σ H1 vs us Q I1 r1 q1) he hpl
end
end L2
namespace HT
open PySem PyProof.Rows
section
open PySem.SeqAt
open PySem.AutoSeq1 (wpAny_loadPart')
open PySem.MeetsSeq PySem.MeetsSeq2 PySem.MeetsSeq3
end
section
variable {prog : Program} {w : World} {A : Around} {E : Value → Shared → Prop} {s : Shared}
def sIx (n d : Nat) : Option Int → Nat
  | none => d
  | some v => if v < 0 then (v + (n : Int)).toNat else min v.toNat n
theorem sIx_none (n d : Nat) : sIx n d none = d := rfl
theorem sIx_nat (n d k : Nat) : sIx n d (some (k : Int)) = min k n := by
  show (if (k : Int) < 0 then ((k : Int) + (n : Int)).toNat else min (k : Int).toNat n) = min k n
  rw [if_neg (by omega), Int.toNat_natCast]
theorem sIx_le (n d : Nat) (hd : d ≤ n) (o : Option Int) : sIx n d o ≤ n := by
  cases o with
  | none => exact hd
  | some v =>
    show (if v < 0 then (v + (n : Int)).toNat else min v.toNat n) ≤ n
    by_cases hv : v < 0
    · rw [if_pos hv]; omega
    · rw [if_neg hv]; exact Nat.min_le_right _ _
theorem clip_eq (v : Int) (n d : Nat) : (if v < 0 then max (v + (n : Int)) 0 else min v (n : Int)) = ((sIx n d (some v) : Nat) : Int) := by
  show (if v < 0 then max (v + (n : Int)) 0 else min v (n : Int)) = (((if v < 0 then (v + (n : Int)).toNat else min v.toNat n) : Nat) : Int)
  by_cases hv : v < 0
  · simp only [if_pos hv]; omega
  · simp only [if_neg hv]; omega
theorem adjust_gen (lo hi : Option Int) (n : Nat) : Builtin.Slice.sliceAdjust lo hi 1 (n : Int) = (((sIx n 0 lo : Nat) : Int), ((sIx n n hi : Nat) : Int)) := by
  have h1 : ¬ ((1 : Int) < 0) := by omega
  unfold Builtin.Slice.sliceAdjust
  simp only [h1, if_false]
  refine Prod.ext ?_ ?_
  · cases lo with
    | none => rfl
    | some v => exact clip_eq v n 0
  · cases hi with
    | none => rfl
    | some v => exact clip_eq v n n
theorem places_gen (i j : Nat) : Builtin.Slice.slicePlaces (i : Int) (j : Int) 1 = j - i := by
  unfold Builtin.Slice.slicePlaces
  have h1 : (1 : Int) > 0 := by omega
  simp only [h1, if_true, Int.ediv_one]
  split <;> omega
theorem slicePart_ {v : Value} {o : Option Int} {Q : Option Int → Shared → Prop} (p : IsPart v o) (h : Q o s) : wpAny (model prog w) A (Builtin.Slice.slicePartIndex v) Q E s := by
  cases p with
  | none => exact slicePart_none h
  | int i t => exact slicePart_int h
theorem sliceApplied_gen {sl : Addr} {vl vu : Value} {lo hi : Option Int} {n : Nat} {Q : Int × Int × Nat → Shared → Prop} (hs : s.heap.IsSliceOf sl vl vu .none) (pl : IsPart vl lo) (pu : IsPart vu hi)
    (h : Q (((sIx n 0 lo : Nat) : Int), 1, sIx n n hi - sIx n 0 lo) s) : wpAny (model prog w) A (Builtin.Slice.sliceApplied (.ref sl) (pure (n : Int))) Q E s := by
  obtain ⟨os, hos, hcs, hds⟩ := id hs
  unfold Builtin.Slice.sliceApplied Builtin.Slice.sliceFields
  refine wpAny_bind (wpAny_bind (wpAny_field hos hds (x := vl) rfl (wpAny_bind (wpAny_field hos hds (x := vu) rfl (wpAny_bind (wpAny_field hos hds (x := .none) rfl (wpAny_pure ?_)))))))
  refine wpAny_bind (slicePart_none ?_)
  show wpAny _ _ (if ((1 : Int) == 0) = true then _ else _) _ _ s
  rw [if_neg (by decide)]
  refine wpAny_bind (slicePart_ pl (wpAny_bind (slicePart_ pu (wpAny_bind (wpAny_pure ?_)))))
  show wpAny _ _ (match Builtin.Slice.sliceAdjust lo hi 1 (n : Int) with | (lo, hi) => pure (lo, (1 : Int), Builtin.Slice.slicePlaces lo hi 1)) _ _ s
  rw [adjust_gen lo hi n]
  show wpAny _ _ (pure (((sIx n 0 lo : Nat) : Int), (1 : Int), Builtin.Slice.slicePlaces ((sIx n 0 lo : Nat) : Int) ((sIx n n hi : Nat) : Int) 1)) _ _ s
  rw [places_gen]
  exact wpAny_pure h
theorem pick_gen (xs : Array Value) (i k : Nat) : ((List.range k).filterMap fun (m : Nat) => xs[((i : Int) + (m : Int) * 1).toNat]?).toArray = ((xs.toList.drop i).take k).toArray := by
  have e : (fun (m : Nat) => xs[((i : Int) + (m : Int) * 1).toNat]?) = fun m => xs[i + m]? := by
    funext m
    have : ((i : Int) + (m : Int) * 1).toNat = i + m := by omega
    rw [this]
  rw [e]
  have := pick_run xs i k
  rw [List.filterMap_map] at this
  have e2 : ((fun x => xs[x]?) ∘ fun x => i + x) = fun m => xs[i + m]? := rfl
  rw [e2] at this
  rw [this]
theorem getItem_tuple_cut {t sl : Addr} {items : Array Value} {vl vu : Value} {lo hi : Option Int} {Q : Value → Shared → Prop} (ht : IsTup s.heap t items) (hs : s.heap.IsSliceOf sl vl vu .none) (pl : IsPart vl lo) (pu : IsPart vu hi)
    (hw : ¬ (sIx items.size 0 lo = 0 ∧ sIx items.size items.size hi = items.size))
    (h : Q (.ref s.heap.objs.size) { s with heap := s.heap.push { cls := .type "tuple", data := .seq ((items.toList.drop (sIx items.size 0 lo)).take (sIx items.size items.size hi - sIx items.size 0 lo)).toArray } })
    (hsz : items.size ≤ sizeLine) : wpAny (model prog w) A (getItem (.ref t) (.ref sl)) Q E s := by
  have htake : sizeOk (.seq ((items.toList.drop (sIx items.size 0 lo)).take (sIx items.size items.size hi - sIx items.size 0 lo)).toArray) := by
    show ((items.toList.drop (sIx items.size 0 lo)).take (sIx items.size items.size hi - sIx items.size 0 lo)).toArray.size ≤ sizeLine
    rw [List.size_toArray, List.length_take, List.length_drop, Array.length_toList]
    omega
  have hj : sIx items.size items.size hi ≤ items.size := sIx_le _ _ (Nat.le_refl _) hi
  obtain ⟨os, hos, hcs, hds⟩ := id hs
  have hTs : s.TypeIs (.ref sl) "slice" := ⟨os, hos, hcs⟩
  unfold getItem
  try with_reducible refine wpAny_holding ?_
  first | refine wpAny_bind (wpAny_pure ?_) | skip
  refine wpAny_bind (wpAny_sequenceKey ht.typeIs (by decide) ?_)
  refine wpAny_bind (wpAny_callSpecial?_slot (name := Str.ofString "__getitem__") ht.typeIs PyProof.Rows.slot_tuple_getitem
    (wpAny_call_entry PyProof.Rows.slot_tuple_getitem ht.typeIs entry_tuple_getitem ?_ (args_tuple_getitem _ _)))
  show wpAny _ _ (Builtin.Tuple.tupleItemsOf (.ref t) >>= _) _ _ s
  refine wpAny_bind (tupleItemsOf_ ht ?_)
  refine wpAny_bind (wpAny_typeOf hTs ?_)
  rw [if_pos (by decide)]
  refine wpAny_bind (sliceApplied_gen hs pl pu ?_)
  have hno : ¬ ((((sIx items.size 0 lo : Nat) : Int) == 0 && (1 : Int) == 1 && (sIx items.size items.size hi - sIx items.size 0 lo) == items.size) = true) := by
    intro q
    rw [Bool.and_eq_true, Bool.and_eq_true] at q
    have q1 : ((sIx items.size 0 lo : Nat) : Int) = 0 := eq_of_beq q.1.1
    have q2 : sIx items.size items.size hi - sIx items.size 0 lo = items.size := eq_of_beq q.2
    exact hw ⟨by omega, by omega⟩
  show wpAny _ _ (if (((sIx items.size 0 lo : Nat) : Int) == 0 && (1 : Int) == 1 && (sIx items.size items.size hi - sIx items.size 0 lo) == items.size) = true then _ else _) _ _ s
  rw [if_neg hno, pick_gen]
  first
    | exact wpAny_bind (m := Builtin.Tuple.tupleExact _) (wpAny_newObj_type (wpAny_pure ⟨_, rfl, wpAny_pure h⟩) htake)
    | exact wpAny_bind (m := Builtin.Tuple.tupleExact _) (wpAny_newObj_type (wpAny_bind (wpAny_pure (wpAny_pure ⟨_, rfl, wpAny_pure h⟩))) htake)
    | exact wpAny_bind (wpAny_bind (m := Builtin.Tuple.tupleExact _) (wpAny_newObj_type (wpAny_pure (wpAny_pure ⟨_, rfl, wpAny_pure h⟩)) htake))
    | exact wpAny_bind (wpAny_bind (m := Builtin.Tuple.tupleExact _) (wpAny_newObj_type (wpAny_pure ⟨_, rfl, wpAny_pure h⟩) htake))
end
end HT
namespace L2
open PySem PySem.Spec PyProof.Rows
abbrev TO := St → Hp → (Option Int → Hp → Prop) → Prop
def PO (X : Cx) (e : Option Expr) (t : TO) : Prop :=
  ∀ (pins : List (Addr × Obj)) (s : Shared) (σ : St) (H : Hp) (Q : Option Int → Hp → Prop), Inv X pins σ H s → t σ H Q →
    wpAny (model X.prog X.w) X.A (evalPart e X.env) (fun u s' => ∃ o H', Inv X pins σ H' s' ∧ IsPart u o ∧ Q o H') X.xe s
def tNoPart : TO := fun _ H Q => Q none H
def tPart (t : TE) : TO := fun σ H Q => t σ H fun x H1 => ∃ i, x = .int i ∧ Q (some i) H1
section
variable {X : Cx} {e : Expr} {te : TE} {lo hi : Option Expr} {tl th : TO} {pos p2 : Pos}
theorem po_none : PO X none tNoPart := by
  intro pins s σ H Q I h
  rw [evalPart_none]
  exact wpAny_pure ⟨none, H, I, .none, h⟩
theorem po_some (h : PE X e te) : PO X (some e) (tPart te) := by
  intro pins s σ H Q I hw
  rw [evalPart_some]
  refine thn (h pins s σ H _ I hw) fun u s1 ⟨x, H1, I1, r1, q1⟩ => ?_
  obtain ⟨i, rfl, q⟩ := q1
  obtain ⟨t, rfl⟩ := r1
  exact ⟨some i, H1, I1, .int i t, q⟩
def SlR (X : Cx) (r : V → Option Int → Option Int → Hp → VK → Prop) : Prop :=
  ∀ (pins : List (Addr × Obj)) (s : Shared) (σ : St) (H : Hp) (x : V) (v vl vu : Value) (lo hi : Option Int) (sl : Addr) (Q : VK), Inv X pins σ H s → RelV x v → s.heap.IsSliceOf sl vl vu .none → IsPart vl lo → IsPart vu hi → r x lo hi H Q →
    ∃ T id, typeLookup (.type T) "__getitem__" = pure (some (.builtin id)) ∧ s.TypeIs v T ∧ wpAny (model X.prog X.w) X.A (getItem v (.ref sl)) (EP X pins σ Q) X.xe s
def tSl (r : V → Option Int → Option Int → Hp → VK → Prop) (te : TE) (tl th : TO) : TE := fun σ H Q => te σ H fun x H1 => tl σ H1 fun l H2 => th σ H2 fun u H3 => r x l u H3 Q
theorem pe_slice {r : V → Option Int → Option Int → Hp → VK → Prop} (hr : SlR X r) (he : PE X e te) (hl : PO X lo tl) (hu : PO X hi th) : PE X (.Subscript e (.Slice lo hi none p2) pos) (tSl r te tl th) := by
  intro pins s σ H Q I h
  refine Subscript_ (thn (he pins s σ H _ I h) fun v s1 ⟨x, H1, I1, r1, q1⟩ => ?_)
  refine wpAny_Slice (thn (hl pins s1 σ H1 _ I1 q1) fun vl s2 ⟨l, H2, I2, pl, q2⟩ => thn (hu pins s2 σ H2 _ I2 q2) fun vu s3 ⟨u, H3, I3, pu, q3⟩ => ?_)
  rw [evalPart_none]
  refine wpAny_pure ?_
  have I4 : Inv X pins σ H3 { s3 with heap := s3.heap.push { cls := .type "slice", data := .fields #[vl, vu, .none] } } := I3.kept (t' := s3.toks) fun b ob q => Heap.get?_push_of_some _ q
  obtain ⟨T, id, hT, ht, hg⟩ := hr pins { s3 with heap := s3.heap.push { cls := .type "slice", data := .fields #[vl, vu, .none] } } σ H3 x v vl vu l u s3.heap.objs.size Q I4 r1 (Heap.IsSliceOf.new ..) pl pu q3
  show wpAny (model X.prog X.w) X.A (subscriptTail e (.Slice lo hi none p2) v (.ref s3.heap.objs.size)) (EP X pins σ Q) X.xe { s3 with heap := s3.heap.push { cls := .type "slice", data := .fields #[vl, vu, .none] } }
  exact tail_any (ops := [.ref s3.heap.objs.size, v]) ht hT hg (by with_unfolding_all rfl)
def cutV (xs : List V) (lo hi : Option Int) : List V := (xs.drop (HT.sIx xs.length 0 lo)).take (HT.sIx xs.length xs.length hi - HT.sIx xs.length 0 lo)
theorem cutV_length (xs : List V) (lo hi : Option Int) : (cutV xs lo hi).length ≤ xs.length := by
  unfold cutV
  rw [List.length_take, List.length_drop]
  omega
def rSlT (K : PySem.W.Frag) : V → Option Int → Option Int → Hp → VK → Prop := fun x lo hi H Q => ∃ a xs, x = .ref a ∧ SqT K H a xs ∧
  ¬ (HT.sIx xs.length 0 lo = 0 ∧ HT.sIx xs.length xs.length hi = xs.length) ∧ ∀ p, H p = none → Q (.ref p) (upd H p (.tup (cutV xs lo hi)))
theorem sl_tup : SlR X (rSlT X.K) := by
  intro pins s σ H x v vl vu lo hi sl Q I rx hs pl pu h
  obtain ⟨a, xs, rfl, hx, hw, q⟩ := h
  cases rx
  obtain ⟨its, r, ht, hz⟩ := I.tuple hx
  have hlen : its.toArray.size = xs.length := by rw [List.size_toArray]; exact r.length.symm
  refine ⟨"tuple", _, PyProof.Rows.slot_tuple_getitem.lookup, ht.typeIs, ?_⟩
  refine HT.getItem_tuple_cut ht hs pl pu (by rw [hlen]; exact hw) ?_ (by rw [hlen]; exact hz)
  rw [hlen]
  refine ⟨.ref s.heap.objs.size, _, I.laid (t' := s.toks) (o := .tup (cutV xs lo hi)) (fun b ob q => Heap.get?_push_of_some _ q) (Nat.le_refl _) ?_, rfl, q _ (I.hok.fresh (Nat.le_refl _))⟩
  exact ⟨Nat.le_trans (cutV_length xs lo hi) hz, _, (r.drop (HT.sIx xs.length 0 lo)).take (HT.sIx xs.length xs.length hi - HT.sIx xs.length 0 lo), IsTup.new _ _⟩
end
end L2
namespace L2
open PySem PySem.Spec PyProof.Rows
def ixN (n : Nat) (i : Int) : Option Nat := if 0 ≤ i then (if i < n then some i.toNat else none) else if -(n : Int) ≤ i then some (i + n).toNat else none
def atI {α : Type} (xs : List α) (i : Int) : Option α := (ixN xs.length i).bind fun j => xs[j]?
theorem ixN_seq {n : Nat} {i : Int} {j : Nat} (h : ixN n i = some j) : seqIndex? i n = some j ∧ j < n ∧ -(n : Int) ≤ i ∧ i < n := by
  unfold ixN at h
  by_cases h0 : 0 ≤ i
  · rw [if_pos h0] at h
    by_cases h1 : i < n
    · rw [if_pos h1] at h
      have e : i.toNat = j := Option.some.inj h
      exact ⟨by rw [seqIndex_of h0 h1, e], by omega, by omega, h1⟩
    · rw [if_neg h1] at h; cases h
  · rw [if_neg h0] at h
    by_cases h1 : -(n : Int) ≤ i
    · rw [if_pos h1] at h
      have e : (i + n).toNat = j := Option.some.inj h
      exact ⟨by rw [seqIndex_neg (by omega) h1, e], by omega, h1, by omega⟩
    · rw [if_neg h1] at h; cases h
theorem atI_get {α : Type} {xs : List α} {i : Int} {v : α} (h : atI xs i = some v) : ∃ j, seqIndex? i xs.length = some j ∧ xs[j]? = some v ∧ j < xs.length ∧ -(xs.length : Int) ≤ i ∧ i < xs.length := by
  unfold atI at h
  cases e : ixN xs.length i with
  | none => rw [e] at h; cases h
  | some j =>
    rw [e] at h
    obtain ⟨h1, h2, h3, h4⟩ := ixN_seq e
    exact ⟨j, h1, h, h2, h3, h4⟩
def PlainIx (b : Expr) : Prop := ∀ o i, subscripted b false o i = operate [o, i] (getItem o i)
def IxR (X : Cx) (r : R2) : Prop :=
  ∀ (value slice : Expr) (pins : List (Addr × Obj)) (s : Shared) (σ : St) (H : Hp) (x y : V) (v u : Value) (Q : VK), Inv X pins σ H s → RelV x v → RelV y u → r x y H Q →
    subscripted slice false v u = operate [v, u] (getItem v u) → wpAny (model X.prog X.w) X.A (subscriptTail value slice v u) (EP X pins σ Q) X.xe s
def MtR (X : Cx) (id : String) (r : V → List V → Hp → VK → Prop) : Prop :=
  ∀ (pins : List (Addr × Obj)) (s : Shared) (σ : St) (H : Hp) (x : V) (xs : List V) (v : Value) (us : List Value) (Q : VK), Inv X pins σ H s → RelV x v → Vals xs us → r x xs H Q →
    wpAny (model X.prog X.w) X.A (call (.builtin id) (v :: us)) (EP X pins σ Q) X.xe s
section
variable {X : Cx} {a b : Expr} {ta tb : TE} {pos : Pos}
theorem pe_ix {r : R2} (hr : IxR X r) (ha : PE X a ta) (hb : PE X b tb) (hs : PlainIx b) : PE X (.Subscript a b pos) (tOp r ta tb) := by
  intro pins s σ H Q I h
  exact Subscript_ (binT ha hb I h fun v u s2 x y H2 I2 rx ry q => hr a b pins s2 σ H2 x y v u Q I2 rx ry q (hs _ _))
def rIxL (K : PySem.W.Frag) : R2 := fun x y H Q => ∃ p xs i v, x = .ref p ∧ y = .int i ∧ SqL K H p xs ∧ atI xs i = some v ∧ Q v H
def rIxT (K : PySem.W.Frag) : R2 := fun x y H Q => ∃ p xs i v, x = .ref p ∧ y = .int i ∧ SqT K H p xs ∧ atI xs i = some v ∧ Q v H
theorem ix_list : IxR X (rIxL X.K) := by
  intro value slice pins s σ H x y v u Q I rx ry h hs
  obtain ⟨p, xs, i, z, rfl, rfl, hq, he, q⟩ := h
  cases rx
  obtain ⟨t, rfl⟩ := ry
  obtain ⟨its, r, pl, hz⟩ := I.list hq
  obtain ⟨j, h1, h2, h3, h4, h5⟩ := atI_get he
  obtain ⟨w, ew, rw'⟩ := r.get h2
  have hl := r.length
  have hn := line63
  have fin : EP X pins σ Q w s := ⟨z, H, I, rw', q⟩
  by_cases h0 : 0 ≤ i
  · have hj : i.toNat = j := by
      rw [seqIndex_of h0 h5] at h1
      exact Option.some.inj h1
    exact item_listR pl.isList h0 (by omega) (by rw [hj]; simpa using ew) fin hs
  · have hj : (i + (its.toArray.size : Int)).toNat = j := by
      rw [seqIndex_neg (by omega) h4] at h1
      rw [List.size_toArray, ← hl]
      exact Option.some.inj h1
    exact subscriptTail_builtinR (x := w) pl.isList.typeIs slot_list_getitem.lookup
      (wpAny_getItem_list_neg (Q := fun r s' => r = w ∧ EP X pins σ Q r s') pl.isList (by omega) (by rw [List.size_toArray] <;> omega) (by omega) (by rw [hj]; simpa using ew) ⟨rfl, fin⟩) hs
theorem ix_tup : IxR X (rIxT X.K) := by
  intro value slice pins s σ H x y v u Q I rx ry h hs
  obtain ⟨p, xs, i, z, rfl, rfl, hq, he, q⟩ := h
  cases rx
  obtain ⟨t, rfl⟩ := ry
  obtain ⟨its, r, pl, hz⟩ := I.tuple hq
  obtain ⟨j, h1, h2, h3, h4, h5⟩ := atI_get he
  obtain ⟨w, ew, rw'⟩ := r.get h2
  have hl := r.length
  have hn := line63
  have fin : EP X pins σ Q w s := ⟨z, H, I, rw', q⟩
  exact subscriptTail_builtinR (x := w) pl.typeIs slot_tuple_getitem.lookup
    (getItem_tuple (j := j) (Q := fun r s' => r = w ∧ EP X pins σ Q r s') pl (by omega) (by omega) (by rw [List.size_toArray, ← hl]; exact h1) (by simpa using ew) ⟨rfl, fin⟩) hs
theorem slice_bounds (lo hi : Option Int) (n : Nat) : (sliceBounds lo hi none n).1 = ((HT.sIx n 0 lo : Nat) : Int) ∧ (sliceBounds lo hi none n).2.1 = ((HT.sIx n n hi : Nat) : Int) ∧ (sliceBounds lo hi none n).2.2 = 1 := by
  refine ⟨?_, ?_, rfl⟩
  · cases lo with
    | none => simp [sliceBounds, HT.sIx]
    | some i =>
      simp only [sliceBounds, HT.sIx, Option.getD_none, show (1 : Int) > 0 by decide, if_true]
      by_cases h : i < 0
      · simp only [h, if_true] <;> omega
      · simp only [h, if_false] <;> omega
  · cases hi with
    | none => simp [sliceBounds, HT.sIx]
    | some i =>
      simp only [sliceBounds, HT.sIx, Option.getD_none, show (1 : Int) > 0 by decide, if_true]
      by_cases h : i < 0
      · simp only [h, if_true] <;> omega
      · simp only [h, if_false] <;> omega
theorem slicePick_cut (its : List Value) (lo hi : Option Int) : slicePick its.toArray lo hi none = ((its.drop (HT.sIx its.length 0 lo)).take (HT.sIx its.length its.length hi - HT.sIx its.length 0 lo)).toArray := by
  obtain ⟨h1, h2, h3⟩ := slice_bounds lo hi its.toArray.size
  unfold slicePick
  rw [h1, h2, h3]
  simp only [sliceRange_one, pick_run, List.size_toArray] <;> rfl
def rSlL (K : PySem.W.Frag) : V → Option Int → Option Int → Hp → VK → Prop := fun x lo hi H Q => ∃ a xs, x = .ref a ∧ SqL K H a xs ∧ ∀ p, H p = none → Q (.ref p) (upd H p (.lst (cutV xs lo hi)))
theorem sl_list : SlR X (rSlL X.K) := by
  intro pins s σ H x v vl vu lo hi sl Q I rx hs pl pu h
  obtain ⟨a, xs, rfl, hx, q⟩ := h
  cases rx
  obtain ⟨its, r, ht, hz⟩ := I.list hx
  have hlen := r.length
  refine ⟨"list", _, slot_list_getitem.lookup, ht.isList.typeIs, ?_⟩
  refine wpAny_getItem_list_slice ht.isList hs pl pu .none (by simp) ?_ (by rw [List.size_toArray] <;> omega)
  rw [slicePick_cut, ← hlen]
  refine ⟨.ref s.heap.objs.size, _, I.laid (t' := s.toks) (o := .lst (cutV xs lo hi)) (fun b ob q => Heap.get?_push_of_some _ q) (Nat.le_refl _) ?_, rfl, q _ (I.hok.fresh (Nat.le_refl _))⟩
  exact ⟨Nat.le_trans (cutV_length xs lo hi) hz, _, 0, (r.drop (HT.sIx xs.length 0 lo)).take (HT.sIx xs.length xs.length hi - HT.sIx xs.length 0 lo), Heap.get?_push_size _ rfl⟩
theorem call_len_seq : CallR X (.builtin "len") (fun xs H Q => ∃ p ys, xs = [.ref p] ∧ (SqL X.K H p ys ∨ SqT X.K H p ys) ∧ Q (.int ys.length) H) := by
  intro pins s σ H xs us Q I r h
  obtain ⟨p, ys, rfl, hq, q⟩ := h
  obtain ⟨u, rfl, rx⟩ := vals1 r
  cases rx
  have hn := line63
  rcases hq with hq | hq
  · obtain ⟨its, r', pl, hz⟩ := I.list hq
    have hlen := r'.length
    exact Calls.call_len_list pl.isList (by simp only [List.size_toArray] <;> omega) ⟨.int ys.length, H, I.tok _, ⟨s.toks + 1, by rw [List.size_toArray, hlen]⟩, q⟩
  · obtain ⟨its, r', pl, hz⟩ := I.tuple hq
    have hlen := r'.length
    exact len_tuple pl (by simp only [List.size_toArray] <;> omega) ⟨.int ys.length, H, I.tok _, ⟨s.toks + 1, by rw [List.size_toArray, hlen]⟩, q⟩
def tyV (K : PySem.W.Frag) (T : String) (x : V) (H : Hp) : Prop := match x with
  | .str _ => T = "str"
  | .int _ => T = "int"
  | .ref p => (T = "list" ∧ ∃ xs, SqL K H p xs) ∨ (T = "tuple" ∧ ∃ o, K.lookup p = some o ∧ o.cls = .type "tuple" ∧ o.dict = none) ∨
      (T = "dict" ∧ ((∃ kvs, H p = some (.dK kvs)) ∨ ∃ kvs, H p = some (.dT kvs))) ∨ (T = "set" ∧ ∃ S n, H p = some (.set S n))
  | _ => False
theorem tyV_is {pins : List (Addr × Obj)} {σ : St} {H : Hp} {s : Shared} {T : String} {x : V} {v : Value} (I : Inv X pins σ H s) (r : RelV x v) (ty : tyV X.K T x H) :
    s.TypeIs v T ∧ ∀ a, v = .ref a → ∃ ob, s.heap.get? a = some ob ∧ ob.dict = none := by
  cases x with
  | str z =>
    obtain ⟨t, rfl⟩ := r
    cases (show T = "str" from ty)
    exact ⟨typeIs_str s z t, fun _ e => nomatch e⟩
  | int i =>
    obtain ⟨t, rfl⟩ := r
    cases (show T = "int" from ty)
    exact ⟨typeIs_int s i t, fun _ e => nomatch e⟩
  | ref p =>
    cases r
    rcases ty with ⟨rfl, xs, hq⟩ | ⟨rfl, o, hk, hc, hd⟩ | ⟨rfl, hk⟩ | ⟨rfl, S, n, hk⟩
    · obtain ⟨its, _, pl, _⟩ := I.list hq
      refine ⟨pl.isList.typeIs, fun a e => ?_⟩
      cases e
      obtain ⟨o, n, e, c, hd, _⟩ := pl
      exact ⟨o, e, hd⟩
    · refine ⟨⟨o, I.kIn p o hk, hc⟩, fun a e => ?_⟩
      cases e
      exact ⟨o, I.kIn _ o hk, hd⟩
    · have z : ∃ o, s.heap.get? p = some o ∧ o.ExactDict := by
        rcases hk with ⟨kvs, hk⟩ | ⟨kvs, hk⟩
        · obtain ⟨_, _, _, _, o, _, _, e, ex, _⟩ := I.hok p _ hk
          exact ⟨o, e, ex⟩
        · obtain ⟨_, _, _, _, o, _, _, e, ex, _⟩ := I.hok p _ hk
          exact ⟨o, e, ex⟩
      obtain ⟨o, e, ex⟩ := z
      refine ⟨⟨o, e, ex.1⟩, fun a e2 => ?_⟩
      cases e2
      exact ⟨o, e, ex.2.1⟩
    · obtain ⟨o, _, _, _, e, ex, _⟩ := I.hok p _ hk
      refine ⟨⟨o, e, ex.1⟩, fun a e2 => ?_⟩
      cases e2
      exact ⟨o, e, ex.2.1⟩
  | _ => exact False.elim ty
def tBM (K : PySem.W.Frag) (T : String) (r : V → List V → Hp → VK → Prop) (to : TE) (t : TA) : TE := fun σ H Q => to σ H fun x H1 => tyV K T x H1 ∧ t σ H1 fun xs H2 => r x xs H2 Q
variable {o e : Expr} {es : List Expr} {to : TE} {t : TA} {name : Str} {apos cpos : Pos} {T id : String} {r : V → List V → Hp → VK → Prop}
theorem pe_bm (pa : PlainAttrs T) (slot : Slot T name id) (hty : typeOf (.builtin id) = pure (.type "method_descriptor")) (hm : MtR X id r) (ho : PE X o to) (ha : PA X (e :: es) t)
    (hbase : attributeBase o name X.env (eval o X.env) = eval o X.env := by rfl)
    (hfew : ((backTo cpos (starEach (e :: es) X.env)).all (fun x => !x.1) && (backToKw cpos (keywordEach [] X.env)).all (fun x => x.1.isSome)
      && decide ((e :: es).length + ([] : List Keyword).length + (if ([] : List Keyword).isEmpty then 0 else 1) < 30)) = true := by rfl)
    (hline : (apos.endLine == cpos.line) = true := by rfl) (hs : starEach (e :: es) X.env = (false, eval e X.env) :: starEach es X.env := by rfl) (hplain : (backTo cpos (starEach es X.env)).any (·.1) = false := by rfl) :
    PE X (.Call (.Attribute o name apos) (e :: es) [] cpos) (tBM X.K T r to t) := by
  intro pins s σ H Q I h
  refine wpAny_Call_method_late hbase hfew hline rfl (thn (ho pins s σ H _ I h) fun v s1 ⟨x, H1, I1, r1, ty, q1⟩ => ?_)
  obtain ⟨h1, h2⟩ := tyV_is I1 r1 ty
  refine ⟨T, id, pa, slot, hty, h1, h2, ?_⟩
  have hA := ha cpos pins s1 σ H1 _ I1 q1
  rw [hs] at hA ⊢
  refine Calls.callWith_builtin (by show (false || (backTo cpos (starEach es X.env)).any (·.1)) = false; rw [hplain] <;> rfl) (Calls.evalArgs_plain ?_)
  exact thn hA fun us s2 ⟨vs, H2, I2, r2, q2⟩ => hm pins s2 σ H2 x vs v us Q I2 r1 r2 q2
end
end L2
namespace L2
open PySem PySem.Spec PyProof.Rows
def MtM (X : Cx) (id : String) (r : V → List V → Hp → VK → Prop) : Prop :=
  ∀ (pins : List (Addr × Obj)) (s : Shared) (σ : St) (H : Hp) (x : V) (xs : List V) (v : Value) (us : List Value) (Q : VK), Inv X pins σ H s → RelV x v → Vals xs us → r x xs H Q →
    wpAny (model X.prog X.w) X.A (call (.builtin id) (v :: us)) (EP X pins σ Q) X.xe s
theorem Vals.one : ∀ {x : V} {us : List Value}, Vals [x] us → ∃ u, us = [u] ∧ RelV x u
  | _, _, .cons r .nil => ⟨_, rfl, r⟩
section
variable {X : Cx} {pins : List (Addr × Obj)} {σ : St} {H : Hp} {s : Shared} {l b : Addr} {xs ys zs : List V}
theorem Inv.lset {its its' : List Value} {n : Nat} {f : Array Value → Array Value} {t' : Nat} (I : Inv X pins σ H s) (hH : H l = some (.lst xs))
    (e : s.heap.get? l = some { cls := .type "list", data := .seq its.toArray n }) (hf : f its.toArray = its'.toArray) (hv : Vals ys its') (hz : ys.length ≤ sizeLine) :
    Inv X pins σ (upd H l (.lst ys)) { s with heap := s.heap.update l (Obj.mapSeq f), toks := t' } := by
  have q := PySem.IsL.update e f
  rw [hf] at q
  refine I.write (x := l) (e := l) (by rw [hH]; exact trivial) (.inl rfl) (fun b' u hb hu => (Heap.get?_update_other s.heap (Obj.mapSeq f) (Ne.symm hb)).trans hu) ⟨_, q⟩ ?_
  exact ⟨hz, its', _, hv, q⟩
theorem Inv.lstM (I : Inv X pins σ H s) (hH : H l = some (.lst xs)) : xs.length ≤ sizeLine ∧ ∃ (its : List Value) (n : Nat), Vals xs its ∧ xs.length = its.length ∧ s.heap.get? l = some { cls := .type "list", data := .seq its.toArray n } := by
  obtain ⟨z, its, n, r, e⟩ := I.hok l _ hH
  exact ⟨z, its, n, r, r.length, e⟩
end
section
variable {X : Cx}
def rAppend : V → List V → Hp → VK → Prop := fun x vs H Q => ∃ l xs y, x = .ref l ∧ vs = [y] ∧ H l = some (.lst xs) ∧ xs.length < sizeLine ∧ Q .non (upd H l (.lst (xs ++ [y])))
theorem mt_append : MtM X "list.append" rAppend := by
  intro pins s σ H x vs v us Q I rx rv h
  obtain ⟨l, xs, y, rfl, rfl, hH, hz, q⟩ := h
  cases rx
  obtain ⟨u, rfl, ru⟩ := rv.one
  obtain ⟨z, its, n, r, hl, e⟩ := I.lstM hH
  refine call_meets F.slot_list_append ⟨_, e, rfl⟩ F.entry_list_append (F.args_list_append_2 _ _) (PySem.list_append l its.toArray n u (by rw [List.size_toArray]; omega)) ⟨e, ?_⟩
  refine ⟨.non, _, I.lset (its' := its ++ [u]) hH e (by simp) (r.append (.cons ru .nil)) ?_, rfl, q⟩
  rw [List.length_append, List.length_singleton]
  omega
end
section
variable {prog : Program} {w : World} {A : Around} {E : Value → Shared → Prop} {s : Shared}
end
section
variable {X : Cx}
end
end L2
namespace L2
open PySem PySem.Spec PyProof.Rows
theorem Vals.ints : ∀ {ns : List Int} {us : List Value}, Vals (ns.map V.int) us → IntsAre us ns
  | [], us, h => by
    rw [List.map_nil] at h
    cases h
    exact IntsAre.nil
  | n :: ns, us, h => by
    rw [List.map_cons] at h
    cases h with
    | cons r t =>
      obtain ⟨k, rfl⟩ := r
      exact IntsAre.cons n k (Vals.ints t)
theorem vals_of_ints : ∀ {us : List Value} {ns : List Int}, IntsAre us ns → Vals (ns.map V.int) us
  | _, _, .nil => by rw [List.map_nil]; exact Paired.nil
  | _, _, .cons n t h => by rw [List.map_cons]; exact Paired.cons (show RelV (V.int n) (Value.int n t) from ⟨t, rfl⟩) (vals_of_ints h)
theorem Vals.bls : ∀ {bs : List Bool} {us : List Value}, Vals (bs.map V.bl) us → us = bs.map Value.bool
  | [], us, h => by
    rw [List.map_nil] at h
    cases h
    rfl
  | b :: bs, us, h => by
    rw [List.map_cons] at h
    cases h with
    | cons r t =>
      cases r
      rw [Vals.bls t, List.map_cons]
theorem Vals.ref1 {a : Addr} {us : List Value} (r : Vals [V.ref a] us) : us = [Value.ref a] := by
  cases r with
  | cons r t =>
    cases t
    cases r
    rfl
section
variable {prog : Program} {w : World} {A : Around} {E : Value → Shared → Prop} {s : Shared} {l : Addr} {its : List Value} {ns : List Int} {Q : Value → Shared → Prop}
theorem sum_raw (hh : A.handled = none) (hl : s.heap.IsList l its.toArray) (hi : IntsAre its ns)
    (h : ∀ h' tk t', (∀ b o, s.heap.get? b = some o → h'.get? b = some o) → Q (.int ns.sum t') { s with heap := h', toks := tk }) : wpAny (model prog w) A (call (.builtin "sum") [.ref l]) Q E s := by
  obtain ⟨xs, e⟩ := hi.allInts.items
  have hn : numsOf (intItems xs).toList = ns := by rw [← e]; exact hi.numsOf
  rw [nums_intItems] at hn
  rw [e] at hl
  refine PySem.sum_intListG hh hl fun h' tk t' hk => ?_
  have := h h' tk t' hk
  rw [preSum_eq, List.take_of_length_le (by simp), hn]; exact this
end
section
variable {X : Cx}
def rSum (K : PySem.W.Frag) : List V → Hp → VK → Prop := fun vs H Q => ∃ (a : Addr) (ns : List Int), vs = [V.ref a] ∧ SqL K H a (ns.map V.int) ∧ Q (.int ns.sum) H
theorem cr_sum (hc : X.calm = true) : CallR X (.builtin "sum") (rSum X.K) := by
  intro pins s σ H vs us Q I r h
  obtain ⟨a, ns, rfl, hs, q⟩ := h
  obtain ⟨its, rv, hl, _⟩ := I.list hs
  rw [Vals.ref1 r]
  exact sum_raw (I.ok.hd hc) hl.isList rv.ints fun h' tk t' hk => ⟨.int _, H, I.kept hk, ⟨_, rfl⟩, q⟩
end
section
variable {X : Cx}
end
section
variable {X : Cx}
end
theorem iter_any {prog : Program} {w : World} {A : Around} {E : Value → Shared → Prop} {s : Shared} {l : Addr} {items : Array Value} {Q : Value → Shared → Prop} (hl : s.heap.IsList l items)
    (h : ∀ s₂ : Shared, s₂ = { s with heap := s.heap.push { cls := .type "list_iterator", data := .fields #[.ref l, .int 0 0] } } →
      (s₂.heap.IsListIter s.heap.objs.size l 0 ∧ s₂.heap.IsList l items) → l ≠ s.heap.objs.size → Q (.ref s.heap.objs.size) s₂) : wpAny (model prog w) A (pyIter (.ref l)) Q E s := by
  have hlt : l < s.heap.objs.size := by obtain ⟨_, e, _⟩ := hl; exact Heap.lt_size e
  exact wpAny_pyIter_list hl (h _ rfl ⟨⟨_, Heap.get?_push_size _ rfl, rfl, rfl⟩, hl.push _⟩ (Nat.ne_of_lt hlt))
theorem truth_bools {prog : Program} {w : World} {A : Around} {bs : List Bool} {its : List Value} (e : its = bs.map Value.bool) :
    TruthOf prog w A (fun i v => its.toArray[i]? = some v) (fun i => bs.getD i false) := fun i v s Q E hv hq => by
  have hv' : its[i]? = some v := by simpa using hv
  rw [e, List.getElem?_map] at hv'
  obtain ⟨b, hb, rfl⟩ := Option.map_eq_some_iff.mp hv'
  have hg : bs.getD i false = b := by rw [List.getD_eq_getElem?_getD, hb] <;> rfl
  have hq' : Q (bs.getD i false) s := hq
  rw [hg] at hq'
  exact wpAny_truthy_bool hq'
theorem any_range : ∀ bs : List Bool, (List.range bs.length).any (fun i => bs.getD i false) = bs.any id
  | [] => rfl
  | b :: bs => by
    rw [List.length_cons, List.range_succ_eq_map, List.any_cons, List.any_map, List.any_cons, ← any_range bs]
    all_goals rfl
theorem all_range : ∀ bs : List Bool, (List.range bs.length).all (fun i => bs.getD i false) = bs.all id
  | [] => rfl
  | b :: bs => by
    rw [List.length_cons, List.range_succ_eq_map, List.all_cons, List.all_map, List.all_cons, ← all_range bs]
    all_goals rfl
section
variable {X : Cx}
def rAny (K : PySem.W.Frag) : List V → Hp → VK → Prop := fun vs H Q => ∃ (a : Addr) (bs : List Bool), vs = [V.ref a] ∧ SqL K H a (bs.map V.bl) ∧ Q (.bl (bs.any id)) H
def rAll (K : PySem.W.Frag) : List V → Hp → VK → Prop := fun vs H Q => ∃ (a : Addr) (bs : List Bool), vs = [V.ref a] ∧ SqL K H a (bs.map V.bl) ∧ Q (.bl (bs.all id)) H
theorem cr_any (hc : X.calm = true) : CallR X (.builtin "any") (rAny X.K) := by
  intro pins s σ H vs us Q I r h
  obtain ⟨a, bs, rfl, hs, q⟩ := h
  obtain ⟨its, rv, hl, _⟩ := I.list hs
  rw [Vals.ref1 r]
  have hb := rv.bls
  refine call_any_walk (iter_any hl.isList fun s₂ e2 st hne => ?_)
  subst e2
  refine ⟨_, _, _, _, _, _, _, rfl, Walks.list (A := X.A.in1) (I.ok.hd hc) _ a hne its.toArray, st, truth_bools hb, fun h' tk hk => ?_⟩
  refine ⟨.bl _, H, I.kept fun b o eo => hk b o (fun hmem => ?_) (Heap.get?_push_of_some _ eo), ?_, q⟩
  · rcases List.mem_cons.mp hmem with e1 | hmem
    · exact absurd (e1 ▸ Heap.lt_size eo) (Nat.lt_irrefl _)
    · cases hmem
  · show Value.bool _ = Value.bool _
    rw [← any_range, hb, List.size_toArray, List.length_map]
theorem cr_all (hc : X.calm = true) : CallR X (.builtin "all") (rAll X.K) := by
  intro pins s σ H vs us Q I r h
  obtain ⟨a, bs, rfl, hs, q⟩ := h
  obtain ⟨its, rv, hl, _⟩ := I.list hs
  rw [Vals.ref1 r]
  have hb := rv.bls
  refine call_all_walk (iter_any hl.isList fun s₂ e2 st hne => ?_)
  subst e2
  refine ⟨_, _, _, _, _, _, _, rfl, Walks.list (A := X.A.in1) (I.ok.hd hc) _ a hne its.toArray, st, truth_bools hb, fun h' tk hk => ?_⟩
  refine ⟨.bl _, H, I.kept fun b o eo => hk b o (fun hmem => ?_) (Heap.get?_push_of_some _ eo), ?_, q⟩
  · rcases List.mem_cons.mp hmem with e1 | hmem
    · exact absurd (e1 ▸ Heap.lt_size eo) (Nat.lt_irrefl _)
    · cases hmem
  · show Value.bool _ = Value.bool _
    rw [← all_range, hb, List.size_toArray, List.length_map]
end
mutual
inductive Dp (K : PySem.W.Frag) (H : Hp) : V → PyData → Prop
  | non : Dp K H .non .none
  | bl (b : Bool) : Dp K H (.bl b) (.bool b)
  | int (i : Int) : Dp K H (.int i) (.int i)
  | str (x : Str) : Dp K H (.str x) (.str x)
  | lst {a : Addr} {xs : List V} {ds : List PyData} : SqL K H a xs → DpAll K H xs ds → Dp K H (.ref a) (.list ds)
  | tup {a : Addr} {xs : List V} {ds : List PyData} : SqT K H a xs → DpAll K H xs ds → Dp K H (.ref a) (.tuple ds)
inductive DpAll (K : PySem.W.Frag) (H : Hp) : List V → List PyData → Prop
  | nil : DpAll K H [] []
  | cons {v : V} {vs : List V} {d : PyData} {ds : List PyData} : Dp K H v d → DpAll K H vs ds → DpAll K H (v :: vs) (d :: ds)
end
section
variable {X : Cx} {pins : List (Addr × Obj)} {σ : St} {H : Hp} {s : Shared}
mutual
theorem Dp.reads (I : Inv X pins σ H s) : ∀ (d : PyData) (v : V) (u : Value), Dp X.K H v d → RelV v u → ∃ as, Reads s.heap u d as
  | .none, _, _, h, r => by
    cases h
    cases r
    exact ⟨_, Reads.none⟩
  | .bool b, _, _, h, r => by
    cases h
    cases r
    exact ⟨_, Reads.bool b⟩
  | .int i, _, _, h, r => by
    cases h
    obtain ⟨t, rfl⟩ := r
    exact ⟨_, Reads.int i t⟩
  | .str x, _, _, h, r => by
    cases h
    obtain ⟨t, rfl⟩ := r
    exact ⟨_, Reads.str x t⟩
  | .list ds, _, _, h, r => by
    cases h with
    | lst hs ha =>
      cases r
      obtain ⟨its, rv, ⟨o, n, ho, hc, _, hd⟩, _⟩ := I.list hs
      obtain ⟨as, hr⟩ := Dp.readsAll I ds _ its ha rv
      exact ⟨_, Reads.list ho hc hd hr⟩
  | .tuple ds, _, _, h, r => by
    cases h with
    | tup hs ha =>
      cases r
      obtain ⟨its, rv, ⟨o, ho, hc, n, hd⟩, _⟩ := I.tuple hs
      obtain ⟨as, hr⟩ := Dp.readsAll I ds _ its ha rv
      exact ⟨_, Reads.tuple ho hc hd hr⟩
  | .dict _, _, _, h, _ => by cases h
theorem Dp.readsAll (I : Inv X pins σ H s) : ∀ (ds : List PyData) (vs : List V) (us : List Value), DpAll X.K H vs ds → Vals vs us → ∃ as, ReadsAll s.heap us ds as
  | [], _, _, h, r => by
    cases h
    cases r
    exact ⟨_, ReadsAll.nil⟩
  | d :: ds, _, _, h, r => by
    cases h with
    | cons h1 h2 =>
      cases r with
      | cons r1 r2 =>
        obtain ⟨as, q1⟩ := Dp.reads I d _ _ h1 r1
        obtain ⟨bs, q2⟩ := Dp.readsAll I ds _ _ h2 r2
        exact ⟨_, ReadsAll.cons q1 q2⟩
end
end
section
variable {X : Cx}
def rEqD (K : PySem.W.Frag) : R2 := fun x y H Q => ∃ d e, Dp K H x d ∧ Dp K H y e ∧ SeqAt.shaped d = true ∧ SeqAt.shaped e = true ∧ Q (.bl (PyData.eqv d e)) H
def rNeD (K : PySem.W.Frag) : R2 := fun x y H Q => ∃ d e, Dp K H x d ∧ Dp K H y e ∧ SeqAt.shaped d = true ∧ SeqAt.shaped e = true ∧ Q (.bl (!PyData.eqv d e)) H
theorem op_eqD (hu : X.A.units + 64 < cLine) : OpR X (compareOp .Eq) (rEqD X.K) := by
  intro pins s σ H x y v u Q I rx ry h
  obtain ⟨d, e, hd, he, sd, se, q⟩ := h
  obtain ⟨as, r1⟩ := Dp.reads I d x v hd rx
  obtain ⟨bs, r2⟩ := Dp.reads I e y u he ry
  exact SeqAt.compareEq_shaped r1 r2 sd se hu ⟨.bl _, H, I, rfl, q⟩
theorem op_neD (hu : X.A.units + 64 < cLine) : OpR X (compareOp .NotEq) (rNeD X.K) := by
  intro pins s σ H x y v u Q I rx ry h
  obtain ⟨d, e, hd, he, sd, se, q⟩ := h
  obtain ⟨as, r1⟩ := Dp.reads I d x v hd rx
  obtain ⟨bs, r2⟩ := Dp.reads I e y u he ry
  exact SeqAt.compareNe_shaped r1 r2 sd se hu ⟨.bl _, H, I, rfl, q⟩
end
end L2
namespace L2
open PySem PySem.Spec PyProof.Rows
abbrev CellAt (h : Heap) (c : Addr) (v : Option Value) : Prop := h.IsCell c v
def relS (scope sc : Scope) : Scope :=
  { scope with names := scope.names.map fun (n, k) => if (k == .free && sc.kind == .function && sc.names.lookup n == some .cell) then (n, .cell) else (n, k) }
def cloFrom (cells : List (Str × Addr)) : List (Str × NameKind) → List (Str × Addr) → List (Str × Addr)
  | [], acc => acc
  | (n, k) :: r, acc => if k == .free then cloFrom cells r ((n, (cells.lookup n).getD 0) :: acc) else cloFrom cells r acc
theorem closure_loop (env : Env) (f : Str × NameKind → List (Str × Addr) → Sem (ForInStep (List (Str × Addr))))
    (hf : ∀ n k c, f (n, k) c = if k == .free then (do let a ← cellOf env n; pure (.yield ((n, a) :: c))) else pure (.yield c)) :
    ∀ (names : List (Str × NameKind)) (acc : List (Str × Addr)), (∀ y ∈ names, y.2 = .free → ∃ c, env.cells.lookup y.1 = some c) → forIn names acc f = pure (cloFrom env.cells names acc)
  | [], acc, _ => by rw [List.forIn_nil]; rfl
  | (n, k) :: r, acc, h => by
    rw [List.forIn_cons, hf]
    have ih := fun acc => closure_loop env f hf r acc fun y hy => h y (List.mem_cons_of_mem _ hy)
    unfold cloFrom
    by_cases hk : (k == NameKind.free) = true
    · rw [if_pos hk, if_pos hk]
      obtain ⟨c, hc⟩ := h (n, k) List.mem_cons_self (by simpa using hk)
      have e : cellOf env n = pure c := by unfold cellOf; rw [hc]
      rw [e]
      have e2 : (env.cells.lookup n).getD 0 = c := by rw [hc]; rfl
      rw [e2]
      exact ih _
    · rw [if_neg hk, if_neg hk]
      exact ih _
theorem closure_ok {scope : Scope} {env : Env} (h : ∀ y ∈ scope.names, y.2 = .free → ∃ c, env.cells.lookup y.1 = some c) : closureFor scope env = pure (cloFrom env.cells scope.names []) := by
  simp only [closureFor]
  rw [closure_loop env _ (fun n k c => rfl) scope.names [] h]
  rfl
theorem mem_lookup {α : Type} : ∀ {l : List (Str × α)} {n : Str} {c : α}, (n, c) ∈ l → ∃ c', l.lookup n = some c'
  | (k, v) :: r, n, c, h => by
    rw [List.lookup_cons]
    cases hb : n == k with
    | true => exact ⟨_, rfl⟩
    | false =>
      rcases List.mem_cons.mp h with e | h
      · cases e; simp at hb
      · exact mem_lookup h
theorem cloFrom_mem {cells : List (Str × Addr)} : ∀ {names : List (Str × NameKind)} {acc : List (Str × Addr)} {n : Str} {c : Addr}, (n, c) ∈ cloFrom cells names acc → (n, c) ∈ acc ∨ ((n, .free) ∈ names ∧ c = (cells.lookup n).getD 0)
  | [], _, _, _, h => .inl h
  | (m, k) :: r, acc, n, c, h => by
    unfold cloFrom at h
    split at h
    · rename_i hk
      have hk : k = .free := by simpa using hk
      rcases cloFrom_mem h with h | ⟨h1, h2⟩
      · rcases List.mem_cons.mp h with e | h
        · cases e; exact .inr ⟨hk ▸ List.mem_cons_self, rfl⟩
        · exact .inl h
      · exact .inr ⟨List.mem_cons_of_mem _ h1, h2⟩
    · rcases cloFrom_mem h with h | ⟨h1, h2⟩
      · exact .inl h
      · exact .inr ⟨List.mem_cons_of_mem _ h1, h2⟩
theorem cloFrom_acc {cells : List (Str × Addr)} : ∀ {names : List (Str × NameKind)} {acc : List (Str × Addr)} {p : Str × Addr}, p ∈ acc → p ∈ cloFrom cells names acc
  | [], _, _, h => h
  | (m, k) :: r, acc, p, h => by
    unfold cloFrom
    split
    · exact cloFrom_acc (List.mem_cons_of_mem _ h)
    · exact cloFrom_acc h
theorem cloFrom_has {cells : List (Str × Addr)} : ∀ {names : List (Str × NameKind)} {acc : List (Str × Addr)} {n : Str}, (n, .free) ∈ names → (n, (cells.lookup n).getD 0) ∈ cloFrom cells names acc
  | (m, k) :: r, acc, n, h => by
    unfold cloFrom
    rcases List.mem_cons.mp h with e | h
    · cases e
      exact cloFrom_acc List.mem_cons_self
    · split
      · exact cloFrom_has h
      · exact cloFrom_has h
theorem cells_mem : ∀ {names : List (Str × NameKind)} {h : Heap} {acc : List (Str × Addr)} {x : Str} {c : Addr}, (x, c) ∈ cellsFrom h.objs.size names acc →
    (x, c) ∈ acc ∨ ((x, .cell) ∈ names ∧ h.objs.size ≤ c ∧ CellAt (pushCells h names) c none)
  | [], _, _, _, _, h => .inl h
  | (n, k) :: r, h, acc, x, c, hm => by
    unfold cellsFrom at hm
    unfold pushCells
    split at hm
    · rename_i hk
      rw [if_pos hk]
      have hk : k = .cell := by simpa using hk
      rw [← Heap.size_push h { cls := .type "cell", data := .cell none }] at hm
      rcases cells_mem hm with hm | ⟨h1, h2, h3⟩
      · rcases List.mem_cons.mp hm with e | hm
        · cases e
          exact .inr ⟨hk ▸ List.mem_cons_self, Nat.le_refl _, _, pushCells_keeps r _ _ _ (Heap.get?_push_size _ rfl), rfl⟩
        · exact .inl hm
      · rw [Heap.size_push] at h2
        exact .inr ⟨List.mem_cons_of_mem _ h1, Nat.le_of_succ_le h2, h3⟩
    · rename_i hk
      rw [if_neg hk]
      rcases cells_mem hm with hm | ⟨h1, h2, h3⟩
      · exact .inl hm
      · exact .inr ⟨List.mem_cons_of_mem _ h1, h2, h3⟩
theorem cells_acc : ∀ {names : List (Str × NameKind)} {n : Nat} {acc : List (Str × Addr)} {p : Str × Addr}, p ∈ acc → p ∈ cellsFrom n names acc
  | [], _, _, _, h => h
  | (m, k) :: r, n, acc, p, h => by
    unfold cellsFrom
    split
    · exact cells_acc (List.mem_cons_of_mem _ h)
    · exact cells_acc h
theorem cells_has : ∀ {names : List (Str × NameKind)} {n : Nat} {acc : List (Str × Addr)} {x : Str}, (x, .cell) ∈ names → ∃ c, (x, c) ∈ cellsFrom n names acc
  | (m, k) :: r, n, acc, x, h => by
    unfold cellsFrom
    rcases List.mem_cons.mp h with e | h
    · cases e
      exact ⟨n, cells_acc List.mem_cons_self⟩
    · split
      · exact cells_has h
      · exact cells_has h
theorem cells_inj : ∀ {names : List (Str × NameKind)} {h : Heap} {acc : List (Str × Addr)} {x y : Str} {c : Addr}, (∀ p ∈ acc, p.2 < h.objs.size) → (∀ x y c, (x, c) ∈ acc → (y, c) ∈ acc → x = y) →
    (x, c) ∈ cellsFrom h.objs.size names acc → (y, c) ∈ cellsFrom h.objs.size names acc → x = y
  | [], _, _, _, _, _, _, hi, h1, h2 => hi _ _ _ h1 h2
  | (n, k) :: r, h, acc, x, y, c, hl, hi, h1, h2 => by
    unfold cellsFrom at h1 h2
    split at h1
    · rename_i hk
      rw [if_pos hk] at h2
      rw [← Heap.size_push h { cls := .type "cell", data := .cell none }] at h1 h2
      refine cells_inj (h := h.push _) (fun p hp => ?_) (fun x y c a b => ?_) h1 h2
      · rw [Heap.size_push]
        rcases List.mem_cons.mp hp with rfl | hp
        · exact Nat.lt_succ_self _
        · exact Nat.lt_succ_of_lt (hl p hp)
      · rcases List.mem_cons.mp a with e | a <;> rcases List.mem_cons.mp b with e' | b
        · cases e; cases e'; rfl
        · cases e; exact absurd (hl _ b) (Nat.lt_irrefl _)
        · cases e'; exact absurd (hl _ a) (Nat.lt_irrefl _)
        · exact hi _ _ _ a b
    · rename_i hk
      rw [if_neg hk] at h2
      exact cells_inj hl hi h1 h2
theorem newEnv_comp {M : Model} {A : Around} {E : Value → Shared → Prop} {s : Shared} {scope : Scope} {globals : Addr} {closure : List (Str × Addr)} {qual : Str} {func : Option Addr} {code : Value} {around : Env} {builtins : Addr} {Q : Env → Shared → Prop}
    (h : Q (newEnv scope s.heap.objs.size globals (cellsFrom (s.heap.objs.size + 1) scope.names closure) qual func code (some around) builtins)
      { s with heap := pushCells (s.heap.push { cls := .type "dict", data := .dict #[] }) scope.names }) :
    wpAny M A (newFunctionEnv scope globals closure [] qual func code (some around) builtins) Q E s := by
  simp only [newFunctionEnv, Option.isSome_some, if_true]
  refine wpAny_bind (wpAny_alloc ?_)
  refine wpAny_bind (wpAny_layCells _ (fun n k c => rfl) scope.names closure _ _ ?_)
  rw [show ({ s with heap := s.heap.push { cls := .type "dict", data := .dict #[] } } : Shared).heap.objs.size = s.heap.objs.size + 1 from Heap.size_push ..]
  rw [List.forIn_nil]
  exact wpAny_bind (wpAny_pure (wpAny_pure h))
theorem lookup_relS {sc : Scope} : ∀ {names : List (Str × NameKind)} {x : Str} {k : NameKind},
    (names.map fun (n, k) => if (k == NameKind.free && sc.kind == .function && sc.names.lookup n == some .cell) then (n, NameKind.cell) else (n, k)).lookup x = some k →
    ∃ k', names.lookup x = some k' ∧ (k = k' ∨ (k' = .free ∧ k = .cell))
  | [], _, _, h => by simp at h
  | (n, k₀) :: r, x, k, h => by
    have ih := @lookup_relS sc r x k
    have h' : List.lookup x ((if (k₀ == NameKind.free && sc.kind == .function && sc.names.lookup n == some .cell) = true then (n, NameKind.cell) else (n, k₀)) :: (r.map _)) = some k := h
    cases hx : x == n with
    | true =>
      simp only [List.lookup_cons, hx]
      by_cases hc : (k₀ == NameKind.free && sc.kind == .function && sc.names.lookup n == some .cell) = true
      · rw [if_pos hc] at h'
        simp only [List.lookup_cons, hx] at h'
        cases h'
        simp only [Bool.and_eq_true, beq_iff_eq] at hc
        exact ⟨k₀, rfl, .inr ⟨hc.1.1, rfl⟩⟩
      · rw [if_neg hc] at h'
        simp only [List.lookup_cons, hx] at h'
        cases h'
        exact ⟨_, rfl, .inl rfl⟩
    | false =>
      simp only [List.lookup_cons, hx]
      by_cases hc : (k₀ == NameKind.free && sc.kind == .function && sc.names.lookup n == some .cell) = true
      · rw [if_pos hc] at h'
        simp only [List.lookup_cons, hx] at h'
        exact ih h'
      · rw [if_neg hc] at h'
        simp only [List.lookup_cons, hx] at h'
        exact ih h'
structure BlkOk (N : List Str) (sc scope : Scope) (own : List (Str × Nat)) : Prop where
  kind : scope.kind = .function
  uniq : ∀ y ∈ scope.names, scope.names.lookup y.1 = some y.2
  ix : ∀ p ∈ own, N[p.2]? = some p.1
  free : ∀ y ∈ scope.names, y.2 = .free → sc.names.lookup y.1 = some .cell ∨ sc.names.lookup y.1 = some .free
  own : ∀ y ∈ scope.names, y.2 = .local ∨ y.2 = .cell → y.1 ∈ own.map (·.1) ∨ y.1 ∉ N
def wipe (σ : St) : List Nat → St
  | [] => σ
  | v :: vs => (wipe σ vs).set v none
theorem wipe_length (σ : St) : ∀ vs : List Nat, (wipe σ vs).length = σ.length
  | [] => rfl
  | v :: vs => by unfold wipe; rw [List.length_set, wipe_length σ vs]
theorem wipe_some {σ : St} {i : Nat} {x : V} : ∀ {vs : List Nat}, (wipe σ vs)[i]? = some (some x) → σ[i]? = some (some x) ∧ i ∉ vs
  | [], h => ⟨h, by simp⟩
  | v :: vs, h => by
    unfold wipe at h
    by_cases hi : v = i
    · subst hi
      by_cases hv : v < (wipe σ vs).length
      · rw [List.getElem?_set_self hv] at h; cases h
      · rw [List.getElem?_eq_none (by simpa using hv)] at h; cases h
    · rw [List.getElem?_set_ne hi] at h
      obtain ⟨h1, h2⟩ := wipe_some h
      exact ⟨h1, by simp only [List.mem_cons, not_or]; exact ⟨fun e => hi e.symm, h2⟩⟩
abbrev Cx.blk (X : Cx) (s : Shared) (H : Hp) (scope : Scope) (cenv : Env) (fp : List Addr) : Cx := { X with s_0 := s, H_0 := H, env := cenv, outer := X.stack, ex := fp, fn := fun x => scope.names.lookup x == some .cell, pn := [], xe := fun _ _ => False }
section
variable {X : Cx} {pins : List (Addr × Obj)} {σ : St} {H : Hp} {s : Shared}
theorem block_start {scope : Scope} {own : List (Str × Nat)} {fp : List Addr} (I : Inv X pins σ H s) (ok : BlkOk X.N X.env.scope scope own) (hN : X.N.Nodup) (hfp : ∀ b ∈ fp, FpOk X pins H b ∧ b < s.heap.objs.size) :
    Inv (X.blk s H scope (compEnvC scope (cellsFrom (s.heap.objs.size + 1) scope.names (cloFrom X.env.cells scope.names [])) s.heap.objs.size X.env) fp) [] (wipe σ (own.map (·.2))) H { s with heap := pushCells (s.heap.push { cls := .type "dict", data := .dict #[] }) scope.names } := by
  have hfree : ∀ y ∈ scope.names, y.2 = .free → ∃ c, X.env.cells.lookup y.1 = some c := fun y hy e => by
    rcases ok.free y hy e with k | k
    · exact I.ok.has _ (.inl k)
    · exact I.ok.has _ (.inr k)
  generalize hcenv : compEnvC scope (cellsFrom (s.heap.objs.size + 1) scope.names (cloFrom X.env.cells scope.names [])) s.heap.objs.size X.env = cenv
  have kp : ∀ b o, s.heap.get? b = some o → (pushCells (s.heap.push { cls := .type "dict", data := .dict #[] }) scope.names).get? b = some o := fun b o e => pushCells_keeps _ _ _ _ (Heap.get?_push_of_some _ e)
  have hL : cenv.locals = s.heap.objs.size := by rw [← hcenv]; rfl
  have hcl : cenv.cells = cellsFrom (s.heap.objs.size + 1) scope.names (cloFrom X.env.cells scope.names []) := by rw [← hcenv]; rfl
  have hsc : cenv.scope = relS scope X.env.scope := by rw [← hcenv]; rfl
  rw [← Heap.size_push s.heap { cls := .type "dict", data := .dict #[] }] at hcl
  have cm : ∀ {y c}, (y, c) ∈ cloFrom X.env.cells scope.names [] → X.env.cells.lookup y = some c ∧ c < s.heap.objs.size := fun {y c} hm => by
    rcases cloFrom_mem hm with hm | ⟨h1, rfl⟩
    · cases hm
    · obtain ⟨c, hc⟩ := hfree _ h1 rfl
      rw [hc]
      obtain ⟨w, z⟩ := I.cell _ _ hc
      exact ⟨rfl, z.lt⟩
  have mem : ∀ {y c}, cenv.cells.lookup y = some c → (X.env.cells.lookup y = some c ∧ c < s.heap.objs.size) ∨ (s.heap.objs.size + 1 ≤ c ∧ CellAt (pushCells (s.heap.push { cls := .type "dict", data := .dict #[] }) scope.names) c none) := fun {y c} e => by
    rw [hcl] at e
    rcases cells_mem (PySem.mem_of_lookup e) with hm | ⟨_, h2, h3⟩
    · exact .inl (cm hm)
    · rw [Heap.size_push] at h2; exact .inr ⟨h2, h3⟩
  have look : ∀ {y}, scope.names.lookup y = some .free → ∃ c, cenv.cells.lookup y = some c ∧ X.env.cells.lookup y = some c := fun {y} hl => by
    have hy : (y, NameKind.free) ∈ scope.names := PySem.mem_of_lookup hl
    obtain ⟨c', e'⟩ := mem_lookup (cells_acc (names := scope.names) (n := (s.heap.push { cls := .type "dict", data := .dict #[] }).objs.size) (cloFrom_has (cells := X.env.cells) (acc := []) hy))
    rw [← hcl] at e'
    refine ⟨c', e', ?_⟩
    rw [hcl] at e'
    rcases cells_mem (PySem.mem_of_lookup e') with hm | ⟨h1, _, _⟩
    · exact (cm hm).1
    · have := ok.uniq _ h1
      rw [hl] at this; cases this
  have okB : (X.blk s H scope cenv fp).Ok := by
    refine ⟨I.ok.mod, by show cenv.scope.kind = _; rw [hsc]; exact ok.kind, by show cenv.globals = _; rw [← hcenv]; exact I.ok.glob, by show cenv.builtins = _; rw [← hcenv]; exact I.ok.blt, by show s.heap.objs.size ≤ cenv.locals; rw [hL]; exact Nat.le_refl _,
      fun y z c e1 e2 => ?_, fun y hy => ?_, fun y c z e => ?_, I.ok.hd, I.ok.frames, .inl rfl, fun b hb => ⟨?_, fun y c e z => ?_⟩, I.bs, Nat.le_trans I.ok.bsz I.sz, fun b o e hb => ?_, fun b hb z => ?_, I.stack, I.stkFree⟩
    · have e1 : cenv.cells.lookup y = some c := e1
      have e2 : cenv.cells.lookup z = some c := e2
      rw [hcl] at e1 e2
      refine cells_inj (fun p hp => ?_) (fun y z c a b => I.ok.inj y z c (cm a).1 (cm b).1) (PySem.mem_of_lookup e1) (PySem.mem_of_lookup e2)
      rw [Heap.size_push]
      exact Nat.lt_succ_of_lt (cm (y := p.1) (c := p.2) hp).2
    · show ∃ c, cenv.cells.lookup y = some c
      have key : ∀ k, cenv.kindOf y = some k → (k = .cell ∨ k = .free) → ∃ c, cenv.cells.lookup y = some c := fun k hk hk' => by
        unfold Env.kindOf at hk
        rw [hsc] at hk
        obtain ⟨k', e, r⟩ := lookup_relS hk
        have : k' = .cell ∨ k' = .free := by
          rcases r with rfl | ⟨rfl, _⟩
          · exact hk'
          · exact .inr rfl
        rcases this with rfl | rfl
        · obtain ⟨c, hm⟩ := cells_has (n := (s.heap.push { cls := .type "dict", data := .dict #[] }).objs.size) (acc := cloFrom X.env.cells scope.names []) (PySem.mem_of_lookup e)
          obtain ⟨c', e'⟩ := mem_lookup hm
          exact ⟨c', by rw [hcl]; exact e'⟩
        · obtain ⟨c, h1, _⟩ := look e
          exact ⟨c, h1⟩
      rcases hy with hy | hy
      · exact key _ hy (.inl rfl)
      · exact key _ hy (.inr rfl)
    · have z : (scope.names.lookup y == some NameKind.cell) = true := z
      have z : scope.names.lookup y = some .cell := by simpa using z
      have e : cenv.cells.lookup y = some c := e
      rw [hcl] at e
      rcases cells_mem (PySem.mem_of_lookup e) with hm | ⟨_, h2, _⟩
      · rcases cloFrom_mem hm with hm | ⟨h1, _⟩
        · cases hm
        · have q := ok.uniq _ h1
          rw [z] at q; cases q
      · rw [Heap.size_push] at h2
        exact Nat.le_of_succ_le h2
    · show b ≠ cenv.locals
      rw [hL]; exact Nat.ne_of_lt (hfp b hb).2
    · have e : cenv.cells.lookup y = some c := e
      rcases mem e with ⟨h1, _⟩ | ⟨h1, _⟩
      · exact (hfp b hb).1.2.2.2.2.1 y c h1 z
      · have h2 : s.heap.objs.size + 1 ≤ b := by rw [← z]; exact h1
        exact absurd (Nat.lt_of_lt_of_le (hfp b hb).2 (Nat.le_of_succ_le h2)) (Nat.lt_irrefl _)
    · rcases (hfp b hb).1.2.2.2.1 with z | z
      · exact I.ok.noex b o e z
      · exact absurd (Nat.lt_of_lt_of_le (Heap.lt_size e) (Nat.le_trans I.ok.bsz z)) (Nat.lt_irrefl _)
    · rcases List.mem_cons.mp (I.stkSub b z) with z | z
      · exact (hfp b hb).1.2.1 z
      · exact (hfp b hb).1.2.2.1 z
  refine ⟨okB, rfl, I.bare, Un.kept kp, ⟨fun _ => none, ?_, fun i y av e1 e2 e3 => ?_⟩, fun y c e => ?_, ?_, fun y c e => ?_, fun p hp => ?_, I.hok.kept kp, by rw [wipe_length]; exact I.len⟩
  · show Heap.Ns _ cenv.locals _
    rw [hL]
    exact Heap.Ns.keeps (Heap.Ns.new ..) fun b o e => pushCells_keeps _ _ _ _ e
  · obtain ⟨e2, hne⟩ := wipe_some e2
    have hfr : scope.names.lookup y = some .free ∧ (cenv.kindOf y = some .cell ∨ cenv.kindOf y = some .free) := by
      have key : ∀ k, cenv.scope.names.lookup y = some k → k = .local ∨ k = .cell ∨ k = .free → scope.names.lookup y = some .free ∧ (cenv.kindOf y = some .cell ∨ cenv.kindOf y = some .free) := fun k hk hk' => by
        have hk0 := hk
        rw [hsc] at hk
        obtain ⟨k', e, r⟩ := lookup_relS hk
        have no : ¬ (k' = .local ∨ k' = .cell) := fun hh => by
          rcases ok.own _ (PySem.mem_of_lookup e) hh with e' | e'
          · obtain ⟨p, hp, hpy⟩ := List.mem_map.mp e'
            have e3 := ok.ix p hp
            have : p.1 = y := hpy
            rw [this] at e3
            exact hne (List.mem_map.mpr ⟨p, hp, nodup_ix hN e3 e1⟩)
          · exact e' (List.mem_of_getElem? e1)
        rcases r with rfl | ⟨rfl, rfl⟩
        · rcases hk' with rfl | rfl | rfl
          · exact absurd (.inl rfl) no
          · exact absurd (.inr rfl) no
          · exact ⟨e, .inr hk0⟩
        · exact ⟨e, .inl hk0⟩
      have e3 : Vis cenv.scope y := e3
      rcases e3 with e3 | e3 | e3
      · exact key _ e3 (.inl rfl)
      · exact key _ e3 (.inr (.inl rfl))
      · exact key _ e3 (.inr (.inr rfl))
    obtain ⟨m, hn, hl⟩ := I.loc
    have hvis : Vis X.env.scope y := (ok.free _ (PySem.mem_of_lookup hfr.1) rfl).elim (fun k => .inr (.inl k)) (fun k => .inr (.inr k))
    obtain ⟨w, r, q⟩ := hl i y av e1 e2 hvis
    refine ⟨w, r, .inr ⟨hfr.2, ?_⟩⟩
    obtain ⟨c, h1, h2⟩ := look hfr.1
    rcases q with ⟨k, _⟩ | ⟨_, c', e', z⟩
    · have k : X.env.scope.names.lookup y = some .local := k
      rcases ok.free _ (PySem.mem_of_lookup hfr.1) rfl with k' | k' <;> rw [show X.env.scope.names.lookup y = _ from k'] at k <;> cases k
    · rw [h2] at e'; cases e'
      exact ⟨c, h1, z.keeps kp⟩
  · have e : cenv.cells.lookup y = some c := e
    rcases mem e with ⟨h1, _⟩ | ⟨_, z⟩
    · obtain ⟨w, z⟩ := I.cell y c h1
      exact ⟨w, z.keeps kp⟩
    · exact ⟨_, z⟩
  · show H cenv.locals = none
    rw [hL]; exact I.hok.fresh (Nat.le_refl _)
  · have e : cenv.cells.lookup y = some c := e
    rcases mem e with ⟨h1, _⟩ | ⟨h1, _⟩
    · exact I.freeC y c h1
    · exact I.hok.fresh (Nat.le_of_succ_le h1)
  · exact absurd (show p ∈ ([] : List (Addr × Obj)) ++ [] from hp) (by simp)
theorem app_ok {E : Value → Shared → Prop} {D : Addr} {xs : List V} {y : V} {v : Value} {Q : Value → Shared → Prop} (I : Inv X pins σ H s) (hD : H D = some (.lst xs)) (hz : xs.length < sizeLine) (r : RelV y v)
    (h : ∀ s', Inv X pins σ (upd H D (.lst (xs ++ [y]))) s' → Q .none s') : wpAny (model X.prog X.w) X.A (call (.builtin "list.append") [.ref D, v]) Q E s := by
  obtain ⟨hz', its, n, ri, e⟩ := I.hok D _ hD
  have hl := ri.length
  refine append_at (hsz := by rw [List.size_toArray]; omega) e fun h' sb ho' => ?_
  refine h { s with heap := h' } (I.write (t' := s.toks) (by rw [hD]; trivial) (.inl rfl) (fun b u hb q => (sb.2 b hb).trans q) ⟨_, ho'⟩ ⟨by rw [List.length_append]; exact hz, its ++ [v], n + 1, ri.append (.cons r .nil), ?_⟩)
  rw [ho']
  simp
def PTs (X : Cx) (ifs : List Expr) (t : TT) : Prop :=
  ∀ (pins : List (Addr × Obj)) (s : Shared) (σ : St) (H : Hp) (Q : Bool → Hp → Prop), Inv X pins σ H s → t σ H Q →
    wpAny (model X.prog X.w) X.A (forIn ifs true fun c r => if r = true then do let ok ← isTrue c X.env (eval c X.env); pure (ForInStep.yield ok) else pure (ForInStep.yield r)) (TP X pins σ Q) X.xe s
def tYes : TT := fun _ H Q => Q true H
theorem pts_nil : PTs X [] tYes := fun _ _ _ H _ I h => wpAny_tests_nil ⟨H, I, h⟩
end
theorem thnF {α : Type} {t : Sem α} {Q Q' : α → Shared → Prop} {M : Model} {A : Around} {E : Value → Shared → Prop} {s : Shared} (h : wpAny M A t Q (fun _ _ => False) s) (hQ : ∀ a s, Q a s → Q' a s) : wpAny M A t Q' E s := wpAny_mono h hQ fun _ _ z => False.elim z
theorem compLoop_any {prog : Program} {w : World} {A : Around} {R : Result → Shared → Prop} {s : Shared} {elt target iter : Expr} {ifs : List Expr} {scope : Scope} {pos : Pos} {it acc : Value} {env : Env} (I : Nat → Shared → Prop)
    (turn : ∀ n s, I n s → wpAny (model prog w) A (pyNext it) (fun r s₁ => match r with
      | none => R (.ok .next) s₁
      | some v => wpAny (model prog w) A (letOwnedTupleGo target it v) (fun _ s₁' => wpAny (model prog w) A (assign target env v) (fun _ s₂ =>
          wpAny (model prog w) A (forIn ifs true fun c r => if r = true then do let ok ← isTrue c env (eval c env); pure (ForInStep.yield ok) else pure (ForInStep.yield r)) (fun ok s₃ =>
            if ok = true then wpAny (model prog w) A (eval elt env) (fun x s₄ =>
              wpAny (model prog w) A (call (.builtin "list.append") [acc, x]) (fun _ s₅ => ∃ m, m < n ∧ I m s₅) (notedBy (model prog w) A env fun e s' => R (.error e) s') s₄) (notedBy (model prog w) A env fun e s' => R (.error e) s') s₃
            else ∃ m, m < n ∧ I m s₃) (notedBy (model prog w) A env fun e s' => R (.error e) s') s₂) (notedBy (model prog w) A env fun e s' => R (.error e) s') s₁') (notedBy (model prog w) A env fun e s' => R (.error e) s') s₁) (notedBy (model prog w) A env fun e s' => R (.error e) s') s)
    (n : Nat) (h : I n s) :
    codeAny (model prog w) A (.compLoop (.ListComp elt [⟨target, iter, ifs, 0⟩] scope pos) 0 it acc env) R s := by
  refine codeAny_loop rfl I (fun n s hI => ?_) n h
  show wpAny _ A ((compTurn (.ListComp elt [⟨target, iter, ifs, 0⟩] scope pos) 0 it acc env).onRaise (fun x => do noteFrame x env; theTreesLotGoes x)) _ _ s
  refine wpAny_noted ?_
  rw [compTurn_list]
  refine wpAny_bind (wpAny_standAt (wpAny_bind (wpAny_mono (turn n s hI) (fun r s₁ h₁ => ?_) fun _ _ h' => h')))
  cases r with
  | none => exact wpAny_pure h₁
  | some v =>
    refine wpAny_bind (wpAny_mono h₁ (fun _ s₁' h₁' => ?_) fun _ _ h' => h')
    refine wpAny_bind (wpAny_mono h₁' (fun _ s₂ h₂ => wpAny_bind (wpAny_mono h₂ (fun ok s₃ h₃ => ?_) fun _ _ h' => h')) fun _ _ h' => h')
    cases ok with
    | false => exact wpAny_pure ⟨rfl, h₃⟩
    | true =>
      exact wpAny_bind (wpAny_bind (wpAny_mono h₃ (fun x s₄ h₄ => wpAny_bind (wpAny_mono h₄ (fun _ s₅ h₅ => wpAny_pure (wpAny_pure ⟨rfl, h₅⟩)) fun _ _ h' => h')) fun _ _ h' => h'))
section
variable {X : Cx}
def tLc (wi : TI) (g : TG) (tt : TT) (te : TE) (vs : List Nat) : TE := fun σ H Q => wi σ H fun J H1 => ∀ D, H1 D = none → ∃ W : Nat → Nat → Hp → Prop, (∃ m, W 0 m (upd H1 D (.lst []))) ∧ ∀ i m H, W i m H →
  (J.stop i H ∧ Q (.ref D) H) ∨ (J.go i H ∧ ∃ Nx : Hp → Prop, (∀ H', Nx H' → ∃ m', m' < m ∧ W (i + 1) m' H') ∧ ∀ x H', J.yld i H x H' → g x (wipe σ vs) H' fun σ2 H2 => wipe σ2 vs = wipe σ vs ∧ tt σ2 H2 fun b H3 =>
    if b = true then te σ2 H3 fun y H4 => ∃ acc, H4 D = some (.lst acc) ∧ acc.length < sizeLine ∧ Nx (upd H4 D (.lst (acc ++ [y]))) else Nx H3)
theorem lc_core {pins : List (Addr × Obj)} {s : Shared} {σ : St} {H : Hp} {Q : VK} {elt tg iter : Expr} {ifs : List Expr} {scope : Scope} {own : List (Str × Nat)} {pos pos' : Pos} {wi : TI} {g : TG} {tt : TT} {te : TE} {use : Option (Value → Sem Unit)} {Qf : Value → Shared → Prop}
    (hc : X.calm = true) (hN : X.N.Nodup) (I : Inv X pins σ H s) (hi : PI X tg iter wi) (ok : BlkOk X.N X.env.scope scope own)
    (hg : ∀ (s : Shared) (H : Hp) (C : Addr) (cl : List (Str × Addr)) (fp : List Addr), PG (X.blk s H scope (compEnvC scope cl C X.env) fp) tg g) (ht : ∀ (s : Shared) (H : Hp) (C : Addr) (cl : List (Str × Addr)) (fp : List Addr), PTs (X.blk s H scope (compEnvC scope cl C X.env) fp) ifs tt)
    (he : ∀ (s : Shared) (H : Hp) (C : Addr) (cl : List (Str × Addr)) (fp : List Addr), PE (X.blk s H scope (compEnvC scope cl C X.env) fp) elt te) (hs : ∀ x, foldedSetIterable iter X.env x = pure x)
    (h : tLc wi g tt te (own.map (·.2)) σ H Q)
    (hRR : ∀ D C s' m H', Inv X pins σ H' s' → Q (.ref D) H' → s'.heap.Ns C m → FpOk X pins H' C → compPost (model X.prog X.w) X.A X.xe use Qf (.ref D) C (.ok .next) s') :
    wpAny (model X.prog X.w) X.A (comprehension (.ListComp elt [⟨tg, iter, ifs, 0⟩] scope pos) scope X.env pos' (newList []) false (eval iter X.env) use) Qf X.xe s := by
  have hfree : ∀ y ∈ scope.names, y.2 = .free → ∃ c, X.env.cells.lookup y.1 = some c := fun y hy e => by
    rcases ok.free y hy e with k | k
    · exact I.ok.has _ (.inl k)
    · exact I.ok.has _ (.inr k)
  refine wpAny_comprehension_free (use := use) rfl hs (closure_ok hfree) ok.kind (fun y hy e => by rw [ok.uniq y hy, e])
    (thn (hi pins s σ H _ I h) fun xv s1 hx => thn hx fun itv s2 h2 => ?_)
  obtain ⟨it, fp, tn, J, H2, e, I2, T, st2, f2, q⟩ := h2
  subst e
  refine wpAny_newObj_type (newEnv_comp ?_) (by show 0 ≤ sizeLine; decide)
  generalize hD : s2.heap.objs.size = D
  have hDn : H2 D = none := I2.hok.fresh (Nat.le_of_eq hD)
  obtain ⟨W, ⟨m0, w0⟩, turn⟩ := q D hDn
  generalize hs3 : ({ s2 with heap := s2.heap.push { cls := .type "list", data := .seq ([] : List Value).toArray } } : Shared) = s3
  have I3 : Inv X pins σ (upd H2 D (.lst [])) s3 := by
    rw [← hs3]
    refine I2.laid (t' := s2.toks) (fun b o e => Heap.get?_push_of_some _ e) (Nat.le_of_eq hD) ⟨Nat.zero_le _, [], 0, .nil, ?_⟩
    rw [← hD]
    exact Heap.get?_push_size _ rfl
  have h3 : s3.heap = s2.heap.push { cls := .type "list", data := .seq ([] : List Value).toArray } := by rw [← hs3]
  have sz : ∀ b ∈ fp, b < s2.heap.objs.size := fun b hb => by
    obtain ⟨o, e, _⟩ := T.obj _ _ st2 b hb
    exact Heap.lt_size e
  have f3 : ∀ b ∈ fp, FpOk X pins (upd H2 D (.lst [])) b ∧ b < s3.heap.objs.size := fun b hb => by
    have hlt := sz b hb
    refine ⟨⟨?_, (f2 b hb).2⟩, by rw [h3, Heap.size_push]; exact Nat.lt_succ_of_lt hlt⟩
    rw [upd_ne (by rw [← hD]; exact Nat.ne_of_lt hlt)]
    exact (f2 b hb).1
  have st3 : tn 0 s3.heap := T.keep _ _ _ st2 fun b _ o e => by rw [h3]; exact Heap.get?_push_of_some _ e
  have I4 := block_start I3 ok hN f3
  have pg := hg s3 (upd H2 D (.lst [])) s3.heap.objs.size (cellsFrom (s3.heap.objs.size + 1) scope.names (cloFrom X.env.cells scope.names [])) fp
  have pt := ht s3 (upd H2 D (.lst [])) s3.heap.objs.size (cellsFrom (s3.heap.objs.size + 1) scope.names (cloFrom X.env.cells scope.names [])) fp
  have pe := he s3 (upd H2 D (.lst [])) s3.heap.objs.size (cellsFrom (s3.heap.objs.size + 1) scope.names (cloFrom X.env.cells scope.names [])) fp
  show codeAny _ _ (.compStart (.ListComp elt [⟨tg, iter, ifs, 0⟩] scope pos) 0 (.ref it) (.ref D) (compEnvC scope (cellsFrom (s3.heap.objs.size + 1) scope.names (cloFrom X.env.cells scope.names [])) s3.heap.objs.size X.env)) (compPost (model X.prog X.w) X.A X.xe use Qf (.ref D) s3.heap.objs.size) { s3 with heap := pushCells (s3.heap.push { cls := .type "dict", data := .dict #[] }) scope.names }
  have nfp : ∀ b ∈ fp, (upd H2 D (.lst [])) b = none := fun b hb => (f3 b hb).1.1
  generalize hce : compEnvC scope (cellsFrom (s3.heap.objs.size + 1) scope.names (cloFrom X.env.cells scope.names [])) s3.heap.objs.size X.env = ce at I4 pg pt pe ⊢
  have cL : ce.locals = s3.heap.objs.size := by subst hce; rfl
  generalize hH3 : upd H2 D (.lst []) = H3 at I3 I4 pg pt pe w0 nfp f3
  generalize hs4 : ({ s3 with heap := pushCells (s3.heap.push { cls := .type "dict", data := .dict #[] }) scope.names } : Shared) = s4 at I4 ⊢
  have st4 : tn 0 s4.heap := T.keep _ _ _ st3 fun b _ o e => by rw [← hs4]; exact pushCells_keeps _ _ _ _ (Heap.get?_push_of_some _ e)
  have stat : ∀ {σ' : St} {H' : Hp} {s' : Shared}, Inv (X.blk s3 H3 scope ce fp) [] σ' H' s' → (∀ b ∈ fp, H' b = none) → ∀ b ∈ fp, FpOk (X.blk s3 H3 scope ce fp) [] H' b := fun {σ' H' s'} I' hn b hb =>
    ⟨hn b hb, (I'.ok.exf b hb).1, I'.ok.exfs b hb, .inl hb, fun x c e => (I'.ok.exf b hb).2 x c e, fun p hp => absurd (show p ∈ ([] : List (Addr × Obj)) ++ [] from hp) (by simp)⟩
  have loop : codeAny (model X.prog X.w) X.A (.compLoop (.ListComp elt [⟨tg, iter, ifs, 0⟩] scope pos) 0 (.ref it) (.ref D) ce) (compPost (model X.prog X.w) X.A X.xe use Qf (.ref D) s3.heap.objs.size) s4 := by
    refine compLoop_any (fun n s' => ∃ i H', Inv (X.blk s3 H3 scope ce fp) [] (wipe σ (own.map (·.2))) H' s' ∧ tn i s'.heap ∧ (∀ b ∈ fp, H' b = none) ∧ W i n H') ?_ m0 ⟨0, H3, I4, st4, nfp, w0⟩
    rintro n s5 ⟨i, H5, I5, st5, n5, w5⟩
    rcases turn i n H5 w5 with ⟨stop, qq⟩ | ⟨go, Nx, hNx, step⟩
    · have td := T.done (X.blk s3 H3 scope ce fp) rfl rfl rfl hc i [] s5 _ H5 (fun _ _ => False) I5 (stat I5 n5) st5 stop
      refine thnF td fun r s6 ⟨hr, I6⟩ => ?_
      subst hr
      have I7 : Inv X pins σ H5 s6 := I3.call' (ch := fp) I6.os I6.base I6.hok I6.bare fun b hb => ⟨(f3 b hb).1.2.2.2.1, (f3 b hb).1.2.1, (f3 b hb).1.2.2.2.2.1, (f3 b hb).1.2.2.2.2.2⟩
      have nC : H5 s3.heap.objs.size = none := by
        have z : H5 ce.locals = none := I6.free
        rw [cL] at z
        exact z
      obtain ⟨m, hn, _⟩ := I6.loc
      have hn : s6.heap.Ns ce.locals m := hn
      rw [cL] at hn
      exact hRR D s3.heap.objs.size s6 m H5 I7 qq hn (I3.fpOk (Nat.le_refl _) nC)
    · have ti := T.item (X.blk s3 H3 scope ce fp) rfl rfl rfl hc i [] s5 _ H5 (fun _ _ => False) I5 (stat I5 n5) st5 go
      refine thnF ti fun r s6 ⟨u, hr, h6⟩ => ?_
      subst hr
      refine thnF h6 fun _ s7 ⟨x, H7, I7, r7, y7, st7, n7⟩ => ?_
      have I7' := I7.pinned (stat I7 n7) (T.obj _ _ st7)
      refine thnF (pg _ s7 _ H7 x u _ I7' r7 (step x H7 y7)) fun _ s8 ⟨σ8, H8, I8, hw8, q8⟩ => ?_
      refine thnF (pt _ s8 σ8 H8 _ I8 q8) fun b s9 ⟨H9, I9, q9⟩ => ?_
      have fin : ∀ {s' : Shared} {H' : Hp}, Inv (X.blk s3 H3 scope ce fp) ([] ++ pinsAt fp s7.heap) σ8 H' s' → Nx H' → ∃ m, m < n ∧ ∃ i H', Inv (X.blk s3 H3 scope ce fp) [] (wipe σ (own.map (·.2))) H' s' ∧ tn i s'.heap ∧ (∀ b ∈ fp, H' b = none) ∧ W i m H' := fun {s' H'} I' nx => by
        obtain ⟨m', hm, w'⟩ := hNx H' nx
        have pin' : ∀ b ∈ fp, ∀ o, s7.heap.get? b = some o → s'.heap.get? b = some o ∧ H' b = none := fun b hb o e =>
          let z := I'.pin (b, o) (List.mem_append_right _ (List.mem_append_right _ (mem_pinsAt hb e)))
          ⟨z.1, z.2.1⟩
        have hl : (wipe σ (own.map (·.2))).length = σ8.length := by rw [← hw8, wipe_length]
        refine ⟨m', hm, i + 1, H', (I'.unpinned (pins := [])).weak hl (fun j v e => ?_), T.keep _ _ _ st7 fun b hb o e => (pin' b hb o e).1, fun b hb => ?_, w'⟩
        · rw [← hw8] at e
          exact (wipe_some e).1
        · obtain ⟨o, e, _⟩ := T.obj _ _ st7 b hb
          exact (pin' b hb o e).2
      cases b with
      | false =>
        simp only [Bool.false_eq_true, if_false] at q9 ⊢
        exact fin I9 q9
      | true =>
        simp only [if_true] at q9 ⊢
        refine thnF (pe _ s9 σ8 H9 _ I9 q9) fun z s10 ⟨yv, H10, I10, r10, acc, hD10, hz10, nx⟩ => ?_
        exact app_ok (X := X.blk s3 H3 scope ce fp) I10 hD10 hz10 r10 fun s11 I11 => fin I11 nx
  exact codeAny_compStart_list loop (T.self X.A 0 _ _ _ st4 loop)
theorem pe_lc {elt tg iter : Expr} {ifs : List Expr} {scope : Scope} {own : List (Str × Nat)} {pos : Pos} {wi : TI} {g : TG} {tt : TT} {te : TE} (hc : X.calm = true) (hN : X.N.Nodup) (hi : PI X tg iter wi) (ok : BlkOk X.N X.env.scope scope own)
    (hg : ∀ (s : Shared) (H : Hp) (C : Addr) (cl : List (Str × Addr)) (fp : List Addr), PG (X.blk s H scope (compEnvC scope cl C X.env) fp) tg g) (ht : ∀ (s : Shared) (H : Hp) (C : Addr) (cl : List (Str × Addr)) (fp : List Addr), PTs (X.blk s H scope (compEnvC scope cl C X.env) fp) ifs tt)
    (he : ∀ (s : Shared) (H : Hp) (C : Addr) (cl : List (Str × Addr)) (fp : List Addr), PE (X.blk s H scope (compEnvC scope cl C X.env) fp) elt te) (hs : ∀ x, foldedSetIterable iter X.env x = pure x := by intro _; rfl) :
    PE X (.ListComp elt [⟨tg, iter, ifs, 0⟩] scope pos) (tLc wi g tt te (own.map (·.2))) := by
  intro pins s σ H Q I h
  rw [eval_ListComp]
  refine lc_core hc hN I hi ok hg ht he hs h fun D C s' m H' I' q hn f => ⟨m, hn, fun h'' sb => ?_⟩
  obtain ⟨f0, f1, f2, f3, f4, f5⟩ := f
  exact ⟨.ref D, H', I'.turned (t' := s'.toks) (fun b o hb e => (sb.2 b hb).trans e) f0 f1 f3 f4 f5, rfl, q⟩
theorem ps_setLc {i : Nat} {y : Str} {py : Pos} {elt tg iter : Expr} {ifs : List Expr} {scope : Scope} {own : List (Str × Nat)} {pos spos : Pos} {wi : TI} {g : TG} {tt : TT} {te : TE} (hc : X.calm = true) (hN : X.N.Nodup) (hy : X.N[i]? = some y) (hyl : X.env.scope.names.lookup y = some .local)
    (hsw : swapsWith (.ListComp elt [⟨tg, iter, ifs, 0⟩] scope pos) (some (.Name y py)) spos.line X.env = pure true) (hi : PI X tg iter wi) (ok : BlkOk X.N X.env.scope scope own)
    (hg : ∀ (s : Shared) (H : Hp) (C : Addr) (cl : List (Str × Addr)) (fp : List Addr), PG (X.blk s H scope (compEnvC scope cl C X.env) fp) tg g) (ht : ∀ (s : Shared) (H : Hp) (C : Addr) (cl : List (Str × Addr)) (fp : List Addr), PTs (X.blk s H scope (compEnvC scope cl C X.env) fp) ifs tt)
    (he : ∀ (s : Shared) (H : Hp) (C : Addr) (cl : List (Str × Addr)) (fp : List Addr), PE (X.blk s H scope (compEnvC scope cl C X.env) fp) elt te) (hs : ∀ x, foldedSetIterable iter X.env x = pure x := by intro _; rfl) :
    PS X (.Assign [.Name y py] (.ListComp elt [⟨tg, iter, ifs, 0⟩] scope pos) spos) (tAsg (tLc wi g tt te (own.map (·.2))) (gName i)) := by
  intro pins s σ H D I h
  rw [exec_Assign_Name_used _ _ _ _ hsw]
  refine wpAny_bind (wpAny_standAt (wpAny_bind ?_))
  show wpAny _ X.A (do let _ ← comprehension (.ListComp elt [⟨tg, iter, ifs, 0⟩] scope pos) scope X.env (firstIterPos [⟨tg, iter, ifs, 0⟩] pos) (newList []) false (eval iter X.env) (some (assign (.Name y py) X.env))) _ _ s
  have h : tLc wi g tt te (own.map (·.2)) σ H (fun x H1 => gName i x σ H1 D.nx) := h
  refine wpAny_bind (thn (lc_core (Qf := fun _ s' => SP X pins D .next s') hc hN I hi ok hg ht he hs h fun L C s' m H' I' q hn f => ?_) fun _ s' hq => wpAny_pure (wpAny_pure hq))
  show wpAny _ _ (assign (.Name y py) X.env (.ref L)) _ _ _
  refine wpAny_assign_Name (store_ok2 (v := V.ref L) I' hN hy (.inl hyl) rfl (fun s2 I2 ⟨a, sb, ha⟩ => ?_) (.inr hyl))
  obtain ⟨f0, f1, f2, f3, f4, f5⟩ := f
  have haC : C ≠ a := by
    rcases ha with z | z
    · rw [z]; exact f1
    · exact fun e => f4 y a z e.symm
  refine ⟨m, hn.sameBut sb haC, fun h3 sb3 => ?_⟩
  exact ⟨_, H', I2.turned (t' := s2.toks) (fun b o hb e => (sb3.2 b hb).trans e) f0 f1 f3 f4 f5, q⟩
theorem sw_true {elt : Expr} {gs : List Comprehension} {scope : Scope} {pos py : Pos} {y : Str} {l : Nat} {env : Env} (hk : env.scope.kind = .function) (hy : env.scope.names.lookup y = some .local) (hl : (py.line == pos.line) = true)
    (ha : (scope.names.any fun (n, k) => n == y && (k == .local || k == .cell)) = false) : swapsWith (.ListComp elt gs scope pos) (some (.Name y py)) l env = pure true := by
  have ky : env.kindOf y = some .local := hy
  have hb : env.blockKind = .function := by unfold Env.blockKind; rw [hk]; rfl
  unfold swapsWith
  simp only [hb, ky, ha, Expr.pos, hl]
  rfl
end
def blkC (N : List Str) (sc scope : Scope) (own : List (Str × Nat)) : Bool :=
  (match scope.kind with | .function => true | _ => false) && (scope.names.all fun y => decide (scope.names.lookup y.1 = some y.2)) && (own.all fun p => decide (N[p.2]? = some p.1)) &&
    (scope.names.all fun y => match y.2 with
      | .free => (match sc.names.lookup y.1 with | some .cell => true | some .free => true | _ => false)
      | .local => decide (y.1 ∈ own.map (·.1)) || decide (y.1 ∉ N)
      | .cell => decide (y.1 ∈ own.map (·.1)) || decide (y.1 ∉ N)
      | _ => true)
theorem blkOk_by {N : List Str} {sc scope : Scope} {own : List (Str × Nat)} (h : blkC N sc scope own = true) : BlkOk N sc scope own := by
  unfold blkC at h
  simp only [Bool.and_eq_true, List.all_eq_true, decide_eq_true_eq] at h
  obtain ⟨⟨⟨h1, h2⟩, h3⟩, h4⟩ := h
  refine ⟨?_, h2, h3, fun y hy e => ?_, fun y hy e => ?_⟩
  · split at h1
    · assumption
    · cases h1
  · have q := h4 y hy
    simp only [e] at q
    split at q <;> first | exact .inl (by assumption) | exact .inr (by assumption) | cases q
  · have q := h4 y hy
    rcases e with e | e <;> (simp only [e, Bool.or_eq_true, decide_eq_true_eq] at q; exact q)
end L2
namespace L2
open PySem PySem.Spec PyProof.Rows
section
variable {prog : Program} {w : World} {A : Around} {R : Result → Shared → Prop} {s : Shared} {elt t0 i0 t1 i1 : Expr} {ifs0 ifs1 : List Expr} {scope : Scope} {pos : Pos} {it acc : Value} {env : Env}
end
section
variable {X : Cx}
end
end L2
namespace L2
open PySem PySem.Spec PyProof.Rows
section
variable {κ : Type} [DecidableEq κ]
end
section
variable {P : Program} {w : World} {H : Hp} {h : Heap} {a : Addr}
end
section
variable {X : Cx} {pins : List (Addr × Obj)} {σ : St} {H : Hp} {s : Shared} {a : Addr} {y v : V} {u r : Value} {o : Option V} {A : Around} {E : Value → Shared → Prop}
end
section
variable {X : Cx} {pins : List (Addr × Obj)} {σ : St} {H : Hp} {s : Shared} {a : Addr} {kvs : List (Key × V)} {k : Key} {u : Value} {A : Around} {E : Value → Shared → Prop}
end
section
variable {X : Cx} {o i e value : Expr} {pos pos' tpos : Pos} {td ty tv : TE}
end
section
variable {X : Cx} {pos : Pos}
end
section
variable {X : Cx} {pins : List (Addr × Obj)} {σ : St} {H : Hp} {s : Shared} {a : Addr} {y d : V} {u r : Value} {o : Option V} {A : Around} {E : Value → Shared → Prop}
end
section
variable {X : Cx} {o e f : Expr} {apos cpos : Pos} {td ty tx : TE}
end
section
variable {X : Cx} {pins : List (Addr × Obj)} {σ : St} {H : Hp} {s : Shared} {a : Addr} {kvs : List (Key × V)} {A : Around} {E : Value → Shared → Prop}
end
section
variable {X : Cx} {pins : List (Addr × Obj)} {σ : St} {H : Hp} {s : Shared} {a : Addr} {y : V} {u : Value} {A : Around} {E : Value → Shared → Prop}
end
end L2
namespace L2
open PySem PySem.Spec PyProof.Rows
section
variable {prog : Program} {w : World} {A : Around} {E : Value → Shared → Prop}
end
section
variable {X : Cx}
end
end L2
namespace L2
open PySem PySem.Spec PyProof.Rows
section
variable {X : Cx} {pins : List (Addr × Obj)} {σ : St} {H : Hp} {s : Shared} {h' : Heap}
theorem Inv.turnedNew {t' : Nat} {ch : List Addr} {T : Addr} {ob : HO} (I : Inv X pins σ H s) (k : ∀ b o, b ∉ ch → s.heap.get? b = some o → h'.get? b = some o) (hf : ∀ b ∈ ch, FpOk X pins H b) (hT : s.heap.objs.size ≤ T)
    (new : ObjOk X.prog X.w (upd H T ob) h' T ob) : Inv X pins σ (upd H T ob) { s with heap := h', toks := t' } := by
  have hn : H T = none := I.hok.fresh hT
  have nit : ∀ b u, H b = some u → b ∉ ch := fun b u e z => by
    have q := (hf b z).1
    rw [q] at e; cases e
  refine I.step (g' := s.gens) (d' := s.drawn) (ch := ch) (fun b hb => ⟨(hf b hb).2.2.2.1, (hf b hb).2.1, (hf b hb).2.2.2.2.1, (hf b hb).2.2.2.2.2⟩) (fun b o _ _ hc e _ => k b o hc e) (fun b o _ _ hc e _ => ⟨o.slots, k b o hc e⟩)
    (fun b o _ e n => ?_) (fun b o hc e => ⟨o, k b o hc e⟩) (fun b xs e => ?_) (fun b o u e => ?_) (fun b ps e => ⟨#[], ?_⟩) (fun m hm => ?_) (fun b u e => ?_) I.bare
  · rw [upd_ne (Nat.ne_of_lt (Nat.lt_of_lt_of_le (Heap.lt_size e) hT))]; exact n
  · rw [upd_ne (ne_of_none e hn)]; exact e
  · rw [upd_ne (ne_of_none e hn)]; exact e
  · rw [upd_ne (ne_of_none e hn), e]; simp
  · obtain ⟨o, es, ep, ho, r⟩ := hm
    exact ⟨o, es, ep, k _ o (fun z => (hf _ z).2.1 rfl) ho, r⟩
  · by_cases hb : b = T
    · subst hb
      rw [upd_same] at e
      cases e
      exact new
    · rw [upd_ne hb] at e
      refine (I.hok b u e).stay (fun c v hc q => k c v ?_ q) (fun c q => by rw [upd_ne (ne_of_none q hn)]; exact q) fun c xs q => by rw [upd_ne (ne_of_none q hn)]; exact q
      rcases hc with z | z
      · rw [z]; exact nit b u e
      · exact nit c _ z
end
section
variable {X : Cx}
end
section
variable {X : Cx} {tg : Expr}
end
section
variable {X : Cx} {tg : Expr}
end
section
variable {prog : Program} {w : World} {A : Around} {E : Value → Shared → Prop} {s : Shared}
end
section
variable {X : Cx} {pins : List (Addr × Obj)} {σ : St} {H : Hp} {s : Shared} {d : Addr} {o : Obj}
end
section
variable {P : Program} {w : World} {K : PySem.W.Frag} {tg : Expr} {d : Addr} {o : Obj} {es : Array DictEntry} {ep : Nat}
end
section
variable {X : Cx} {tg e : Expr} {td : TE} {apos cpos : Pos}
end
def Ite (K : PySem.W.Frag) (a : Addr) : It :=
  ⟨fun i H => ∃ (xs : List V) (x : V), SqL K H a xs ∧ xs[i]? = some x, fun i H v H' => ∃ T x, v = .ref T ∧ H T = none ∧ H' = upd H T (.tup [.int (i : Nat), x]) ∧ ∀ xs, SqL K H a xs → xs[i]? = some x, fun i H => ∃ xs : List V, SqL K H a xs ∧ xs.length ≤ i⟩
theorem turn_enum {P : Program} {w : World} {K : PySem.W.Frag} {elts : List Expr} {kk : Nat} {tpos : Pos} (a e it : Addr) :
    Turn P w K (.Tuple elts kk tpos) (Ite K a) [e, it] e (fun i h => (∃ old, IsEnum h e it ((i : Nat) : Int) old) ∧ h.IsListIter it a i ∧ e ≠ it) where
  mem := by simp
  obj := fun i h st b hb => by
    obtain ⟨⟨old, he⟩, ⟨o, ho, hc, hd⟩, _⟩ := st
    have e' : b = e ∨ b = it := by simpa using hb
    rcases e' with z | z
    · rw [z]; exact ⟨_, he, fun v q => nomatch q⟩
    · rw [z]; exact ⟨o, ho, fun v q => by rw [hd] at q; cases q⟩
  keep := fun i h h' st k => let ⟨⟨old, he⟩, hi, hne⟩ := st; ⟨⟨old, k e (by simp) _ he⟩, hi.at fun o q => k it (by simp) o q, hne⟩
  item := by
    intro X hP hw hK hc i pins s σ H E I hf st hg
    subst hP hw hK
    obtain ⟨⟨old, he⟩, hit, hne⟩ := st
    obtain ⟨xs, x, hq, hx⟩ := hg
    obtain ⟨its, rv, p, hz⟩ := I.list hq
    obtain ⟨u, hu, ru⟩ := rv.get hx
    have hel : e < s.heap.objs.size := Heap.lt_size he
    have hil : it < s.heap.objs.size := by obtain ⟨_, q, _⟩ := hit; exact Heap.lt_size q
    refine wpAny_pyNext_enum_item he hit p.isList (x := u) (by simpa using hu) hne fun h' ho hit' hT hsz hk => ?_
    refine ⟨_, rfl, wpAny_letOwnedTupleGo_enum (s := { s with heap := h', toks := s.toks + 1 }) ho fun h'' he' sb => ?_⟩
    have hT2 : h''.get? s.heap.objs.size = some { cls := .type "tuple", data := .seq #[.int i s.toks, u] } := (sb.2 _ (Nat.ne_of_gt hel)).trans hT
    have new : ObjOk X.prog X.w (upd H s.heap.objs.size (.tup [.int (i : Nat), x])) h'' s.heap.objs.size (.tup [.int (i : Nat), x]) :=
      ⟨by show 2 ≤ sizeLine; decide, [.int i s.toks, u], .cons ⟨_, rfl⟩ (.cons ru .nil), ⟨_, hT2, rfl, _, rfl⟩⟩
    have I1 : Inv X pins σ (upd H s.heap.objs.size (.tup [.int (i : Nat), x])) { s with heap := h'', toks := s.toks + 1 } :=
      I.turnedNew (ch := [e, it]) (fun b ob hb q => (sb.2 b (fun z => hb (by simp [z]))).trans (hk b ob (fun z => hb (by simp [z])) (fun z => hb (by simp [z])) q)) hf (Nat.le_refl _) new
    refine ⟨.ref s.heap.objs.size, _, I1, rfl, ⟨_, x, rfl, I.hok.fresh (Nat.le_refl _), rfl, fun ys hy => by rw [I.list_inj hy hq]; exact hx⟩, ⟨⟨u, ?_⟩, hit'.at fun o q => (sb.2 it (Ne.symm hne)).trans q, hne⟩, fun b hb => ?_⟩
    · have e1 : ((i + 1 : Nat) : Int) = (i : Int) + 1 := by omega
      rw [e1]; exact he'
    · have hb' : b < s.heap.objs.size := by
        have e' : b = e ∨ b = it := by simpa using hb
        rcases e' with z | z
        · rw [z]; exact hel
        · rw [z]; exact hil
      rw [upd_ne (Nat.ne_of_lt hb')]
      exact (hf b hb).1
  done := by
    intro X hP hw hK hc i pins s σ H E I hf st hg
    subst hP hw hK
    obtain ⟨⟨old, he⟩, hit, hne⟩ := st
    obtain ⟨xs, hq, hx⟩ := hg
    obtain ⟨its, rv, p, hz⟩ := I.list hq
    obtain ⟨f0, f1, f2, f3, f4, f5⟩ := hf it (by simp)
    have hl := rv.length
    exact wpAny_pyNext_enum_end (I.ok.hd hc) he hit p.isList (by simp; omega) fun h' eb => ⟨rfl, I.turned (t' := s.toks) (fun b o hb q => eb b o hb q) f0 f1 f3 f4 f5⟩
  self := fun A i s Q E st h => let ⟨⟨_, he⟩, _⟩ := st; wpAny_pyIter_enum he h
def iEnum (K : PySem.W.Frag) (ta : TA) : TI := fun σ H R => ta σ H fun vs H1 => ∃ a xs, vs = [.ref a] ∧ SqL K H1 a xs ∧ R (Ite K a) H1
theorem pi_enum {X : Cx} {e : Expr} {ta : TA} {p pos tpos : Pos} {elts : List Expr} {kk : Nat} (hg : Gl X "enumerate") (hm : X.mg "enumerate" = none) (ha : PA X [e] ta) (hs : starEach [e] X.env = [(false, eval e X.env)] := by rfl) :
    PI X (.Tuple elts kk tpos) (.Call (.Name "enumerate" p) [e] [] pos) (iEnum X.K ta) := by
  intro pins s σ H R I h
  refine Call_ (ld_blt I hg hm boot_enumerate (PyProof.Rows.callWith_type1 (thn (ha pos pins s σ H _ I h) fun us s1 ⟨vs, H1, I1, r1, q1⟩ => ?_) hs rfl))
  obtain ⟨a, xs, ex, hq, q⟩ := q1
  subst ex
  cases r1 with
  | cons r rr =>
    cases rr
    cases r
    obtain ⟨its, rv, p', hz⟩ := I1.list hq
    refine call_enumerate_list p'.isList fun h' he hit hsz hk => wpAny_pyIter_enum he ?_
    have I2 : Inv X pins σ H1 { s1 with heap := h' } := I1.kept (t' := s1.toks) hk
    refine ⟨s1.heap.objs.size + 1, [s1.heap.objs.size + 1, s1.heap.objs.size], _, _, H1, rfl, I2, turn_enum a (s1.heap.objs.size + 1) s1.heap.objs.size, ⟨⟨.none, he⟩, hit, Nat.succ_ne_self _⟩, fun b hb => ?_, q⟩
    have e' : b = s1.heap.objs.size + 1 ∨ b = s1.heap.objs.size := by simpa using hb
    have hle : s1.heap.objs.size ≤ b := by
      rcases e' with z | z
      · rw [z]; exact Nat.le_add_right _ _
      · rw [z]; exact Nat.le_refl _
    exact I1.fpOk hle (I1.hok.fresh hle)
end L2
section 
namespace Bits
open PySem PyProof.Rows
end Bits
end 
section 
namespace TL
open PySem PySem.Builtin PySem.Builtin.Str PySem.StrLaws
def pre (S l : List Nat) : Bool := l.take S.length == S
def par (S : List Nat) : List Nat → List Nat → Option (List Nat × List Nat)
  | _, [] => none
  | acc, c :: r => if pre S (c :: r) = true then some (acc, (c :: r).drop S.length) else par S (acc ++ [c]) r
end TL
end 
namespace L2
open PySem PySem.Spec PyProof.Rows
section
variable {X : Cx} {pins : List (Addr × Obj)} {σ : St} {H : Hp} {s : Shared} {Q : VK}
end
section
variable {X : Cx}
end
section
variable {X : Cx} {o e : Expr} {to te : TE}
end
end L2
namespace L2
open PySem PySem.Spec PyProof.Rows
section
variable {X : Cx}
end
end L2
namespace Att
open PySem PySem.W PySem.Calls PyProof.Rows
theorem ints_of_wellAll {P : Params} {h : Heap} : ∀ (ns : List Int) (vs : List Value), WellAll P h vs (ns.map WData.int) → IntsAre vs ns := by
  intro ns
  induction ns with
  | nil =>
    intro vs w
    rw [List.map_nil] at w
    cases w
    exact .nil
  | cons n ns ih =>
    intro vs w
    rw [List.map_cons] at w
    cases w with
    | cons a b =>
      cases a
      exact .cons _ _ (ih _ b)
theorem script_of {l : OpenLaw} {n : Nat} (hn : l.most = some n) {P : Params} {h : Heap} {args : List WData} {vals : List Value}
    (hpre : l.row.toRowW.claim.pre args = true) (hwl : WellAll P h vals args) :
    ∃ a vs ns, vals = [Value.ref a] ∧ args = [WData.list (ns.map WData.int)] ∧ h.get? a = some { cls := .type "list", data := .seq vs.toArray } ∧ IntsAre vs ns ∧ ns.length ≤ n := by
  have hsh : WShape.hasAll [] args [.list .int] = true := (pre_splitW hpre).1
  have hc : l.pre.holds [] { args := args } = true := (pre_splitW hpre).2
  obtain ⟨d, r, rfl, h1, h2⟩ := hasAllW_cons hsh
  obtain rfl := hasAllW_nil h2
  obtain ⟨xs, rfl, h3⟩ := hasW_list h1
  obtain ⟨ns, rfl⟩ := items_int h3
  have hlen : ns.length ≤ n := by
    unfold OpenLaw.pre at hc
    have h4 : (WTm.not (.lt (.lit (.int (n : Int))) (.len (.arg 0)))).holds [] { args := [.list (ns.map .int)] } = true := by
      have h4 := (holds_andW hc).1
      rw [hn] at h4
      exact h4
    have h5 := condW_of h4 (w_not (w_lt w_lit (w_len_list (w_arg rfl))))
    rw [List.length_map] at h5
    refine Nat.le_of_not_lt fun q => ?_
    have q' : (n : Int) < ((ns.length : Nat) : Int) := by omega
    first
      | (rw [decide_eq_true q'] at h5; exact absurd h5 (by decide))
      | (simp at h5; omega)
  cases hwl with
  | cons w1 w2 =>
    cases w2
    cases w1 with
    | list ho hall => exact ⟨_, _, ns, rfl, rfl, ho, ints_of_wellAll ns _ hall, hlen⟩
theorem post_true (l : OpenLaw) (args : List WData) : l.row.toRowW.claim.post args (.bool true) args = true :=
  postW_of (r := l.row.toRowW) (X := (true == true))
    (show WShape.has [] (.bool true) .bool = true by first | rfl | decide | simp [WShape.has, WShape.arms, WShape.armsAll])
    (show (WTm.eq .res (.lit (.bool true))).value [] { args := args, res := some (.bool true), after := args } = some (.bool (true == true)) from w_eq_bool (w_res rfl) w_lit) rfl
section
variable {prog : Program} {w : World} {A : Around} {E : Value → Shared → Prop} {s : Shared} {K : Frag}
end
end Att
namespace L2
open PySem PySem.Spec PyProof.Rows
theorem vals_ints : ∀ {vs : List Value} {ns : List Int}, IntsAre vs ns → Vals (ns.map V.int) vs
  | _, _, .nil => .nil
  | _, _, .cons n t h => .cons ⟨t, rfl⟩ (vals_ints h)
def Only (H : Hp) : Prop := ∀ b, H b = none ∨ ∃ o xs, H b = some (.frz o (.lst xs))
theorem law_call {P : Program} {w : World} {K : PySem.W.Frag} {mg mb : Str → Option Value} {CX : CXT} {k : Nat} {fa a : Addr} {fd : FuncData} {x : Str} {sp : Sp} {s₁ : Shared} {vs : List Value} {ns : List Int}
    (KX : K.In s₁.heap) (hns : s₁.heap.Ns mainGlobals mg) (hb : s₁.heap.Ns builtinsNs mb) (hbb : ∀ x : Str, x ≠ "__name__" → mb x = bootBuiltins x) (hlim : s₁.heap.NoLimit) (hg : s₁.gens = #[])
    (ha : s₁.heap.get? a = some { cls := .type "list", data := .seq vs.toArray }) (hi : IntsAre vs ns) (hl : ns.length ≤ sizeLine) (hr : Room k callerA)
    (F : ∀ base : Heap, K.In base → base.Ns mainGlobals mg → FnOk P w K mg base CX k fa fd [x] sp) (hbind : ∀ (s : Shared) (u : Value), BindsTo s fd ⟨[u], []⟩ [(x, u)])
    (hsp : ∀ H : Hp, Only H → SqL K H a (ns.map V.int) → sp [.ref a] H (fun v _ => v = .bl true) fun _ _ _ => False)
    (hCX : ∀ H e s', CX [] H s₁ (fun _ _ _ => False) e s' → False) :
    codeAny (model P w) callerA (.call (.ref fa) ⟨[.ref a], []⟩) (fun r s' => r = .ok (.ret (.bool true)) ∧ OldK s₁.heap s'.heap ∧ s'.os = s₁.os ∧ AllBare s'.gens) s₁ := by
  have rv := vals_ints hi
  have lenV := hi.length
  have core : ∀ H : Hp, Only H → SqL K H a (ns.map V.int) → HOk P w H s₁.heap → (∀ b, H b ≠ none → b = a) → (H a ≠ none → K.lookup a = none) →
      codeAny (model P w) callerA (.call (.ref fa) ⟨[.ref a], []⟩) (fun r s' => r = .ok (.ret (.bool true)) ∧ OldK s₁.heap s'.heap ∧ s'.os = s₁.os ∧ AllBare s'.gens) s₁ := by
    intro H hO hS hok hA hK
    have base_of : ∀ {b : Addr} {o : Obj}, s₁.heap.get? b = some o → H b = none → (hidT s₁.heap H).get? b = some o := fun e n => hidT_get e n
    have noA : ∀ {b : Addr} {o : Obj} {es : Array DictEntry} {ep : Nat}, s₁.heap.get? b = some o → o.data = .dict es ep → H b = none := fun {b o es ep} e d => by
      cases q : H b with
      | none => rfl
      | some u =>
        have e' : b = a := hA b (by rw [q]; simp)
        subst e'
        rw [ha] at e; cases e
        have d' : Data.seq vs.toArray _ = Data.dict es ep := d
        cases d'
    have nsK : ∀ {b : Addr} {m : Str → Option Value}, s₁.heap.Ns b m → (hidT s₁.heap H).Ns b m := fun {b m} ⟨o, es, ep, e, d, r⟩ => ⟨o, es, ep, base_of e (noA e d), d, r⟩
    have hKb : K.In (hidT s₁.heap H) := fun b o e => base_of (KX b o e) (by
      cases q : H b with
      | none => rfl
      | some u =>
        have e' : b = a := hA b (by rw [q]; simp)
        subst e'
        rw [hK (by rw [q]; simp)] at e; cases e)
    have hM : Mod K mg (hidT s₁.heap H) := ⟨hKb, nsK hns, ⟨mb, nsK hb, hbb⟩, let ⟨mc, h1, h2⟩ := hlim; ⟨mc, nsK h1, h2⟩⟩
    have e0 : Env0 P w K mg (hidT s₁.heap H) callerA [] s₁ H := ⟨rfl, hM, fun b o e => of_hidT e, Nat.le_of_eq (hidT_size _ _), trivial, fun b hb => absurd (show b ∈ ([] : List Addr) from hb) (by simp), hok, .of_eq hg⟩
    refine codeAny_mono ((F _ hKb (nsK hns)).run callerA [] s₁ H ⟨[.ref a], []⟩ [.ref a] [.ref a] _ _ hr e0 (hbind s₁ (.ref a)) (.cons rfl .nil) (hsp H hO hS)) fun r s' h => ?_
    cases r with
    | error e => exact (hCX H e s' h).elim
    | ok fl =>
      cases fl with
      | next => exact False.elim h
      | brk => exact False.elim h
      | cont => exact False.elim h
      | ret u =>
        obtain ⟨v, H', os, bare, un, hok', r', q⟩ := h
        have q' : v = .bl true := q
        subst q'
        obtain rfl : u = Value.bool true := r'
        refine ⟨rfl, OldK.of_keep fun b o e => ?_, os, bare⟩
        cases q : H b with
        | none => exact un.keep b o e q (by intro z; exact absurd (show b ∈ ([] : List Addr) from z) (by simp)) (by simp)
        | some u =>
          rcases hO b with z | ⟨ob, xs, z⟩
          · rw [q] at z; cases z
          · have z2 := un.frzs b ob _ z
            obtain ⟨e1, _⟩ := hok b _ z
            obtain ⟨e2, _⟩ := hok' b _ z2
            rw [e] at e1; cases e1
            exact e2
  cases hk : K.lookup a with
  | some o =>
    have e := KX a o hk
    rw [ha] at e
    cases e
    refine core (fun _ => none) (fun _ => .inl rfl) (.inr ⟨_, vs.toArray, _, hk, rfl, rfl, rfl, by rw [List.size_toArray, lenV]; exact hl, by simpa using rv⟩) (fun b u z => by have z' : (none : Option HO) = some u := z; cases z') (fun b z => absurd rfl z) fun z => absurd rfl z
  | none =>
    refine core (fun b => if b = a then some (.frz { cls := .type "list", data := .seq vs.toArray } (.lst (ns.map V.int))) else none) (fun b => ?_) (.inl (.inr ⟨{ cls := .type "list", data := .seq vs.toArray }, if_pos rfl⟩)) (fun b u z => ?_) (fun b z => ?_) fun _ => hk
    · by_cases hb : b = a
      · exact .inr ⟨_, _, if_pos hb⟩
      · exact .inl (if_neg hb)
    · by_cases hb : b = a
      · have z' := (if_pos hb).symm.trans z
        cases z'
        subst hb
        exact ⟨ha, by rw [List.length_map]; exact hl, vs, _, rv, ha⟩
      · have z' := (if_neg hb).symm.trans z
        cases z'
    · by_cases hb : b = a
      · exact hb
      · exact absurd (if_neg hb) z
end L2
namespace L2
open PySem PySem.Spec PyProof.Rows
end L2
namespace L2
open PySem PySem.Spec PyProof.Rows
def inClass (s : Stmt) (j : Nat) : Stmt := match s with
  | .ClassDef _ _ _ body _ _ _ _ _ _ _ => body.getD j (.Pass ⟨0, 0, 0, 0⟩)
  | _ => .Pass ⟨0, 0, 0, 0⟩
def defArgs (s : Stmt) : Arguments := match s with
  | .FunctionDef _ a _ _ _ _ _ _ _ _ => a
  | _ => { posonlyargs := [], args := [], vararg := none, kwonlyargs := [], kw_defaults := [], kwarg := none, defaults := [] }
def defBody (s : Stmt) : List Stmt := match s with
  | .FunctionDef _ _ b _ _ _ _ _ _ _ => b
  | _ => []
def defScope (s : Stmt) : Scope := match s with
  | .FunctionDef _ _ _ _ _ _ sc _ _ _ => sc
  | _ => { kind := .function, names := [], isGenerator := false, isCoroutine := false }
abbrev E0 : XK := fun _ _ _ => False
structure Fun (K : PySem.W.Frag) (x qual : Str) (st : Stmt) (f : Addr) (fd : FuncData) : Prop where
  ex : ∃ (oc : Value) (od : Option Addr) (kV doc pm : Value) (an : Option Addr) (cdv ct : Value) (osl : Array (Option Value)),
    fd = PySem.W.fnOf x qual (defArgs st) (defBody st) (defScope st) .none kV doc pm an cdv ct ∧ K.lookup f = some ⟨oc, od, .func fd, osl⟩ ∧ PySem.W.codeIn K cdv qual = true
  kp : PySem.W.keepIn K (.ref f) = true
section
variable {P : Program} {w : World} {K : PySem.W.Frag} {mg : Str → Option Value} {base : Heap}
theorem Fun.binds {x qual : Str} {st : Stmt} {f : Addr} {fd : FuncData} {ps : List Str} (F : Fun K x qual st f fd)
    (h : ∀ (kV doc pm : Value) (an : Option Addr) (cdv ct : Value) (us : List Value), us.length = ps.length → bindArgs (PySem.W.fnOf x qual (defArgs st) (defBody st) (defScope st) .none kV doc pm an cdv ct) ⟨us, []⟩ = pure (ps.zip us)) : Binds K fd ps [] := by
  obtain ⟨oc, od, kV, doc, pm, an, cdv, ct, osl, rfl, lk, hcd⟩ := F.ex
  exact .all (h kV doc pm an cdv ct)
theorem fun_mk {x qual : Str} {st : Stmt} {f : Addr} {oc : Value} {od an : Option Addr} {osl : Array (Option Value)} {kV doc pm cdv ct : Value} (l : K.lookup f = some ⟨oc, od, .func (PySem.W.fnOf x qual (defArgs st) (defBody st) (defScope st) .none kV doc pm an cdv ct), osl⟩)
    (c : PySem.W.codeIn K cdv qual = true) (k : PySem.W.keepIn K (.ref f) = true) : Fun K x qual st f (PySem.W.fnOf x qual (defArgs st) (defBody st) (defScope st) .none kV doc pm an cdv ct) := ⟨⟨oc, od, kV, doc, pm, an, cdv, ct, osl, rfl, l, c⟩, k⟩
end
section
variable {X : Cx}
end
section
variable {κ : Type} [DecidableEq κ]
end
end L2

set_option maxHeartbeats 4000000

namespace BD
open PySem L2
inductive D where
  | non | bl (b : Bool) | int (i : Int) | str (x : Str) | tup (ds : List D) | lst (ds : List D) | dct | fn (n : Nat) | exn (n : Nat) | obj (n : Nat) (ds : List D)
inductive Out where
  | val (d : D) | exc (n : Nat)
inductive OutL where
  | vals (ds : List D) | exc (n : Nat)
inductive Sl where
  | sh (d : D) | own (ds : List D)
abbrev Rho := List (Option Sl)
abbrev Ev := Rho → Option Out
abbrev EvL := Rho → Option OutL
inductive Fl where
  | nx (ρ : Rho) | rt (d : D) | bk (ρ : Rho) | ct (ρ : Rho) | exc (n : Nat)
abbrev Sv := Rho → Option Fl
structure Tab where
  fnA : Nat → Option Addr
  ex : Addr → Nat → HO → Prop
  clsV : Nat → Value
  oc : Nat → Option (Addr × List Str)
variable {T : Tab} {K : PySem.W.Frag}
noncomputable def SqF (K : PySem.W.Frag) (F : Addr → Prop) (H : Hp) (a : Addr) (xs : List V) : Prop :=
  (F a ∧ Rd H a (.lst xs)) ∨
    ∃ (o : Obj) (its : Array Value) (n : Nat), K.lookup a = some o ∧ o.cls = .type "list" ∧ o.dict = none ∧ o.data = .seq its n ∧ its.size ≤ sizeLine ∧ Vals xs its.toList
theorem SqF.sq {F : Addr → Prop} {H : Hp} {a : Addr} {xs : List V} (h : SqF K F H a xs) : SqL K H a xs := by
  rcases h with ⟨_, h⟩ | h
  · exact .inl h
  · exact .inr h
mutual
inductive Rep (T : Tab) (K : PySem.W.Frag) (F : Addr → Prop) (H : Hp) : V → D → Prop
  | non : Rep T K F H .non .non
  | bl (b : Bool) : Rep T K F H (.bl b) (.bl b)
  | int (i : Int) : Rep T K F H (.int i) (.int i)
  | str (x : Str) : Rep T K F H (.str x) (.str x)
  | tup {a : Addr} {vs : List V} {ds : List D} (h : SqT K H a vs) (r : Reps T K F H vs ds) : Rep T K F H (.ref a) (.tup ds)
  | lst {a : Addr} {vs : List V} {ds : List D} (h : SqF K F H a vs) (r : Reps T K F H vs ds) : Rep T K F H (.ref a) (.lst ds)
  | dct {a : Addr} (h : H a = some (.dK [])) : Rep T K F H (.ref a) .dct
  | fn {a : Addr} {n : Nat} (h : T.fnA n = some a) : Rep T K F H (.ref a) (.fn n)
  | exn {a : Addr} {n : Nat} {o : HO} (h : H a = some o) (nl : ∀ xs, o ≠ .lst xs) (e : T.ex a n o) : Rep T K F H (.ref a) (.exn n)
  | obj {a C dx : Addr} {n : Nat} {fs : List (Str × V)} {ds : List D} (h : H a = some (.ins C dx fs)) (t : T.oc n = some (C, fs.map (·.1))) (r : Reps T K F H (fs.map (·.2)) ds) : Rep T K F H (.ref a) (.obj n ds)
inductive Reps (T : Tab) (K : PySem.W.Frag) (F : Addr → Prop) (H : Hp) : List V → List D → Prop
  | nil : Reps T K F H [] []
  | cons {v : V} {vs : List V} {d : D} {ds : List D} (r : Rep T K F H v d) (t : Reps T K F H vs ds) : Reps T K F H (v :: vs) (d :: ds)
end
noncomputable def Keep (F : Addr → Prop) (H H' : Hp) : Prop := ∀ a o, H a = some o → (F a ∨ ∀ xs, o ≠ HO.lst xs) → H' a = some o
noncomputable def Ext (H H' : Hp) : Prop := ∀ a o, H a = some o → H' a = some o
theorem Ext.keep {F : Addr → Prop} {H H' : Hp} (h : Ext H H') : Keep F H H' := fun a o e _ => h a o e
theorem Ext.refl (H : Hp) : Ext H H := fun _ _ e => e
theorem Ext.trans {H H1 H2 : Hp} (a : Ext H H1) (b : Ext H1 H2) : Ext H H2 := fun x o e => b x o (a x o e)
theorem Ext.upd {H : Hp} {p : Addr} {o : HO} (h : H p = none) : Ext H (upd H p o) := fun a u e => by
  rw [upd_ne (ne_of_none e h)]; exact e
theorem Ext.none {H H' : Hp} (h : Ext H H') {a : Addr} (e : H' a = none) : H a = none := by
  cases q : H a with
  | none => rfl
  | some o => rw [h a o q] at e; cases e
theorem SqT.keep {F : Addr → Prop} {H H' : Hp} {a : Addr} {xs : List V} (k : Keep F H H') (h : SqT K H a xs) : SqT K H' a xs := by
  rcases h with (h | ⟨o, h⟩) | h
  · exact .inl (.inl (k a _ h (.inr fun _ z => nomatch z)))
  · exact .inl (.inr ⟨o, k a _ h (.inr fun _ z => nomatch z)⟩)
  · exact .inr h
theorem SqF.keep {F F' : Addr → Prop} {H H' : Hp} {a : Addr} {xs : List V} (k : Keep F H H') (f : ∀ a, F a → F' a) (h : SqF K F H a xs) : SqF K F' H' a xs := by
  rcases h with ⟨hf, h | ⟨o, h⟩⟩ | h
  · exact .inl ⟨f a hf, .inl (k a _ h (.inl hf))⟩
  · exact .inl ⟨f a hf, .inr ⟨o, k a _ h (.inl hf)⟩⟩
  · exact .inr h
mutual
theorem Rep.keep {F F' : Addr → Prop} {H H' : Hp} (k : Keep F H H') (f : ∀ a, F a → F' a) : ∀ {v : V} {d : D}, Rep T K F H v d → Rep T K F' H' v d
  | _, _, .non => .non
  | _, _, .bl b => .bl b
  | _, _, .int i => .int i
  | _, _, .str x => .str x
  | _, _, .tup h r => .tup (SqT.keep k h) (Reps.keep k f r)
  | _, _, .lst h r => .lst (h.keep k f) (Reps.keep k f r)
  | _, _, .dct h => .dct (k _ _ h (.inr fun _ z => nomatch z))
  | _, _, .fn h => .fn h
  | _, _, .exn h nl e => .exn (k _ _ h (.inr nl)) nl e
  | _, _, .obj h t r => .obj (k _ _ h (.inr fun _ z => nomatch z)) t (Reps.keep k f r)
theorem Reps.keep {F F' : Addr → Prop} {H H' : Hp} (k : Keep F H H') (f : ∀ a, F a → F' a) : ∀ {vs : List V} {ds : List D}, Reps T K F H vs ds → Reps T K F' H' vs ds
  | _, _, .nil => .nil
  | _, _, .cons r t => .cons (Rep.keep k f r) (Reps.keep k f t)
end
theorem Reps.length {F : Addr → Prop} {H : Hp} : ∀ {vs : List V} {ds : List D}, Reps T K F H vs ds → vs.length = ds.length
  | _, _, .nil => rfl
  | _, _, .cons _ t => by simp [Reps.length t]
theorem Reps.get {F : Addr → Prop} {H : Hp} : ∀ {vs : List V} {ds : List D} {i : Nat} {d : D}, Reps T K F H vs ds → ds[i]? = some d → ∃ v, vs[i]? = some v ∧ Rep T K F H v d
  | _, _, _, _, .nil, e => by simp at e
  | _, _, 0, _, .cons r _, e => by simp at e; subst e; exact ⟨_, rfl, r⟩
  | _, _, i + 1, d, .cons _ t, e => by
    obtain ⟨v, h1, h2⟩ := Reps.get (i := i) (d := d) t (by simpa using e)
    exact ⟨v, by simpa using h1, h2⟩
theorem Reps.get' {F : Addr → Prop} {H : Hp} : ∀ {vs : List V} {ds : List D} {i : Nat} {v : V}, Reps T K F H vs ds → vs[i]? = some v → ∃ d, ds[i]? = some d ∧ Rep T K F H v d
  | _, _, _, _, .nil, e => by simp at e
  | _, _, 0, _, .cons r _, e => by simp at e; subst e; exact ⟨_, rfl, r⟩
  | _, _, i + 1, d, .cons _ t, e => by
    obtain ⟨v, h1, h2⟩ := Reps.get' (i := i) (v := d) t (by simpa using e)
    exact ⟨v, by simpa using h1, h2⟩
theorem Reps.append {F : Addr → Prop} {H : Hp} : ∀ {vs us : List V} {ds es : List D}, Reps T K F H vs ds → Reps T K F H us es → Reps T K F H (vs ++ us) (ds ++ es)
  | _, _, _, _, .nil, s => s
  | _, _, _, _, .cons r t, s => .cons r (Reps.append t s)
theorem Reps.take {F : Addr → Prop} {H : Hp} : ∀ {vs : List V} {ds : List D} (n : Nat), Reps T K F H vs ds → Reps T K F H (vs.take n) (ds.take n)
  | _, _, 0, _ => .nil
  | _, _, _ + 1, .nil => .nil
  | _, _, n + 1, .cons r t => .cons r (Reps.take n t)
theorem Reps.drop {F : Addr → Prop} {H : Hp} : ∀ {vs : List V} {ds : List D} (n : Nat), Reps T K F H vs ds → Reps T K F H (vs.drop n) (ds.drop n)
  | _, _, 0, r => r
  | _, _, _ + 1, .nil => .nil
  | _, _, n + 1, .cons _ t => Reps.drop n t
theorem Reps.ints {F : Addr → Prop} {H : Hp} : ∀ (ns : List Int), Reps T K F H (ns.map V.int) (ns.map D.int)
  | [] => .nil
  | n :: ns => .cons (.int n) (Reps.ints ns)
structure Grow (H H' : Hp) (F F' : Addr → Prop) : Prop where
  ext : Ext H H'
  more : ∀ a, F a → F' a
  new : ∀ a, F' a → F a ∨ H a = none
  wf : ∀ a, F' a → H' a ≠ none
theorem Grow.refl {H : Hp} {F : Addr → Prop} (w : ∀ a, F a → H a ≠ none) : Grow H H F F := ⟨.refl H, fun _ h => h, fun _ h => .inl h, w⟩
theorem Grow.trans {H H1 H2 : Hp} {F F1 F2 : Addr → Prop} (a : Grow H H1 F F1) (b : Grow H1 H2 F1 F2) : Grow H H2 F F2 :=
  ⟨a.ext.trans b.ext, fun x h => b.more x (a.more x h), fun x h => by
    rcases b.new x h with h | h
    · exact a.new x h
    · exact .inr (a.ext.none h), b.wf⟩
theorem Rep.grow {H H' : Hp} {F F' : Addr → Prop} {v : V} {d : D} (g : Grow H H' F F') (r : Rep T K F H v d) : Rep T K F' H' v d := r.keep g.ext.keep g.more
theorem Reps.grow {H H' : Hp} {F F' : Addr → Prop} {v : List V} {d : List D} (g : Grow H H' F F') (r : Reps T K F H v d) : Reps T K F' H' v d := r.keep g.ext.keep g.more
theorem Grow.upd {H : Hp} {F : Addr → Prop} {p : Addr} {o : HO} (w : ∀ a, F a → H a ≠ none) (h : H p = none) : Grow H (L2.upd H p o) F F :=
  ⟨.upd h, fun _ x => x, fun _ x => .inl x, fun a x => by
    by_cases e : a = p
    · subst e; rw [upd_same]; simp
    · rw [upd_ne e]; exact w a x⟩
theorem Grow.updF {H : Hp} {F : Addr → Prop} {p : Addr} {o : HO} (w : ∀ a, F a → H a ≠ none) (h : H p = none) : Grow H (L2.upd H p o) F (fun a => F a ∨ a = p) :=
  ⟨.upd h, fun _ x => .inl x, fun a x => by
    rcases x with x | x
    · exact .inl x
    · subst x; exact .inr h, fun a x => by
    by_cases e : a = p
    · subst e; rw [upd_same]; simp
    · rw [upd_ne e]
      rcases x with x | x
      · exact w a x
      · exact absurd x e⟩
structure Later (H H' : Hp) (F F' : Addr → Prop) : Prop where
  keep : Keep F H H'
  more : ∀ a, F a → F' a
theorem Later.refl {H : Hp} {F : Addr → Prop} : Later H H F F := ⟨fun _ _ e _ => e, fun _ h => h⟩
theorem Grow.later {H H' : Hp} {F F' : Addr → Prop} (g : Grow H H' F F') : Later H H' F F' := ⟨g.ext.keep, g.more⟩
theorem Later.trans {H H1 H2 : Hp} {F F1 F2 : Addr → Prop} (a : Later H H1 F F1) (b : Later H1 H2 F1 F2) : Later H H2 F F2 :=
  ⟨fun x o e z => b.keep x o (a.keep x o e z) (z.imp (a.more x) fun z => z), fun x h => b.more x (a.more x h)⟩
structure Ent where
  H : Hp
  F : Addr → Prop
structure Rel (T : Tab) (K : PySem.W.Frag) (c : Ent) (ρ : Rho) (σ : St) (H : Hp) (F : Addr → Prop) : Prop where
  len : ρ.length = σ.length
  sh : ∀ (i : Nat) (d : D), ρ[i]? = some (some (.sh d)) → ∃ v, σ[i]? = some (some v) ∧ Rep T K F H v d
  own : ∀ (i : Nat) (ds : List D), ρ[i]? = some (some (.own ds)) → ∃ p vs, σ[i]? = some (some (.ref p)) ∧ H p = some (.lst vs) ∧ Reps T K F H vs ds ∧ ¬ F p ∧ c.H p = none ∧
    ∀ (j : Nat) (ds' : List D), ρ[j]? = some (some (.own ds')) → σ[j]? = some (some (.ref p)) → j = i
  ext : Ext c.H H
  f0 : ∀ a, c.F a → F a
  f1 : ∀ a, F a → c.F a ∨ c.H a = none
  wf : ∀ a, F a → H a ≠ none
theorem Rel.grow {c : Ent} {ρ : Rho} {σ : St} {H H' : Hp} {F F' : Addr → Prop} (r : Rel T K c ρ σ H F) (g : Grow H H' F F') : Rel T K c ρ σ H' F' where
  len := r.len
  sh := fun i d e => let ⟨v, h1, h2⟩ := r.sh i d e; ⟨v, h1, h2.grow g⟩
  own := fun i ds e => by
    obtain ⟨p, vs, h1, h2, h3, h4, h5, h6⟩ := r.own i ds e
    refine ⟨p, vs, h1, g.ext _ _ h2, h3.grow g, fun z => ?_, h5, h6⟩
    rcases g.new p z with z | z
    · exact h4 z
    · rw [h2] at z; cases z
  ext := r.ext.trans g.ext
  f0 := fun a h => g.more a (r.f0 a h)
  f1 := fun a h => by
    rcases g.new a h with z | z
    · exact r.f1 a z
    · exact .inr (r.ext.none z)
  wf := g.wf
theorem Rel.growE {c : Ent} {ρ : Rho} {σ : St} {H : Hp} {F : Addr → Prop} (r : Rel T K c ρ σ H F) : Grow c.H H c.F F := ⟨r.ext, r.f0, r.f1, r.wf⟩
theorem get_set_ne {α : Type} {xs : List α} {i j : Nat} {x : α} (h : j ≠ i) : (xs.set i x)[j]? = xs[j]? := List.getElem?_set_ne (Ne.symm h)
theorem get_set_eq {α : Type} {xs : List α} {i : Nat} {x y : α} (h : (xs.set i x)[i]? = some y) : y = x ∧ i < xs.length := by
  rw [List.getElem?_set_self'] at h
  cases e : xs[i]? with
  | none => rw [e] at h; simp at h
  | some z =>
    rw [e] at h
    simp at h
    exact ⟨h.symm, (List.getElem?_eq_some_iff.mp e).1⟩
theorem Rel.set {c : Ent} {ρ : Rho} {σ : St} {H : Hp} {F : Addr → Prop} (r : Rel T K c ρ σ H F) {i : Nat} {v : V} {d : D} (h : Rep T K F H v d) : Rel T K c (ρ.set i (some (.sh d))) (σ.set i (some v)) H F where
  len := by rw [List.length_set, List.length_set]; exact r.len
  sh := fun j e q => by
    by_cases hj : j = i
    · subst hj
      obtain ⟨z, hl⟩ := get_set_eq q
      cases z
      refine ⟨v, ?_, h⟩
      rw [List.getElem?_set_self (by rw [← r.len]; exact hl)]
    · rw [get_set_ne hj] at q ⊢
      exact r.sh j e q
  own := fun j ds q => by
    by_cases hj : j = i
    · subst hj
      obtain ⟨z, hl⟩ := get_set_eq q
      cases z
    · rw [get_set_ne hj] at q ⊢
      obtain ⟨p, vs, h1, h2, h3, h4, h5, h6⟩ := r.own j ds q
      refine ⟨p, vs, h1, h2, h3, h4, h5, fun k ds' q1 q2 => ?_⟩
      by_cases hk : k = i
      · subst hk
        obtain ⟨z, hl⟩ := get_set_eq q1
        cases z
      · rw [get_set_ne hk] at q1 q2
        exact h6 k ds' q1 q2
  ext := r.ext
  f0 := r.f0
  f1 := r.f1
  wf := r.wf
theorem Rel.setOwn {c : Ent} {ρ : Rho} {σ : St} {H : Hp} {F : Addr → Prop} (r : Rel T K c ρ σ H F) {i : Nat} {p : Addr} {vs : List V} {ds : List D} (hp : H p = some (.lst vs)) (h : Reps T K F H vs ds) (nf : ¬ F p) (n0 : c.H p = none)
    (nj : ∀ (j : Nat) (ds' : List D), ρ[j]? = some (some (.own ds')) → σ[j]? ≠ some (some (.ref p))) : Rel T K c (ρ.set i (some (.own ds))) (σ.set i (some (.ref p))) H F where
  len := by rw [List.length_set, List.length_set]; exact r.len
  sh := fun j e q => by
    by_cases hj : j = i
    · subst hj
      obtain ⟨z, hl⟩ := get_set_eq q
      cases z
    · rw [get_set_ne hj] at q ⊢
      exact r.sh j e q
  own := fun j ds' q => by
    by_cases hj : j = i
    · subst hj
      obtain ⟨z, hl⟩ := get_set_eq q
      cases z
      refine ⟨p, vs, ?_, hp, h, nf, n0, fun k ds' q1 q2 => ?_⟩
      · rw [List.getElem?_set_self (by rw [← r.len]; exact hl)]
      · by_cases hk : k = j
        · exact hk
        · rw [get_set_ne hk] at q1 q2
          exact absurd q2 (nj k ds' q1)
    · rw [get_set_ne hj] at q ⊢
      obtain ⟨p', vs', h1, h2, h3, h4, h5, h6⟩ := r.own j ds' q
      refine ⟨p', vs', h1, h2, h3, h4, h5, fun k ds' q1 q2 => ?_⟩
      by_cases hk : k = i
      · subst hk
        obtain ⟨z, hl⟩ := get_set_eq q2
        have : p' = p := by cases z; rfl
        subst this
        exact absurd h1 (nj j _ q)
      · rw [get_set_ne hk] at q1 q2
        exact h6 k ds' q1 q2
  ext := r.ext
  f0 := r.f0
  f1 := r.f1
  wf := r.wf
theorem Rel.drop {c : Ent} {ρ : Rho} {σ : St} {H : Hp} {F : Addr → Prop} (r : Rel T K c ρ σ H F) {i : Nat} {o : Option V} : Rel T K c (ρ.set i none) (σ.set i o) H F where
  len := by rw [List.length_set, List.length_set]; exact r.len
  sh := fun j e q => by
    by_cases hj : j = i
    · subst hj
      obtain ⟨z, hl⟩ := get_set_eq q
      cases z
    · rw [get_set_ne hj] at q ⊢
      exact r.sh j e q
  own := fun j ds q => by
    by_cases hj : j = i
    · subst hj
      obtain ⟨z, hl⟩ := get_set_eq q
      cases z
    · rw [get_set_ne hj] at q ⊢
      obtain ⟨p, vs, h1, h2, h3, h4, h5, h6⟩ := r.own j ds q
      refine ⟨p, vs, h1, h2, h3, h4, h5, fun k ds' q1 q2 => ?_⟩
      by_cases hk : k = i
      · subst hk
        obtain ⟨z, hl⟩ := get_set_eq q1
        cases z
      · rw [get_set_ne hk] at q1 q2
        exact h6 k ds' q1 q2
  ext := r.ext
  f0 := r.f0
  f1 := r.f1
  wf := r.wf
theorem Rel.freeze {c : Ent} {ρ : Rho} {σ : St} {H : Hp} {F : Addr → Prop} (r : Rel T K c ρ σ H F) {i : Nat} {ds : List D} (e : ρ[i]? = some (some (.own ds))) : ∃ F', (∀ a, F a → F' a) ∧ Rel T K c (ρ.set i (some (.sh (.lst ds)))) σ H F' := by
  obtain ⟨p, vs, h1, h2, h3, h4, h5, h6⟩ := r.own i ds e
  have k : Keep F H H := fun a o e _ => e
  have f : ∀ a, F a → (fun a => F a ∨ a = p) a := fun a h => .inl h
  refine ⟨fun a => F a ∨ a = p, f, ?_, fun j e q => ?_, fun j ds' q => ?_, r.ext, fun a h => .inl (r.f0 a h), fun a h => ?_, fun a h => ?_⟩
  · rw [List.length_set]; exact r.len
  · by_cases hj : j = i
    · subst hj
      obtain ⟨z, hl⟩ := get_set_eq q
      cases z
      exact ⟨_, h1, .lst (.inl ⟨.inr rfl, .inl h2⟩) (h3.keep k f)⟩
    · rw [get_set_ne hj] at q
      obtain ⟨v, q1, q2⟩ := r.sh j e q
      exact ⟨v, q1, q2.keep k f⟩
  · by_cases hj : j = i
    · subst hj
      obtain ⟨z, hl⟩ := get_set_eq q
      cases z
    · rw [get_set_ne hj] at q
      obtain ⟨p', vs', q1, q2, q3, q4, q5, q6⟩ := r.own j ds' q
      refine ⟨p', vs', q1, q2, q3.keep k f, ?_, q5, fun m ds'' w1 w2 => ?_⟩
      · rintro (z | z)
        · exact q4 z
        · subst z
          exact hj (h6 j ds' q q1)
      · by_cases hm : m = i
        · subst hm
          obtain ⟨z, hl⟩ := get_set_eq w1
          cases z
        · rw [get_set_ne hm] at w1
          exact q6 m ds'' w1 w2
  · rcases h with h | h
    · exact r.f1 a h
    · subst h; exact .inr h5
  · rcases h with h | h
    · exact r.wf a h
    · subst h; rw [h2]; simp
theorem Rel.change {c : Ent} {ρ : Rho} {σ : St} {H : Hp} {F : Addr → Prop} (r : Rel T K c ρ σ H F) {i : Nat} {ds ds' : List D} {p : Addr} {vs' : List V} (e : ρ[i]? = some (some (.own ds))) (hp : σ[i]? = some (some (.ref p))) (h : Reps T K F H vs' ds') :
    Keep F H (upd H p (.lst vs')) ∧ Rel T K c (ρ.set i (some (.own ds'))) σ (upd H p (.lst vs')) F := by
  obtain ⟨p', vs, h1, h2, h3, h4, h5, h6⟩ := r.own i ds e
  have : p' = p := by rw [hp] at h1; cases h1; rfl
  subst this
  have k : Keep F H (upd H p' (.lst vs')) := fun a o q z => by
    by_cases ha : a = p'
    · subst ha
      rcases z with z | z
      · exact absurd z h4
      · rw [h2] at q; cases q; exact absurd rfl (z vs)
    · rw [upd_ne ha]; exact q
  refine ⟨k, by rw [List.length_set]; exact r.len, fun j d q => ?_, fun j es q => ?_, fun a o q => ?_, r.f0, r.f1, fun a q => ?_⟩
  · by_cases hj : j = i
    · subst hj
      obtain ⟨z, _⟩ := get_set_eq q
      cases z
    · rw [get_set_ne hj] at q
      obtain ⟨v, q1, q2⟩ := r.sh j d q
      exact ⟨v, q1, q2.keep k fun _ z => z⟩
  · by_cases hj : j = i
    · subst hj
      obtain ⟨z, _⟩ := get_set_eq q
      cases z
      refine ⟨p', vs', h1, upd_same, h.keep k fun _ z => z, h4, h5, fun m es w1 w2 => ?_⟩
      by_cases hm : m = j
      · exact hm
      · rw [get_set_ne hm] at w1
        exact h6 m es w1 w2
    · rw [get_set_ne hj] at q
      obtain ⟨p2, vs2, q1, q2, q3, q4, q5, q6⟩ := r.own j es q
      have hne : p2 ≠ p' := fun z => by subst z; exact hj (h6 j es q q1)
      refine ⟨p2, vs2, q1, by rw [upd_ne hne]; exact q2, q3.keep k fun _ z => z, q4, q5, fun m es' w1 w2 => ?_⟩
      by_cases hm : m = i
      · subst hm
        rw [h1] at w2
        exact absurd (by cases w2; rfl) hne
      · rw [get_set_ne hm] at w1
        exact q6 m es' w1 w2
  · by_cases ha : a = p'
    · subst ha; rw [h5] at q; cases q
    · rw [upd_ne ha]; exact r.ext a o q
  · by_cases ha : a = p'
    · subst ha; rw [upd_same]; simp
    · rw [upd_ne ha]; exact r.wf a q
end BD

namespace BD
open PySem L2
variable {T : Tab} {K : PySem.W.Frag}
theorem PE.imp {X : Cx} {e : Expr} {t t' : TE} (h : PE X e t) (w : ∀ σ H Q, t' σ H Q → t σ H Q) : PE X e t' := fun pins s σ H Q I q => h pins s σ H Q I (w σ H Q q)
theorem PT.imp {X : Cx} {e : Expr} {t t' : TT} (h : PT X e t) (w : ∀ σ H Q, t' σ H Q → t σ H Q) : PT X e t' := fun pins s σ H Q I q => h pins s σ H Q I (w σ H Q q)
theorem PW.imp {X : Cx} {e : Expr} {t t' : TT} (h : PW X e t) (w : ∀ σ H Q, t' σ H Q → t σ H Q) : PW X e t' := fun wh pins s σ H Q I q => h wh pins s σ H Q I (w σ H Q q)
theorem PA.imp {X : Cx} {e : List Expr} {t t' : TA} (h : PA X e t) (w : ∀ σ H Q, t' σ H Q → t σ H Q) : PA X e t' := fun pos pins s σ H Q I q => h pos pins s σ H Q I (w σ H Q q)
theorem PS.imp {X : Cx} {e : Stmt} {t t' : TS} (h : PS X e t) (w : ∀ D σ H, t' D σ H → t D σ H) : PS X e t' := fun pins s σ H D I q => h pins s σ H D I (w D σ H q)
theorem PSs.imp {X : Cx} {e : List Stmt} {t t' : TS} (h : PSs X e t) (w : ∀ D σ H, t' D σ H → t D σ H) : PSs X e t' := fun pins s σ H D I q => h pins s σ H D I (w D σ H q)
theorem PG.imp {X : Cx} {e : Expr} {t t' : TG} (h : PG X e t) (w : ∀ v σ H Q, t' v σ H Q → t v σ H Q) : PG X e t' := fun pins s σ H v u Q I r q => h pins s σ H v u Q I r (w v σ H Q q)
theorem OpR.imp {X : Cx} {f : Value → Value → Sem Value} {r r' : R2} (h : OpR X f r) (w : ∀ x y H Q, r' x y H Q → r x y H Q) : OpR X f r' := fun pins s σ H x y v u Q I rx ry q => h pins s σ H x y v u Q I rx ry (w x y H Q q)
theorem CallR.imp {X : Cx} {f : Value} {r r' : List V → Hp → VK → Prop} (h : CallR X f r) (w : ∀ x H Q, r' x H Q → r x H Q) : CallR X f r' := fun pins s σ H x v Q I rx q => h pins s σ H x v Q I rx (w x H Q q)
noncomputable def Then (T : Tab) (K : PySem.W.Frag) (E : XK) (H : Hp) (F : Addr → Prop) (Q : VK) : Out → Prop
  | .val d => ∀ v H' F', Grow H H' F F' → Rep T K F' H' v d → Q v H'
  | .exc n => ∀ H', Ext H H' → E (T.clsV n) none H'
theorem Then.grow {E : XK} {H H1 : Hp} {F F1 : Addr → Prop} {Q : VK} {o : Out} (g : Grow H H1 F F1) (h : Then T K E H F Q o) : Then T K E H1 F1 Q o := by
  cases o with
  | val d => exact fun v H' F' g' r => h v H' F' (g.trans g') r
  | exc n => exact fun H' e => h H' (g.ext.trans e)
noncomputable def tD (T : Tab) (K : PySem.W.Frag) (E : XK) (f : Ev) : TE := fun σ H Q => ∃ c ρ F out, Rel T K c ρ σ H F ∧ f ρ = some out ∧ Then T K E H F Q out
noncomputable def ThenB (T : Tab) (E : XK) (H : Hp) (F : Addr → Prop) (Q : Bool → Hp → Prop) : Out → Prop
  | .val (.bl b) => ∀ H' F', Grow H H' F F' → Q b H'
  | .val _ => False
  | .exc n => ∀ H', Ext H H' → E (T.clsV n) none H'
noncomputable def tDT (T : Tab) (K : PySem.W.Frag) (E : XK) (f : Ev) : TT := fun σ H Q => ∃ c ρ F out, Rel T K c ρ σ H F ∧ f ρ = some out ∧ ThenB T E H F Q out
theorem ThenB.grow {E : XK} {H H1 : Hp} {F F1 : Addr → Prop} {Q : Bool → Hp → Prop} {o : Out} (g : Grow H H1 F F1) (h : ThenB T E H F Q o) : ThenB T E H1 F1 Q o := by
  cases o with
  | val d =>
    cases d with
    | bl b => exact fun H' F' g' => h H' F' (g.trans g')
    | _ => exact h
  | exc n => exact fun H' e => h H' (g.ext.trans e)
noncomputable def ThenL (T : Tab) (K : PySem.W.Frag) (E : XK) (H : Hp) (F : Addr → Prop) (Q : List V → Hp → Prop) : OutL → Prop
  | .vals ds => ∀ vs H' F', Grow H H' F F' → Reps T K F' H' vs ds → Q vs H'
  | .exc n => ∀ H', Ext H H' → E (T.clsV n) none H'
noncomputable def tDA (T : Tab) (K : PySem.W.Frag) (E : XK) (f : EvL) : TA := fun σ H Q => ∃ c ρ F out, Rel T K c ρ σ H F ∧ f ρ = some out ∧ ThenL T K E H F Q out
noncomputable def obnd (o : Option Out) (k : D → Option Out) : Option Out := match o with
  | some (.val d) => k d
  | some (.exc n) => some (.exc n)
  | none => none
noncomputable def obndL (o : Option Out) (k : D → Option OutL) : Option OutL := match o with
  | some (.val d) => k d
  | some (.exc n) => some (.exc n)
  | none => none
noncomputable def lbnd (o : Option OutL) (k : List D → Option Out) : Option Out := match o with
  | some (.vals d) => k d
  | some (.exc n) => some (.exc n)
  | none => none
noncomputable def lbndL (o : Option OutL) (k : List D → Option OutL) : Option OutL := match o with
  | some (.vals d) => k d
  | some (.exc n) => some (.exc n)
  | none => none
theorem obnd_some {o : Option Out} {k : D → Option Out} {out : Out} (h : obnd o k = some out) : (∃ d, o = some (.val d) ∧ k d = some out) ∨ ∃ n, o = some (.exc n) ∧ out = .exc n := by
  unfold obnd at h
  split at h
  · exact .inl ⟨_, rfl, h⟩
  · cases h; exact .inr ⟨_, rfl, rfl⟩
  · cases h
theorem lbnd_some {o : Option OutL} {k : List D → Option Out} {out : Out} (h : lbnd o k = some out) : (∃ d, o = some (.vals d) ∧ k d = some out) ∨ ∃ n, o = some (.exc n) ∧ out = .exc n := by
  unfold lbnd at h
  split at h
  · exact .inl ⟨_, rfl, h⟩
  · cases h; exact .inr ⟨_, rfl, rfl⟩
  · cases h
section
variable {E : XK} {c : Ent} {ρ : Rho} {σ : L2.St} {H : Hp} {F : Addr → Prop}
theorem tD_bind {f : Ev} {k : D → Option Out} {Q : VK} {out : Out} (r : Rel T K c ρ σ H F) (e : obnd (f ρ) k = some out) (hv : ∀ d v H' F', Grow H H' F F' → Rep T K F' H' v d → k d = some out → Q v H')
    (hx : ∀ n, out = .exc n → ∀ H', Ext H H' → E (T.clsV n) none H') : tD T K E f σ H Q := by
  rcases obnd_some e with ⟨d, e1, e2⟩ | ⟨n, e1, e2⟩
  · exact ⟨c, ρ, F, _, r, e1, fun v H' F' g rp => hv d v H' F' g rp e2⟩
  · exact ⟨c, ρ, F, _, r, e1, hx n e2⟩
theorem tDA_bind {f : EvL} {k : List D → Option Out} {Q : List V → Hp → Prop} {out : Out} (r : Rel T K c ρ σ H F) (e : lbnd (f ρ) k = some out) (hv : ∀ d v H' F', Grow H H' F F' → Reps T K F' H' v d → k d = some out → Q v H')
    (hx : ∀ n, out = .exc n → ∀ H', Ext H H' → E (T.clsV n) none H') : tDA T K E f σ H Q := by
  rcases lbnd_some e with ⟨d, e1, e2⟩ | ⟨n, e1, e2⟩
  · exact ⟨c, ρ, F, _, r, e1, fun v H' F' g rp => hv d v H' F' g rp e2⟩
  · exact ⟨c, ρ, F, _, r, e1, hx n e2⟩
theorem Then.exc {Q : VK} {out : Out} (h : Then T K E H F Q out) : ∀ n, out = .exc n → ∀ H', Ext H H' → E (T.clsV n) none H' := fun n e => by subst e; exact h
theorem ThenB.exc {Q : Bool → Hp → Prop} {out : Out} (h : ThenB T E H F Q out) : ∀ n, out = .exc n → ∀ H', Ext H H' → E (T.clsV n) none H' := fun n e => by subst e; exact h
end
section
variable {X : Cx} {E : XK} {a b e : Expr} {es : List Expr} {pos : Pos}
noncomputable def eVar (i : Nat) : Ev := fun ρ => match ρ[i]? with
  | some (some (.sh d)) => some (.val d)
  | _ => none
theorem de_var {i : Nat} (h : PE X e (tVar i)) : PE X e (tD T K E (eVar i)) := PE.imp h fun σ H Q ⟨c, ρ, F, out, r, e, th⟩ => by
  unfold eVar at e
  split at e
  · rename_i d q
    cases e
    obtain ⟨v, h1, h2⟩ := r.sh i d q
    exact ⟨v, h1, th v H F (.refl r.wf) h2⟩
  · cases e
noncomputable def eC (d : D) : Ev := fun _ => some (.val d)
theorem de_int {i j pos} : PE X (.Constant (.int i) j pos) (tD T K E (eC (.int i))) := PE.imp pe_int fun σ H Q ⟨c, ρ, F, out, r, e, th⟩ => by cases e; exact th _ H F (.refl r.wf) (.int i)
theorem de_bl {i j pos} : PE X (.Constant (.bool i) j pos) (tD T K E (eC (.bl i))) := PE.imp pe_bl fun σ H Q ⟨c, ρ, F, out, r, e, th⟩ => by cases e; exact th _ H F (.refl r.wf) (.bl i)
theorem de_non {j pos} : PE X (.Constant .none j pos) (tD T K E (eC .non)) := PE.imp pe_non fun σ H Q ⟨c, ρ, F, out, r, e, th⟩ => by cases e; exact th _ H F (.refl r.wf) .non
theorem de_glob {x : Str} {v : V} {u : Value} {d : D} (hg : Gl X x) (hm : X.mg x = some u) (r : RelV v u) (hr : ∀ F H, Rep T K F H v d) (hd : (x == ("__debug__" : Str)) = false := by decide) : PE X (.Name x pos) (tD T K E (eC d)) :=
  PE.imp (pe_glob hg hm r hd) fun σ H Q ⟨c, ρ, F, out, r, e, th⟩ => by cases e; exact th _ H F (.refl r.wf) (hr F H)
noncomputable def aNil : EvL := fun _ => some (.vals [])
noncomputable def aCons (f : Ev) (g : EvL) : EvL := fun ρ => obndL (f ρ) fun d => lbndL (g ρ) fun ds => some (.vals (d :: ds))
theorem da_nil : PA X [] (tDA T K E aNil) := PA.imp pa_nil fun σ H Q ⟨c, ρ, F, out, r, e, th⟩ => by cases e; exact th _ H F (.refl r.wf) .nil
theorem da_cons {f : Ev} {g : EvL} (ha : PE X e (tD T K E f)) (hr : PA X es (tDA T K E g)) (hs : starEach (e :: es) X.env = (false, eval e X.env) :: starEach es X.env := by rfl) : PA X (e :: es) (tDA T K E (aCons f g)) :=
  PA.imp (pa_cons ha hr hs) fun σ H Q ⟨c, ρ, F, out, r, e, th⟩ => by
    unfold aCons obndL at e
    split at e
    · rename_i d q
      refine ⟨c, ρ, F, _, r, q, fun v H1 F1 g1 r1 => ?_⟩
      unfold lbndL at e
      split at e
      · rename_i ds q2
        cases e
        exact ⟨c, ρ, F1, _, r.grow g1, q2, fun vs H2 F2 g2 r2 => th _ H2 F2 (g1.trans g2) (.cons (r1.grow g2) r2)⟩
      · rename_i n q2
        cases e
        exact ⟨c, ρ, F1, _, r.grow g1, q2, fun H2 e2 => th H2 (g1.ext.trans e2)⟩
      · cases e
    · rename_i n q
      cases e
      exact ⟨c, ρ, F, _, r, q, fun H2 e2 => th H2 e2⟩
    · cases e
noncomputable def smallL (ds : List D) : Bool := decide (ds.length ≤ 1000000)
theorem smallL_ok {F : Addr → Prop} {H : Hp} {ds : List D} {vs : List V} (r : Reps T K F H vs ds) (h : smallL ds = true) : vs.length < sizeLine := by
  have h := of_decide_eq_true h
  rw [r.length]
  exact Nat.lt_of_le_of_lt h (by decide)
noncomputable def eTup (g : EvL) : Ev := fun ρ => lbnd (g ρ) fun ds => if smallL ds then some (.val (.tup ds)) else none
theorem de_tup {g : EvL} {x1} (h : PA X es (tDA T K E g)) : PE X (.Tuple es x1 pos) (tD T K E (eTup g)) := PE.imp (pe_tup h) fun σ H Q ⟨c, ρ, F, out, r, e, th⟩ => by
  refine tDA_bind r e (fun ds vs H1 F1 g1 r1 e1 => ?_) th.exc
  split at e1
  · rename_i hs
    cases e1
    refine ⟨Nat.le_of_lt (smallL_ok r1 hs), fun p hp => ?_⟩
    have g2 := Grow.upd (o := .tup vs) (r.grow g1).wf hp
    exact th _ _ _ (g1.trans g2) (.tup (SqT.of upd_same) (r1.grow g2))
  · cases e1
noncomputable def tDF (T : Tab) (K : PySem.W.Frag) (E : XK) (f : EvL) : TE := fun σ H Q => ∃ c ρ F out, Rel T K c ρ σ H F ∧ f ρ = some out ∧
  match out with
  | .vals ds => ∀ p vs H1 H' F', Grow H H1 F F' → H1 p = none → H' = upd H1 p (.lst vs) → Reps T K F' H' vs ds → Q (.ref p) H'
  | .exc n => ∀ H', Ext H H' → E (T.clsV n) none H'
noncomputable def eFr (f : EvL) : Ev := fun ρ => lbnd (f ρ) fun ds => some (.val (.lst ds))
theorem de_fr {f : EvL} (h : PE X e (tDF T K E f)) : PE X e (tD T K E (eFr f)) := PE.imp h fun σ H Q ⟨c, ρ, F, out, r, e, th⟩ => by
  rcases lbnd_some e with ⟨d, e1, e2⟩ | ⟨n, e1, e2⟩
  · cases e2
    refine ⟨c, ρ, F, _, r, e1, fun p vs H1 H' F' g hp eH rp => ?_⟩
    subst eH
    have g2 := Grow.updF (o := .lst vs) (r.grow g).wf hp
    exact th _ _ _ (g.trans g2) (.lst (.inl ⟨.inr rfl, .inl upd_same⟩) (rp.keep (fun _ _ z _ => z) g2.more))
  · subst e2
    exact ⟨c, ρ, F, _, r, e1, th⟩
noncomputable def lLst (g : EvL) : EvL := fun ρ => lbndL (g ρ) fun ds => if smallL ds then some (.vals ds) else none
theorem df_lst {g : EvL} (h : PA X es (tDA T K E g)) : PE X (.List es pos) (tDF T K E (lLst g)) := PE.imp (pe_lst h) fun σ H Q ⟨c, ρ, F, out, r, e, th⟩ => by
  unfold lLst lbndL at e
  split at e
  · rename_i ds q
    dsimp only at e
    split at e
    · rename_i hs
      cases e
      refine ⟨c, ρ, F, _, r, q, fun vs H1 F1 g1 r1 => ⟨Nat.le_of_lt (smallL_ok r1 hs), fun p hp => ?_⟩⟩
      have g2 := Grow.upd (o := .lst vs) (r.grow g1).wf hp
      exact th p vs H1 _ F1 g1 hp rfl (r1.grow g2)
    · cases e
  · rename_i n q
    cases e
    exact ⟨c, ρ, F, _, r, q, th⟩
  · cases e
noncomputable def ov (o : Option D) : Option Out := o.map .val
noncomputable def rD (T : Tab) (K : PySem.W.Frag) (g : D → D → Option D) : R2 := fun x y H Q => ∃ F dx dy d, (∀ a, F a → H a ≠ none) ∧ Rep T K F H x dx ∧ Rep T K F H y dy ∧ g dx dy = some d ∧ ∀ v H' F', Grow H H' F F' → Rep T K F' H' v d → Q v H'
noncomputable def eOp (g : D → D → Option D) (fa fb : Ev) : Ev := fun ρ => obnd (fa ρ) fun x => obnd (fb ρ) fun y => ov (g x y)
theorem tOp_of {g : D → D → Option D} {fa fb : Ev} {σ : L2.St} {H : Hp} {Q : VK} (h : tD T K E (eOp g fa fb) σ H Q) : tOp (rD T K g) (tD T K E fa) (tD T K E fb) σ H Q := by
  obtain ⟨c, ρ, F, out, r, e, th⟩ := h
  refine tD_bind r e (fun d v H1 F1 g1 r1 e1 => ?_) th.exc
  have th1 := th.grow g1
  refine tD_bind (r.grow g1) e1 (fun d2 v2 H2 F2 g2 r2 e2 => ?_) th1.exc
  unfold ov at e2
  cases q : g d d2 with
  | none => rw [q] at e2; cases e2
  | some z =>
    rw [q] at e2
    cases e2
    exact ⟨F2, d, d2, z, g2.wf, r1.grow g2, r2, q, th1.grow g2⟩
theorem de_op {op : Operator} {g : D → D → Option D} {fa fb : Ev} (ho : OpR X (binaryOp op) (rD T K g)) (ha : PE X a (tD T K E fa)) (hb : PE X b (tD T K E fb)) : PE X (.BinOp a op b pos) (tD T K E (eOp g fa fb)) :=
  PE.imp (pe_op ho ha hb) fun σ H Q h => tOp_of h
theorem de_cmp {op : CmpOp} {g : D → D → Option D} {fa fb : Ev} (ho : OpR X (compareOp op) (rD T K g)) (ha : PE X a (tD T K E fa)) (hb : PE X b (tD T K E fb)) (hm : behindInMarks op b = false) : PE X (.Compare a [op] [b] pos) (tD T K E (eOp g fa fb)) :=
  PE.imp (pe_cmpR ho ha hb hm) fun σ H Q h => tOp_of h
noncomputable def i2 (g : Int → Int → Option D) : D → D → Option D
  | .int i, .int j => g i j
  | _, _ => none
theorem rD_i2 {g : Int → Int → Option D} {x y : V} {H : Hp} {Q : VK} (h : rD T K (i2 g) x y H Q) : ∃ i j d F, x = .int i ∧ y = .int j ∧ g i j = some d ∧ (∀ a, F a → H a ≠ none) ∧ ∀ v H' F', Grow H H' F F' → Rep T K F' H' v d → Q v H' := by
  obtain ⟨F, dx, dy, d, wf, r1, r2, e, k⟩ := h
  unfold i2 at e
  split at e
  · cases r1; cases r2
    exact ⟨_, _, d, F, rfl, rfl, e, wf, k⟩
  · cases e
noncomputable def smallI (i : Int) : Bool := decide (i.natAbs.log2 < 60000000)
theorem smallI_mul {i j : Int} (h1 : smallI i = true) (h2 : smallI j = true) : IntMulOk i j := by
  have h1 := of_decide_eq_true h1
  have h2 := of_decide_eq_true h2
  refine IntMulOk.of_le (m := 60000001) (n := 60000001) ?_ ?_ (by decide)
  · unfold Builtin.Int.intBits; split <;> omega
  · unfold Builtin.Int.intBits; split <;> omega
noncomputable def addI (i j : Int) : Option D := some (.int (i + j))
noncomputable def subI (i j : Int) : Option D := some (.int (i - j))
noncomputable def mulI (i j : Int) : Option D := if smallI i && smallI j then some (.int (i * j)) else none
noncomputable def divI (i j : Int) : Option D := if decide (j ≠ 0) && decide (j.natAbs.log2 < 9000) then some (.int (i.fdiv j)) else none
noncomputable def modI (i j : Int) : Option D := if decide (j ≠ 0) then some (.int (i.fmod j)) else none
noncomputable def powI (i j : Int) : Option D := if decide (0 ≤ j) && decide (j ≤ 1000000) && decide (i.natAbs < 2 ^ 64) then some (.int (i ^ j.toNat)) else none
theorem od_sub : OpR X (binaryOp .Sub) (rD T K (i2 subI)) := OpR.imp op_sub fun x y H Q h => by
  obtain ⟨i, j, d, F, rfl, rfl, e, wf, k⟩ := rD_i2 h
  cases e
  exact ⟨i, j, rfl, rfl, k _ _ F (.refl wf) (.int _)⟩
theorem od_mod : OpR X (binaryOp .Mod) (rD T K (i2 modI)) := OpR.imp op_modN fun x y H Q h => by
  obtain ⟨i, j, d, F, rfl, rfl, e, wf, k⟩ := rD_i2 h
  unfold modI at e
  split at e
  · rename_i z
    cases e
    exact ⟨i, j, rfl, rfl, of_decide_eq_true z, k _ _ F (.refl wf) (.int _)⟩
  · cases e
theorem od_pow : OpR X (binaryOp .Pow) (rD T K (i2 powI)) := OpR.imp op_pow fun x y H Q h => by
  obtain ⟨i, j, d, F, rfl, rfl, e, wf, k⟩ := rD_i2 h
  unfold powI at e
  split at e
  · rename_i z
    cases e
    simp only [Bool.and_eq_true, decide_eq_true_eq] at z
    exact ⟨i, j, rfl, rfl, ⟨z.1.1, z.1.2, z.2⟩, k _ _ F (.refl wf) (.int _)⟩
  · cases e
theorem od_div : OpR X (binaryOp .FloorDiv) (rD T K (i2 divI)) := OpR.imp (opI (C := fun _ j => j ≠ 0 ∧ j.natAbs.log2 < 9000) (g := fun i j => i.fdiv j) fun i j t u s Q E hc q => PyProof.Rows.floordiv_int hc.1 q (.inl (PyProof.noPylong_of_log2 hc.2))) fun x y H Q h => by
  obtain ⟨i, j, d, F, rfl, rfl, e, wf, k⟩ := rD_i2 h
  unfold divI at e
  split at e
  · rename_i z
    cases e
    simp only [Bool.and_eq_true, decide_eq_true_eq] at z
    exact ⟨i, j, rfl, rfl, z, k _ _ F (.refl wf) (.int _)⟩
  · cases e
theorem od_mul : OpR X (binaryOp .Mult) (rD T K (i2 mulI)) := OpR.imp (opI (C := IntMulOk) (g := fun i j => i * j) fun i j t u s Q E hc q => PyProof.Rows.mul_int q hc) fun x y H Q h => by
  obtain ⟨i, j, d, F, rfl, rfl, e, wf, k⟩ := rD_i2 h
  unfold mulI at e
  split at e
  · rename_i z
    cases e
    rw [Bool.and_eq_true] at z
    exact ⟨i, j, rfl, rfl, smallI_mul z.1 z.2, k _ _ F (.refl wf) (.int _)⟩
  · cases e
noncomputable def ltI (i j : Int) : Option D := some (.bl (decide (i < j)))
noncomputable def leI (i j : Int) : Option D := some (.bl (decide (i ≤ j)))
noncomputable def gtI (i j : Int) : Option D := some (.bl (decide (j < i)))
noncomputable def geI (i j : Int) : Option D := some (.bl (decide (j ≤ i)))
theorem od_lt : OpR X (compareOp .Lt) (rD T K (i2 ltI)) := OpR.imp op_lt fun x y H Q h => by
  obtain ⟨i, j, d, F, rfl, rfl, e, wf, k⟩ := rD_i2 h
  cases e
  exact ⟨i, j, rfl, rfl, k _ _ F (.refl wf) (.bl _)⟩
theorem od_le : OpR X (compareOp .LtE) (rD T K (i2 leI)) := OpR.imp op_le fun x y H Q h => by
  obtain ⟨i, j, d, F, rfl, rfl, e, wf, k⟩ := rD_i2 h
  cases e
  exact ⟨i, j, rfl, rfl, k _ _ F (.refl wf) (.bl _)⟩
theorem od_gt : OpR X (compareOp .Gt) (rD T K (i2 gtI)) := OpR.imp op_gt fun x y H Q h => by
  obtain ⟨i, j, d, F, rfl, rfl, e, wf, k⟩ := rD_i2 h
  cases e
  exact ⟨i, j, rfl, rfl, k _ _ F (.refl wf) (.bl _)⟩
theorem od_ge : OpR X (compareOp .GtE) (rD T K (i2 geI)) := OpR.imp op_ge fun x y H Q h => by
  obtain ⟨i, j, d, F, rfl, rfl, e, wf, k⟩ := rD_i2 h
  cases e
  exact ⟨i, j, rfl, rfl, k _ _ F (.refl wf) (.bl _)⟩
mutual
noncomputable def pyO : D → Option PyData
  | .non => some .none
  | .bl b => some (.bool b)
  | .int i => some (.int i)
  | .str x => some (.str x)
  | .tup ds => (pyOs ds).map .tuple
  | .lst ds => (pyOs ds).map .list
  | _ => none
noncomputable def pyOs : List D → Option (List PyData)
  | [] => some []
  | d :: ds => match pyO d, pyOs ds with
    | some p, some ps => some (p :: ps)
    | _, _ => none
end
mutual
theorem Rep.dp {F : Addr → Prop} {H : Hp} : ∀ {v : V} {d : D} {p : PyData}, Rep T K F H v d → pyO d = some p → Dp K H v p
  | _, _, _, .non, e => by simp only [pyO] at e; cases e; exact .non
  | _, _, _, .bl b, e => by simp only [pyO] at e; cases e; exact .bl b
  | _, _, _, .int i, e => by simp only [pyO] at e; cases e; exact .int i
  | _, _, _, .str x, e => by simp only [pyO] at e; cases e; exact .str x
  | _, _, _, .tup (ds := ds) h r, e => by
    simp only [pyO] at e
    cases q : pyOs ds with
    | none => rw [q] at e; cases e
    | some ps => rw [q] at e; cases e; exact .tup h (Reps.dp r q)
  | _, _, _, .lst (ds := ds) h r, e => by
    simp only [pyO] at e
    cases q : pyOs ds with
    | none => rw [q] at e; cases e
    | some ps => rw [q] at e; cases e; exact .lst h.sq (Reps.dp r q)
  | _, _, _, .dct _, e => by simp only [pyO] at e; cases e
  | _, _, _, .fn _, e => by simp only [pyO] at e; cases e
  | _, _, _, .exn _ _ _, e => by simp only [pyO] at e; cases e
theorem Reps.dp {F : Addr → Prop} {H : Hp} : ∀ {v : List V} {d : List D} {p : List PyData}, Reps T K F H v d → pyOs d = some p → DpAll K H v p
  | _, _, _, .nil, e => by simp only [pyOs] at e; cases e; exact .nil
  | _, _, _, .cons (d := d) (ds := ds) r t, e => by
    simp only [pyOs] at e
    cases q : pyO d with
    | none => rw [q] at e; cases e
    | some p =>
      cases q2 : pyOs ds with
      | none => rw [q, q2] at e; cases e
      | some ps => rw [q, q2] at e; cases e; exact .cons (Rep.dp r q) (Reps.dp t q2)
end
noncomputable def eqvD (x y : D) : Option Bool := match pyO x, pyO y with
  | some p, some q => if SeqAt.shaped p && SeqAt.shaped q then some (PyData.eqv p q) else none
  | _, _ => none
noncomputable def eqD (x y : D) : Option D := (eqvD x y).map .bl
noncomputable def neD (x y : D) : Option D := (eqvD x y).map fun b => .bl (!b)
theorem eqv_of {x y : D} {b : Bool} (h : eqvD x y = some b) : ∃ p q, pyO x = some p ∧ pyO y = some q ∧ SeqAt.shaped p = true ∧ SeqAt.shaped q = true ∧ b = PyData.eqv p q := by
  unfold eqvD at h
  split at h
  · rename_i p q e1 e2
    split at h
    · rename_i z
      rw [Bool.and_eq_true] at z
      cases h
      exact ⟨p, q, e1, e2, z.1, z.2, rfl⟩
    · cases h
  · cases h
theorem od_eq (hu : X.A.units + 64 < cLine) : OpR X (compareOp .Eq) (rD T X.K eqD) := OpR.imp (op_eqD hu) fun x y H Q ⟨F, dx, dy, d, wf, r1, r2, e, k⟩ => by
  unfold eqD at e
  cases q : eqvD dx dy with
  | none => rw [q] at e; cases e
  | some b =>
    rw [q] at e; cases e
    obtain ⟨p, q', e1, e2, s1, s2, rfl⟩ := eqv_of q
    exact ⟨p, q', r1.dp e1, r2.dp e2, s1, s2, k _ H F (.refl wf) (.bl _)⟩
theorem od_ne (hu : X.A.units + 64 < cLine) : OpR X (compareOp .NotEq) (rD T X.K neD) := OpR.imp (op_neD hu) fun x y H Q ⟨F, dx, dy, d, wf, r1, r2, e, k⟩ => by
  unfold neD at e
  cases q : eqvD dx dy with
  | none => rw [q] at e; cases e
  | some b =>
    rw [q] at e; cases e
    obtain ⟨p, q', e1, e2, s1, s2, rfl⟩ := eqv_of q
    exact ⟨p, q', r1.dp e1, r2.dp e2, s1, s2, k _ H F (.refl wf) (.bl _)⟩
end
end BD

namespace BD
open PySem L2
variable {T : Tab} {K : PySem.W.Frag}
section
variable {X : Cx} {E : XK} {a b c e : Expr} {es rest : List Expr} {pos : Pos}
noncomputable def eNeg (f : Ev) : Ev := fun ρ => obnd (f ρ) fun x => match x with
  | .int i => some (.val (.int (-i)))
  | _ => none
theorem de_neg {f : Ev} (h : PE X a (tD T K E f)) : PE X (.UnaryOp .USub a pos) (tD T K E (eNeg f)) := PE.imp (pe_un un_neg h) fun σ H Q ⟨c, ρ, F, out, r, e, th⟩ => by
  refine tD_bind r e (fun d v H1 F1 g1 r1 e1 => ?_) th.exc
  split at e1
  · cases r1; cases e1
    exact ⟨_, rfl, th _ _ _ g1 (.int _)⟩
  · cases e1
noncomputable def truthD : D → Option Bool
  | .non => some false
  | .bl b => some b
  | .int i => some (i != 0)
  | .tup ds => some (!ds.isEmpty)
  | .lst ds => some (!ds.isEmpty)
  | _ => none
noncomputable def qV (f : Ev) : Ev := fun ρ => obnd (f ρ) fun x => ov ((truthD x).map .bl)
theorem reps_empty {F : Addr → Prop} {H : Hp} {vs : List V} {ds : List D} (r : Reps T K F H vs ds) : vs.isEmpty = ds.isEmpty := by cases r <;> rfl
theorem truth_ok {F : Addr → Prop} {H : Hp} {v : V} {d : D} {k : Bool} (r : Rep T K F H v d) (e : truthD d = some k) : TruV K v H k := by
  cases r with
  | non => simp only [truthD] at e; cases e; rfl
  | bl b => simp only [truthD] at e; cases e; rfl
  | int i => simp only [truthD] at e; cases e; rfl
  | str x => cases e
  | tup h r => simp only [truthD] at e; cases e; exact .inr (.inl ⟨_, h, by rw [reps_empty r]⟩)
  | lst h r => simp only [truthD] at e; cases e; exact .inl ⟨_, h.sq, by rw [reps_empty r]⟩
  | dct h => cases e
  | fn h => cases e
  | exn h _ _ => cases e
  | obj h _ _ => cases e
theorem dt_val {f : Ev} (h : PE X a (tD T X.K E f)) (he : ∀ whole, isTrue a X.env whole = (do let v ← whole; standAt a.pos; holding [v] (truthy v)) := by intro _; rfl) : PT X a (tDT T X.K E (qV f)) :=
  PT.imp (pt_truth h he) fun σ H Q ⟨c, ρ, F, out, r, e, th⟩ => by
    refine tD_bind r e (fun d v H1 F1 g1 r1 e1 => ?_) th.exc
    cases q : truthD d with
    | none => rw [q] at e1; cases e1
    | some k =>
      rw [q] at e1; cases e1
      exact ⟨k, truth_ok r1 q, th H1 F1 g1⟩
theorem tTest_of {g : D → D → Option D} {fa fb : Ev} {σ : L2.St} {H : Hp} {Q : Bool → Hp → Prop} (h : tDT T K E (eOp g fa fb) σ H Q) : tTest (tOp (rD T K g) (tD T K E fa) (tD T K E fb)) σ H Q := by
  obtain ⟨c, ρ, F, out, r, e, th⟩ := h
  refine tOp_of ⟨c, ρ, F, out, r, e, ?_⟩
  cases out with
  | exc n => exact th
  | val d =>
    intro v H' F' g r'
    cases d with
    | bl b => cases r'; exact ⟨b, rfl, th H' F' g⟩
    | _ => exact th.elim
theorem dt_cmp {op : CmpOp} {g : D → D → Option D} {fa fb : Ev} (ho : OpR X (compareOp op) (rD T K g)) (ha : PE X a (tD T K E fa)) (hb : PE X b (tD T K E fb)) (hm : behindInMarks op b = false) : PT X (.Compare a [op] [b] pos) (tDT T K E (eOp g fa fb)) :=
  PT.imp (pt_cmpR ho ha hb hm) fun σ H Q h => tTest_of h
noncomputable def eChain (g g' : D → D → Option D) (fa fb fc : Ev) : Ev := fun ρ => obnd (fa ρ) fun x => obnd (fb ρ) fun y => obnd (ov (g x y)) fun z => match z with
  | .bl true => obnd (fc ρ) fun w => ov (g' y w)
  | .bl false => some (.val (.bl false))
  | _ => none
theorem tChain_of {g g' : D → D → Option D} {fa fb fc : Ev} {σ : L2.St} {H : Hp} {Q : VK} (h : tD T K E (eChain g g' fa fb fc) σ H Q) : tChain (rD T K g) (rD T K g') (tD T K E fa) (tD T K E fb) (tD T K E fc) σ H Q := by
  obtain ⟨c, ρ, F, out, r, e, th⟩ := h
  refine tD_bind r e (fun d v H1 F1 g1 r1 e1 => ?_) th.exc
  have th1 := th.grow g1
  refine tD_bind (r.grow g1) e1 (fun d2 v2 H2 F2 g2 r2 e2 => ?_) th1.exc
  have th2 := th1.grow g2
  cases q : g d d2 with
  | none => rw [q] at e2; cases e2
  | some z =>
    rw [q] at e2
    refine ⟨F2, d, d2, z, g2.wf, r1.grow g2, r2, q, fun v3 H3 F3 g3 r3 => ?_⟩
    have th3 := th2.grow g3
    have e3 := e2
    dsimp only [ov, Option.map, obnd] at e3
    cases z with
    | bl k =>
      cases r3
      refine ⟨k, rfl, ?_⟩
      cases k with
      | true =>
        rw [if_pos rfl]
        refine tD_bind (((r.grow g1).grow g2).grow g3) e3 (fun d4 v4 H4 F4 g4 r4 e4 => ?_) th3.exc
        cases q' : g' d2 d4 with
        | none => rw [q'] at e4; cases e4
        | some z' =>
          rw [q'] at e4
          cases e4
          exact ⟨F4, d2, d4, z', g4.wf, (r2.grow g3).grow g4, r4, q', th3.grow g4⟩
      | false =>
        rw [if_neg (by decide)]
        cases e3
        exact th3 _ _ _ (.refl g3.wf) (.bl false)
    | _ => cases e3
theorem de_chain {op op' : CmpOp} {g g' : D → D → Option D} {fa fb fc : Ev} (ho : OpR X (compareOp op) (rD T K g)) (ho' : OpR X (compareOp op') (rD T K g')) (ha : PE X a (tD T K E fa)) (hb : PE X b (tD T K E fb)) (hc : PE X c (tD T K E fc))
    (hm : lastMarks [op, op'] [b, c] = false := by with_unfolding_all rfl) : PE X (.Compare a [op, op'] [b, c] pos) (tD T K E (eChain g g' fa fb fc)) := PE.imp (pe_chain ho ho' ha hb hc hm) fun σ H Q h => tChain_of h
theorem dt_chain {op op' : CmpOp} {g g' : D → D → Option D} {fa fb fc : Ev} (ho : OpR X (compareOp op) (rD T K g)) (ho' : OpR X (compareOp op') (rD T K g')) (ha : PE X a (tD T K E fa)) (hb : PE X b (tD T K E fb)) (hc : PE X c (tD T K E fc))
    (hm : lastMarks [op, op'] [b, c] = false := by with_unfolding_all rfl) : PT X (.Compare a [op, op'] [b, c] pos) (tDT T K E (eChain g g' fa fb fc)) := PT.imp (pt_chain ho ho' ha hb hc hm) fun σ H Q ⟨c, ρ, F, out, r, e, th⟩ => by
  refine tChain_of ⟨c, ρ, F, out, r, e, ?_⟩
  cases out with
  | exc n => exact th
  | val d =>
    intro v H' F' g r'
    cases d with
    | bl b => cases r'; exact ⟨b, rfl, th H' F' g⟩
    | _ => exact th.elim
noncomputable def qAnd (f g : Ev) : Ev := fun ρ => obnd (f ρ) fun x => match x with
  | .bl true => g ρ
  | .bl false => some (.val (.bl false))
  | _ => none
noncomputable def qOr (f g : Ev) : Ev := fun ρ => obnd (f ρ) fun x => match x with
  | .bl true => some (.val (.bl true))
  | .bl false => g ρ
  | _ => none
noncomputable def qNot (f : Ev) : Ev := fun ρ => obnd (f ρ) fun x => match x with
  | .bl k => some (.val (.bl (!k)))
  | _ => none
theorem tDT_bind {f : Ev} {k : D → Option Out} {Q : Bool → Hp → Prop} {out : Out} {c : Ent} {ρ : Rho} {σ : L2.St} {H : Hp} {F : Addr → Prop} (r : Rel T K c ρ σ H F) (e : obnd (f ρ) k = some out) (hk : ∀ d, k d = some out → ∃ b, d = .bl b)
    (hv : ∀ b H' F', Grow H H' F F' → k (.bl b) = some out → Q b H') (hx : ∀ n, out = .exc n → ∀ H', Ext H H' → E (T.clsV n) none H') : tDT T K E f σ H Q := by
  rcases obnd_some e with ⟨d, e1, e2⟩ | ⟨n, e1, e2⟩
  · obtain ⟨b, rfl⟩ := hk d e2
    exact ⟨c, ρ, F, _, r, e1, fun H' F' g => hv b H' F' g e2⟩
  · exact ⟨c, ρ, F, _, r, e1, hx n e2⟩
theorem dw_and1 {f : Ev} (h : PT X a (tDT T K E f)) : PW X (.BoolOp .And [a] pos) (tDT T K E f) := pw_and1 h
theorem dw_or1 {f : Ev} (h : PT X a (tDT T K E f)) : PW X (.BoolOp .Or [a] pos) (tDT T K E f) := pw_or1 h
theorem dw_and {f g : Ev} (ha : PT X a (tDT T K E f)) (hb : PW X (.BoolOp .And (b :: rest) pos) (tDT T K E g)) : PW X (.BoolOp .And (a :: b :: rest) pos) (tDT T K E (qAnd f g)) :=
  PW.imp (pw_and ha hb) fun σ H Q ⟨c, ρ, F, out, r, e, th⟩ => by
    refine tDT_bind r e (fun d e1 => ?_) (fun k H1 F1 g1 e1 => ?_) th.exc
    · split at e1
      · exact ⟨_, rfl⟩
      · exact ⟨_, rfl⟩
      · cases e1
    · cases k with
      | true => rw [if_pos rfl]; exact ⟨c, ρ, F1, out, r.grow g1, e1, th.grow g1⟩
      | false => rw [if_neg (by decide)]; cases e1; exact th H1 F1 g1
theorem dw_or {f g : Ev} (ha : PT X a (tDT T K E f)) (hb : PW X (.BoolOp .Or (b :: rest) pos) (tDT T K E g)) : PW X (.BoolOp .Or (a :: b :: rest) pos) (tDT T K E (qOr f g)) :=
  PW.imp (pw_or ha hb) fun σ H Q ⟨c, ρ, F, out, r, e, th⟩ => by
    refine tDT_bind r e (fun d e1 => ?_) (fun k H1 F1 g1 e1 => ?_) th.exc
    · split at e1
      · exact ⟨_, rfl⟩
      · exact ⟨_, rfl⟩
      · cases e1
    · cases k with
      | true => rw [if_pos rfl]; cases e1; exact th H1 F1 g1
      | false => rw [if_neg (by decide)]; exact ⟨c, ρ, F1, out, r.grow g1, e1, th.grow g1⟩
theorem dt_not {f : Ev} (ha : PT X a (tDT T K E f)) : PT X (.UnaryOp .Not a pos) (tDT T K E (qNot f)) :=
  PT.imp (pt_not ha) fun σ H Q ⟨c, ρ, F, out, r, e, th⟩ => by
    refine tDT_bind r e (fun d e1 => ?_) (fun k H1 F1 g1 e1 => ?_) th.exc
    · split at e1
      · exact ⟨_, rfl⟩
      · cases e1
    · cases e1; exact th H1 F1 g1
theorem de_one {f : Ev} {op} (h : PE X a (tD T K E f)) : PE X (.BoolOp op [a] pos) (tD T K E f) := pe_one h
theorem de_and {f g : Ev} (ha : PE X a (tD T K E f)) (hb : PE X (.BoolOp .And (b :: rest) pos) (tD T K E g)) : PE X (.BoolOp .And (a :: b :: rest) pos) (tD T K E (qAnd f g)) :=
  PE.imp (pe_and ha hb) fun σ H Q ⟨c, ρ, F, out, r, e, th⟩ => by
    refine tD_bind r e (fun d v H1 F1 g1 r1 e1 => ?_) th.exc
    split at e1
    · cases r1; exact ⟨true, rfl, by rw [if_pos rfl]; exact ⟨c, ρ, F1, out, r.grow g1, e1, th.grow g1⟩⟩
    · cases r1; cases e1; exact ⟨false, rfl, by rw [if_neg (by decide)]; exact th _ H1 F1 g1 (.bl false)⟩
    · cases e1
theorem de_not {f : Ev} (ha : PE X a (tD T K E f)) : PE X (.UnaryOp .Not a pos) (tD T K E (qNot f)) :=
  PE.imp (pe_not ha) fun σ H Q ⟨c, ρ, F, out, r, e, th⟩ => by
    refine tD_bind r e (fun d v H1 F1 g1 r1 e1 => ?_) th.exc
    split at e1
    · cases r1; cases e1; exact ⟨_, rfl, th _ H1 F1 g1 (.bl _)⟩
    · cases e1
noncomputable def eIf (q f g : Ev) : Ev := fun ρ => obnd (q ρ) fun x => match x with
  | .bl true => f ρ
  | .bl false => g ρ
  | _ => none
theorem de_if {q f g : Ev} (hc : PT X c (tDT T K E q)) (ha : PE X a (tD T K E f)) (hb : PE X b (tD T K E g)) : PE X (.IfExp c a b pos) (tD T K E (eIf q f g)) :=
  PE.imp (pe_ifExp hc ha hb) fun σ H Q ⟨c, ρ, F, out, r, e, th⟩ => by
    refine tDT_bind r e (fun d e1 => ?_) (fun k H1 F1 g1 e1 => ?_) th.exc
    · split at e1
      · exact ⟨_, rfl⟩
      · exact ⟨_, rfl⟩
      · cases e1
    · cases k with
      | true => rw [if_pos rfl]; exact ⟨c, ρ, F1, out, r.grow g1, e1, th.grow g1⟩
      | false => rw [if_neg (by decide)]; exact ⟨c, ρ, F1, out, r.grow g1, e1, th.grow g1⟩
noncomputable def spD (T : Tab) (K : PySem.W.Frag) (g : List D → Option Out) : Sp := fun vs H Q E => ∃ F ds out, (∀ a, F a → H a ≠ none) ∧ Reps T K F H vs ds ∧ g ds = some out ∧ Then T K E H F Q out
noncomputable def eCall (g : List D → Option Out) (fs : EvL) : Ev := fun ρ => lbnd (fs ρ) g
theorem tCall_of {g : List D → Option Out} {fs : EvL} {σ : L2.St} {H : Hp} {Q : VK} (h : tD T K E (eCall g fs) σ H Q) : tCall (spD T K g) [] E (tDA T K E fs) σ H Q := by
  obtain ⟨c, ρ, F, out, r, e, th⟩ := h
  refine tDA_bind r e (fun ds vs H1 F1 g1 r1 e1 => ?_) th.exc
  rw [List.append_nil]
  exact ⟨F1, ds, out, g1.wf, r1, e1, th.grow g1⟩
theorem de_call {CX : CXT} {k : Nat} {f : Addr} {fd : FuncData} {ps : List Str} {g : List D → Option Out} {fs : EvL} {x : Str} {p : Pos} (G : FnOk X.prog X.w X.K X.mg X.base CX k f fd ps (spD T K g)) (hr : Room k X.A) (hg : Gl X x) (hm : X.mg x = some (.ref f))
    (hk : PySem.W.keepIn X.K (.ref f) = true) (hb : Binds X.K fd ps []) (hx : Passes CX X E) (ha : PA X (e :: es) (tDA T K E fs)) (hdb : (x == ("__debug__" : Str)) = false := by decide) (he : starEach (e :: es) X.env = (false, eval e X.env) :: starEach es X.env := by rfl)
    (hpl : (backTo pos (starEach es X.env)).any (·.1) = false := by rfl) : PE X (.Call (.Name x p) (e :: es) [] pos) (tD T K E (eCall g fs)) :=
  PE.imp (pe_call G hr hg hm hk hb .nil hx ha hdb he hpl) fun σ H Q h => tCall_of h
noncomputable def rB (T : Tab) (K : PySem.W.Frag) (g : List D → Option D) : List V → Hp → VK → Prop := fun vs H Q => ∃ F ds d, (∀ a, F a → H a ≠ none) ∧ Reps T K F H vs ds ∧ g ds = some d ∧ ∀ v H' F', Grow H H' F F' → Rep T K F' H' v d → Q v H'
noncomputable def eB (g : List D → Option D) (fs : EvL) : Ev := fun ρ => lbnd (fs ρ) fun ds => ov (g ds)
theorem tCB_of {g : List D → Option D} {fs : EvL} {σ : L2.St} {H : Hp} {Q : VK} (h : tD T K E (eB g fs) σ H Q) : tCB (rB T K g) (tDA T K E fs) σ H Q := by
  obtain ⟨c, ρ, F, out, r, e, th⟩ := h
  refine tDA_bind r e (fun ds vs H1 F1 g1 r1 e1 => ?_) th.exc
  cases q : g ds with
  | none => rw [q] at e1; cases e1
  | some d =>
    rw [q] at e1
    cases e1
    exact ⟨F1, ds, d, g1.wf, r1, q, th.grow g1⟩
theorem de_callB {id : String} {g : List D → Option D} {fs : EvL} {x : Str} {p : Pos} (hc : CallR X (.builtin id) (rB T K g)) (hg : Gl X x) (hm : X.mg x = none) (hv : bootBuiltins x = some (.builtin id)) (ha : PA X (e :: es) (tDA T K E fs)) (hn : x ≠ "__name__" := by decide)
    (hdb : (x == ("__debug__" : Str)) = false := by decide) (he : starEach (e :: es) X.env = (false, eval e X.env) :: starEach es X.env := by rfl) (hpl : (backTo pos (starEach es X.env)).any (·.1) = false := by rfl) : PE X (.Call (.Name x p) (e :: es) [] pos) (tD T K E (eB g fs)) :=
  PE.imp (pe_callB hc hg hm hv ha hn hdb he hpl) fun σ H Q h => tCB_of h
noncomputable def lenB : List D → Option D
  | [.lst ds] => some (.int ds.length)
  | [.tup ds] => some (.int ds.length)
  | _ => none
theorem cb_len : CallR X (.builtin "len") (rB T X.K lenB) := CallR.imp call_len_seq fun vs H Q ⟨F, ds, d, wf, r, e, k⟩ => by
  unfold lenB at e
  split at e
  · cases e
    cases r with
    | cons r1 t =>
      cases t
      cases r1 with
      | lst h rr => exact ⟨_, _, rfl, .inl h.sq, by rw [rr.length]; exact k _ H F (.refl wf) (.int _)⟩
  · cases e
    cases r with
    | cons r1 t =>
      cases t
      cases r1 with
      | tup h rr => exact ⟨_, _, rfl, .inr h, by rw [rr.length]; exact k _ H F (.refl wf) (.int _)⟩
  · cases e
noncomputable def absB : List D → Option D
  | [.int i] => some (.int (if i < 0 then -i else i))
  | _ => none
theorem cb_abs : CallR X (.builtin "abs") (rB T K absB) := CallR.imp call_abs fun vs H Q ⟨F, ds, d, wf, r, e, k⟩ => by
  unfold absB at e
  split at e
  · cases e
    cases r with
    | cons r1 t => cases t; cases r1; exact ⟨_, rfl, k _ H F (.refl wf) (.int _)⟩
  · cases e
noncomputable def intsO : List D → Option (List Int)
  | [] => some []
  | .int i :: ds => (intsO ds).map (i :: ·)
  | _ :: _ => none
theorem intsO_ok {F : Addr → Prop} {H : Hp} : ∀ {vs : List V} {ds : List D} {ns : List Int}, Reps T K F H vs ds → intsO ds = some ns → vs = ns.map V.int
  | _, _, _, .nil, e => by cases e; rfl
  | _, _, ns, .cons (d := d) (ds := ds) r t, e => by
    cases r with
    | int i =>
      simp only [intsO] at e
      cases q : intsO ds with
      | none => rw [q] at e; cases e
      | some ms => rw [q] at e; cases e; rw [intsO_ok t q]; rfl
    | _ => cases e
noncomputable def blsO : List D → Option (List Bool)
  | [] => some []
  | .bl i :: ds => (blsO ds).map (i :: ·)
  | _ :: _ => none
theorem blsO_ok {F : Addr → Prop} {H : Hp} : ∀ {vs : List V} {ds : List D} {ns : List Bool}, Reps T K F H vs ds → blsO ds = some ns → vs = ns.map V.bl
  | _, _, _, .nil, e => by cases e; rfl
  | _, _, ns, .cons (d := d) (ds := ds) r t, e => by
    cases r with
    | bl i =>
      simp only [blsO] at e
      cases q : blsO ds with
      | none => rw [q] at e; cases e
      | some ms => rw [q] at e; cases e; rw [blsO_ok t q]; rfl
    | _ => cases e
noncomputable def sumB : List D → Option D
  | [.lst ds] => (intsO ds).map fun ns => .int ns.sum
  | _ => none
theorem cb_sum (hc : X.calm = true) : CallR X (.builtin "sum") (rB T X.K sumB) := CallR.imp (cr_sum hc) fun vs H Q ⟨F, ds, d, wf, r, e, k⟩ => by
  unfold sumB at e
  split at e
  · rename_i ds
    cases q : intsO ds with
    | none => rw [q] at e; cases e
    | some ns =>
      rw [q] at e; cases e
      cases r with
      | cons r1 t =>
        cases t
        cases r1 with
        | lst h rr => exact ⟨_, ns, rfl, by rw [← intsO_ok rr q]; exact h.sq, k _ H F (.refl wf) (.int _)⟩
  · cases e
noncomputable def allB : List D → Option D
  | [.lst ds] => (blsO ds).map fun ns => .bl (ns.all id)
  | _ => none
theorem cb_all (hc : X.calm = true) : CallR X (.builtin "all") (rB T X.K allB) := CallR.imp (cr_all hc) fun vs H Q ⟨F, ds, d, wf, r, e, k⟩ => by
  unfold allB at e
  split at e
  · rename_i ds
    cases q : blsO ds with
    | none => rw [q] at e; cases e
    | some ns =>
      rw [q] at e; cases e
      cases r with
      | cons r1 t =>
        cases t
        cases r1 with
        | lst h rr => exact ⟨_, ns, rfl, by rw [← blsO_ok rr q]; exact h.sq, k _ H F (.refl wf) (.bl _)⟩
  · cases e
noncomputable def tyD : D → Option String
  | .non => some "NoneType"
  | .bl _ => some "bool"
  | .int _ => some "int"
  | .str _ => some "str"
  | .tup _ => some "tuple"
  | .lst _ => some "list"
  | .dct => some "dict"
  | _ => none
noncomputable def isiN (c t : String) : Option Bool :=
  if c = "int" then some (t == "int" || t == "bool")
  else if c = "bool" then some (t == "bool")
  else if c = "tuple" then some (t == "tuple")
  else if c = "list" then some (t == "list")
  else if c = "str" then some (t == "str")
  else none
theorem kit_ty {c t : String} {b : Bool} (h : isiN c t = some b) (ht : t = "NoneType" ∨ t = "bool" ∨ t = "int" ∨ t = "str" ∨ t = "tuple" ∨ t = "list" ∨ t = "dict") : PySem.W.kitOne K (.type t) (.type c) = some b := by
  unfold isiN at h
  split at h
  · rename_i e; subst e
    rcases ht with rfl | rfl | rfl | rfl | rfl | rfl | rfl <;> cases h <;> with_unfolding_all rfl
  split at h
  · rename_i e; subst e
    rcases ht with rfl | rfl | rfl | rfl | rfl | rfl | rfl <;> cases h <;> with_unfolding_all rfl
  split at h
  · rename_i e; subst e
    rcases ht with rfl | rfl | rfl | rfl | rfl | rfl | rfl <;> cases h <;> with_unfolding_all rfl
  split at h
  · rename_i e; subst e
    rcases ht with rfl | rfl | rfl | rfl | rfl | rfl | rfl <;> cases h <;> with_unfolding_all rfl
  split at h
  · rename_i e; subst e
    rcases ht with rfl | rfl | rfl | rfl | rfl | rfl | rfl <;> cases h <;> with_unfolding_all rfl
  cases h
noncomputable def isiB (c : String) (d : D) : Option D := (tyD d).bind fun t => (isiN c t).map .bl
theorem isi_ok {c : String} {pins : List (Addr × Obj)} {σ : L2.St} {H : Hp} {s : Shared} {A : Around} {E : Value → Shared → Prop} {Q : Value → Shared → Prop} {F : Addr → Prop} {x : V} {u : Value} {d : D} {b : Bool} (I : Inv X pins σ H s) (rx : RelV x u) (r : Rep T X.K F H x d) (e : isiB c d = some (.bl b)) (h : ∀ tk, Q (.bool b) { s with toks := tk }) :
    wpAny (model X.prog X.w) A (call (.builtin "isinstance") [u, .type c]) Q E s := by
  have key : ∀ t, tyD d = some t → (t = "NoneType" ∨ t = "bool" ∨ t = "int" ∨ t = "str" ∨ t = "tuple" ∨ t = "list" ∨ t = "dict") → PySem.W.kitOne X.K (.type t) (.type c) = some b := fun t q ht => by
    unfold isiB at e
    rw [q] at e
    cases z : isiN c t with
    | none => simp [z] at e
    | some b' => simp [z] at e; rw [← e]; exact kit_ty z ht
  cases r with
  | non => cases (show u = Value.none from rx); exact PySem.W.kia_one PySem.W.kitx_none I.kIn True.intro (key _ rfl (by simp)) (fun z => nomatch z) h
  | bl y => cases (show u = Value.bool y from rx); exact PySem.W.kia_one PySem.W.kitx_bool I.kIn True.intro (key _ rfl (by simp)) (fun z => nomatch z) h
  | int i => obtain ⟨t, q⟩ := (show ∃ t, u = Value.int i t from rx); cases q; exact PySem.W.kia_one PySem.W.kitx_int I.kIn True.intro (key _ rfl (by simp)) (fun z => nomatch z) h
  | str y => obtain ⟨t, q⟩ := (show ∃ t, u = Value.str y t from rx); cases q; exact PySem.W.kia_one PySem.W.kitx_str I.kIn True.intro (key _ rfl (by simp)) (fun z => nomatch z) h
  | @tup a vs ds hq rr =>
    cases (show u = Value.ref a from rx)
    obtain ⟨its, _, ⟨o, h1, h2, _⟩, _⟩ := I.tuple hq
    exact PySem.W.kia_one PySem.W.kitx_tuple I.kIn ⟨o, h1, h2⟩ (key _ rfl (by simp)) (fun z => nomatch z) h
  | @lst a vs ds hq rr =>
    cases (show u = Value.ref a from rx)
    obtain ⟨its, _, ⟨o, n, h1, h2, _⟩, _⟩ := I.list hq.sq
    exact PySem.W.kia_one PySem.W.kitx_list I.kIn ⟨o, h1, h2⟩ (key _ rfl (by simp)) (fun z => nomatch z) h
  | @dct a hq =>
    cases (show u = Value.ref a from rx)
    obtain ⟨_, _, vs, _, p⟩ := (show ObjOk X.prog X.w H s.heap a (.dK []) from I.hok a _ hq)
    obtain ⟨o, es, ep, h1, h2, _⟩ := p
    exact PySem.W.kia_one PySem.W.kitx_dict I.kIn ⟨o, h1, h2.1⟩ (key _ rfl (by simp)) (fun z => nomatch z) h
  | fn hq => simp [isiB, tyD] at e
  | exn hq _ _ => simp [isiB, tyD] at e
  | obj hq _ _ => simp [isiB, tyD] at e
noncomputable def eIsi (c : String) (f : Ev) : Ev := fun ρ => obnd (f ρ) fun x => ov (isiB c x)
theorem de_isi {f : Ev} {c : String} {x : Str} {p p2 : Pos} (ha : PE X a (tD T X.K E f)) (hg : Gl X "isinstance") (hm : X.mg "isinstance" = none) (hgc : Gl X x) (hmc : X.mg x = none) (hvc : bootBuiltins x = some (.type c)) (hnc : x ≠ "__name__" := by decide)
    (hdc : (x == ("__debug__" : Str)) = false := by decide)
    (he : starEach [a, .Name x p2] X.env = (false, eval a X.env) :: starEach [.Name x p2] X.env := by rfl) (hpl : (backTo pos (starEach [.Name x p2] X.env)).any (·.1) = false := by rfl) : PE X (.Call (.Name "isinstance" p) [a, .Name x p2] [] pos) (tD T X.K E (eIsi c f)) := by
  have hc : CallR X (.builtin "isinstance") (fun vs H Q => ∃ F d b y, vs = [y, .ty c] ∧ Rep T X.K F H y d ∧ isiB c d = some (.bl b) ∧ Q (.bl b) H) := fun pins s σ H vs us Q I r ⟨F, d, b, y, ev, rp, e, q⟩ => by
    subst ev
    obtain ⟨u, w', rfl, r1, r2⟩ := vals2 r
    cases (show w' = Value.type c from r2)
    exact isi_ok I r1 rp e fun tk => ⟨.bl b, H, I.tok _, rfl, q⟩
  refine PE.imp (pe_callB hc hg hm (by decide +kernel) (pa_cons ha (pa_cons (pe_bltn (v := .ty c) hgc hmc hvc rfl hnc hdc) pa_nil) he) (by decide) (by decide) he hpl) fun σ H Q ⟨c', ρ, F, out, r, e, th⟩ => ?_
  refine tD_bind r e (fun d v H1 F1 g1 r1 e1 => ?_) th.exc
  cases q : isiB c d with
  | none => rw [q] at e1; cases e1
  | some z =>
    rw [q] at e1
    cases e1
    have : ∃ b, z = .bl b := by
      unfold isiB at q
      cases h1 : tyD d with
      | none => rw [h1] at q; cases q
      | some t =>
        rw [h1] at q
        cases h2 : isiN c t with
        | none => simp [h2] at q
        | some b => simp [h2] at q; exact ⟨b, q.symm⟩
    obtain ⟨b, rfl⟩ := this
    exact ⟨F1, d, b, v, rfl, r1, q, th _ H1 F1 g1 (.bl b)⟩
end
end BD

namespace BD
open PySem L2
variable {T : Tab} {K : PySem.W.Frag}
section
variable {X : Cx} {E : XK} {a b c e : Expr} {es rest : List Expr} {pos : Pos}
theorem atI_get {α : Type} {xs : List α} {i : Int} {x : α} (h : atI xs i = some x) : ∃ j, ixN xs.length i = some j ∧ xs[j]? = some x := by
  unfold atI at h
  cases q : ixN xs.length i with
  | none => rw [q] at h; cases h
  | some j => rw [q] at h; exact ⟨j, rfl, h⟩
theorem Reps.at {F : Addr → Prop} {H : Hp} {vs : List V} {ds : List D} {i : Int} {d : D} (r : Reps T K F H vs ds) (h : atI ds i = some d) : ∃ v, atI vs i = some v ∧ Rep T K F H v d := by
  obtain ⟨j, h1, h2⟩ := atI_get h
  obtain ⟨v, h3, h4⟩ := r.get h2
  exact ⟨v, by unfold atI; rw [r.length, h1]; exact h3, h4⟩
noncomputable def ixD : D → D → Option D
  | .lst ds, .int i => atI ds i
  | .tup ds, .int i => atI ds i
  | _, _ => none
theorem ixr_d : IxR X (rD T X.K ixD) := fun value slice pins s σ H x y v u Q I rx ry ⟨F, dx, dy, d, wf, r1, r2, e, k⟩ hs => by
  unfold ixD at e
  split at e
  · cases r1 with
    | lst h rr =>
      cases r2
      obtain ⟨z, h1, h2⟩ := rr.at e
      exact ix_list value slice pins s σ H _ _ v u Q I rx ry ⟨_, _, _, z, rfl, rfl, h.sq, h1, k _ H F (.refl wf) h2⟩ hs
  · cases r1 with
    | tup h rr =>
      cases r2
      obtain ⟨z, h1, h2⟩ := rr.at e
      exact ix_tup value slice pins s σ H _ _ v u Q I rx ry ⟨_, _, _, z, rfl, rfl, h, h1, k _ H F (.refl wf) h2⟩ hs
  · cases e
theorem de_ix {fa fb : Ev} (ha : PE X a (tD T X.K E fa)) (hb : PE X b (tD T X.K E fb)) (hs : PlainIx b := by intro _ _; rfl) : PE X (.Subscript a b pos) (tD T X.K E (eOp ixD fa fb)) :=
  PE.imp (pe_ix ixr_d ha hb hs) fun σ H Q h => tOp_of h
noncomputable def cutD (xs : List D) (lo hi : Option Int) : List D := (xs.drop (HT.sIx xs.length 0 lo)).take (HT.sIx xs.length xs.length hi - HT.sIx xs.length 0 lo)
theorem Reps.cut {F : Addr → Prop} {H : Hp} {vs : List V} {ds : List D} (r : Reps T K F H vs ds) (lo hi : Option Int) : Reps T K F H (cutV vs lo hi) (cutD ds lo hi) := by
  unfold cutV cutD
  rw [r.length]
  exact (r.drop _).take _
abbrev EvO := Rho → Option (Option Int)
noncomputable def oNone : EvO := fun _ => some none
noncomputable def oSome (f : Ev) : EvO := fun ρ => match f ρ with
  | some (.val (.int i)) => some (some i)
  | _ => none
noncomputable def tDO (T : Tab) (K : PySem.W.Frag) (f : EvO) : TO := fun σ H Q => ∃ c ρ F o, Rel T K c ρ σ H F ∧ f ρ = some o ∧ ∀ H' F', Grow H H' F F' → Q o H'
theorem do_none : PO X none (tDO T K oNone) := fun pins s σ H Q I ⟨c, ρ, F, o, r, e, k⟩ => po_none pins s σ H Q I (by cases e; exact k H F (.refl r.wf))
theorem do_some {f : Ev} (h : PE X e (tD T K E f)) : PO X (some e) (tDO T K (oSome f)) := fun pins s σ H Q I ⟨c, ρ, F, o, r, e, k⟩ => po_some h pins s σ H Q I (by
  unfold oSome at e
  split at e
  · rename_i i q
    cases e
    exact ⟨c, ρ, F, _, r, q, fun v H' F' g rp => by cases rp; exact ⟨i, rfl, k H' F' g⟩⟩
  · cases e)
noncomputable def lSlice (f : Ev) (lo hi : EvO) : EvL := fun ρ => obndL (f ρ) fun d => match d, lo ρ, hi ρ with
  | .lst ds, some l, some h => some (.vals (cutD ds l h))
  | _, _, _ => none
theorem df_slice {f : Ev} {l h : EvO} {lo hi : Option Expr} {p2 : Pos} (he : PE X e (tD T X.K E f)) (hl : PO X lo (tDO T X.K l)) (hh : PO X hi (tDO T X.K h)) : PE X (.Subscript e (.Slice lo hi none p2) pos) (tDF T X.K E (lSlice f l h)) :=
  PE.imp (pe_slice sl_list he hl hh) fun σ H Q ⟨c, ρ, F, out, r, e, th⟩ => by
    unfold lSlice obndL at e
    split at e
    · rename_i d q
      refine ⟨c, ρ, F, _, r, q, fun v H1 F1 g1 r1 => ?_⟩
      dsimp only at e
      split at e
      · rename_i ds lv hv el eh
        cases e
        cases r1 with
        | lst hq rr =>
          refine ⟨c, ρ, F1, lv, r.grow g1, el, fun H2 F2 g2 => ⟨c, ρ, F2, hv, (r.grow g1).grow g2, eh, fun H3 F3 g3 => ?_⟩⟩
          have rr3 := (rr.grow g2).grow g3
          refine ⟨_, _, rfl, ((hq.keep g2.ext.keep g2.more).keep g3.ext.keep g3.more).sq, fun p hp => ?_⟩
          exact th p _ H3 _ F3 ((g1.trans g2).trans g3) hp rfl ((rr3.cut lv hv).grow (Grow.upd g3.wf hp))
      · cases e
    · rename_i n q
      cases e
      exact ⟨c, ρ, F, _, r, q, th⟩
    · cases e
theorem od_add : OpR X (binaryOp .Add) (rD T K (i2 addI)) := OpR.imp op_add fun x y H Q h => by
  obtain ⟨i, j, d, F, rfl, rfl, e, wf, k⟩ := rD_i2 h
  cases e
  exact ⟨i, j, rfl, rfl, k _ _ F (.refl wf) (.int _)⟩
noncomputable def ThenS (T : Tab) (K : PySem.W.Frag) (E : XK) (c : Ent) (H : Hp) (F : Addr → Prop) (D : Ends) : Fl → Prop
  | .nx ρ => ∀ σ H' F', Later H H' F F' → Rel T K c ρ σ H' F' → D.nx σ H'
  | .bk ρ => ∀ σ H' F', Later H H' F F' → Rel T K c ρ σ H' F' → D.bk σ H'
  | .ct ρ => ∀ σ H' F', Later H H' F F' → Rel T K c ρ σ H' F' → D.ct σ H'
  | .rt d => ∀ v H F, Grow c.H H c.F F → Rep T K F H v d → D.rt v H
  | .exc n => ∀ H, Ext c.H H → E (T.clsV n) none H
theorem ThenS.later {E : XK} {c : Ent} {H H1 : Hp} {F F1 : Addr → Prop} {D : Ends} {fl : Fl} (l : Later H H1 F F1) (h : ThenS T K E c H F D fl) : ThenS T K E c H1 F1 D fl := by
  cases fl with
  | nx ρ => exact fun σ H' F' l' r => h σ H' F' (l.trans l') r
  | bk ρ => exact fun σ H' F' l' r => h σ H' F' (l.trans l') r
  | ct ρ => exact fun σ H' F' l' r => h σ H' F' (l.trans l') r
  | rt d => exact h
  | exc n => exact h
noncomputable def tDS (T : Tab) (K : PySem.W.Frag) (E : XK) (f : Sv) : TS := fun D σ H => ∃ c ρ F fl, Rel T K c ρ σ H F ∧ f ρ = some fl ∧ ThenS T K E c H F D fl
variable {st : Stmt} {sts : List Stmt}
noncomputable def sNext : Sv := fun ρ => some (.nx ρ)
noncomputable def sSeq (f g : Sv) : Sv := fun ρ => match f ρ with
  | some (.nx ρ') => g ρ'
  | r => r
theorem ds_nil : PSs X [] (tDS T K E sNext) := PSs.imp pss_nil fun D σ H ⟨c, ρ, F, fl, r, e, th⟩ => by cases e; exact th σ H F .refl r
theorem ds_cons {f g : Sv} (h1 : PS X st (tDS T K E f)) (h2 : PSs X sts (tDS T K E g)) : PSs X (st :: sts) (tDS T K E (sSeq f g)) := PSs.imp (pss_cons h1 h2) fun D σ H ⟨c, ρ, F, fl, r, e, th⟩ => by
  unfold sSeq at e
  split at e
  · rename_i ρ' q
    exact ⟨c, ρ, F, _, r, q, fun σ' H' F' l r' => ⟨c, ρ', F', fl, r', e, th.later l⟩⟩
  · rename_i q
    refine ⟨c, ρ, F, fl, r, e, ?_⟩
    cases fl with
    | nx ρ' => exact absurd e (q ρ')
    | bk ρ' => exact th
    | ct ρ' => exact th
    | rt d => exact th
    | exc n => exact th
theorem ds_one {f : Sv} (h1 : PS X st (tDS T K E f)) : PSs X [st] (tDS T K E f) := PSs.imp (ds_cons h1 ds_nil) fun D σ H ⟨c, ρ, F, fl, r, e, th⟩ => ⟨c, ρ, F, fl, r, by unfold sSeq; rw [e]; cases fl <;> rfl, th⟩
noncomputable def sFrz (i : Nat) (g : Sv) : Sv := fun ρ => match ρ[i]? with
  | some (some (.own ds)) => g (ρ.set i (some (.sh (.lst ds))))
  | _ => g ρ
theorem ds_frz {i : Nat} {g : Sv} (h : PSs X sts (tDS T K E g)) : PSs X sts (tDS T K E (sFrz i g)) := PSs.imp h fun D σ H ⟨c, ρ, F, fl, r, e, th⟩ => by
  unfold sFrz at e
  split at e
  · rename_i ds q
    obtain ⟨F', m, r'⟩ := r.freeze q
    exact ⟨c, _, F', fl, r', e, th.later ⟨fun _ _ e _ => e, m⟩⟩
  · exact ⟨c, ρ, F, fl, r, e, th⟩
noncomputable def sbnd (o : Option Out) (k : D → Option Fl) : Option Fl := match o with
  | some (.val d) => k d
  | some (.exc n) => some (.exc n)
  | none => none
noncomputable def lbndS (o : Option OutL) (k : List D → Option Fl) : Option Fl := match o with
  | some (.vals d) => k d
  | some (.exc n) => some (.exc n)
  | none => none
theorem tD_bindS {f : Ev} {k : D → Option Fl} {Q : VK} {fl : Fl} {c : Ent} {ρ : Rho} {σ : L2.St} {H : Hp} {F : Addr → Prop} {D : Ends} (r : Rel T K c ρ σ H F) (e : sbnd (f ρ) k = some fl) (th : ThenS T K E c H F D fl)
    (hv : ∀ d v H' F', Grow H H' F F' → Rep T K F' H' v d → k d = some fl → Q v H') : tD T K E f σ H Q := by
  unfold sbnd at e
  split at e
  · rename_i d q
    exact ⟨c, ρ, F, _, r, q, fun v H' F' g rp => hv d v H' F' g rp e⟩
  · rename_i n q
    cases e
    exact ⟨c, ρ, F, _, r, q, fun H' z => th H' (r.ext.trans z)⟩
  · cases e
theorem tDT_bindS {f : Ev} {k : D → Option Fl} {Q : Bool → Hp → Prop} {fl : Fl} {c : Ent} {ρ : Rho} {σ : L2.St} {H : Hp} {F : Addr → Prop} {D : Ends} (r : Rel T K c ρ σ H F) (e : sbnd (f ρ) k = some fl) (th : ThenS T K E c H F D fl)
    (hk : ∀ d, k d = some fl → ∃ b, d = .bl b) (hv : ∀ b H' F', Grow H H' F F' → k (.bl b) = some fl → Q b H') : tDT T K E f σ H Q := by
  unfold sbnd at e
  split at e
  · rename_i d q
    obtain ⟨b, rfl⟩ := hk d e
    exact ⟨c, ρ, F, _, r, q, fun H' F' g => hv b H' F' g e⟩
  · rename_i n q
    cases e
    exact ⟨c, ρ, F, _, r, q, fun H' z => th H' (r.ext.trans z)⟩
  · cases e
noncomputable def sExpr (f : Ev) : Sv := fun ρ => sbnd (f ρ) fun _ => some (.nx ρ)
theorem ds_expr {f : Ev} (h : PE X e (tD T K E f)) (hs : swapsWith e none pos.line X.env = pure false := by rfl) : PS X (.Expr e pos) (tDS T K E (sExpr f)) := PS.imp (ps_expr h hs) fun D σ H ⟨c, ρ, F, fl, r, e, th⟩ =>
  tD_bindS r e th fun d v H' F' g rp e1 => by cases e1; exact th σ H' F' g.later (r.grow g)
noncomputable def sRet (f : Ev) : Sv := fun ρ => sbnd (f ρ) fun d => some (.rt d)
theorem ds_ret {f : Ev} (h : PE X e (tD T K E f)) : PS X (.Return (some e) pos) (tDS T K E (sRet f)) := PS.imp (ps_ret h) fun D σ H ⟨c, ρ, F, fl, r, e, th⟩ =>
  tD_bindS r e th fun d v H' F' g rp e1 => by cases e1; exact th v H' F' (r.grow g).growE rp
noncomputable def sNever : Sv := fun _ => none
theorem ds_never : PS X st (tDS T K E sNever) := PS.imp ps_never fun D σ H ⟨c, ρ, F, fl, r, e, th⟩ => by cases e
noncomputable def sIf (q : Ev) (f g : Sv) : Sv := fun ρ => sbnd (q ρ) fun d => match d with
  | .bl true => f ρ
  | .bl false => g ρ
  | _ => none
theorem ds_if {q : Ev} {f g : Sv} {sa sb : List Stmt} (hc : PT X c (tDT T K E q)) (ha : PSs X sa (tDS T K E f)) (hb : PSs X sb (tDS T K E g)) : PS X (.If c sa sb pos) (tDS T K E (sIf q f g)) :=
  PS.imp (ps_if hc ha hb) fun D σ H ⟨c, ρ, F, fl, r, e, th⟩ => by
    refine tDT_bindS r e th (fun d e1 => ?_) (fun k H1 F1 g1 e1 => ?_)
    · split at e1
      · exact ⟨_, rfl⟩
      · exact ⟨_, rfl⟩
      · cases e1
    · cases k with
      | true => rw [if_pos rfl]; exact ⟨c, ρ, F1, fl, r.grow g1, e1, th.later g1.later⟩
      | false => rw [if_neg (by decide)]; exact ⟨c, ρ, F1, fl, r.grow g1, e1, th.later g1.later⟩
abbrev Gv := D → Rho → Option Rho
noncomputable def But (ss : List Nat) (σ σ' : L2.St) : Prop := σ'.length = σ.length ∧ ∀ j : Nat, j ∉ ss → σ'[j]? = σ[j]?
theorem But.refl {ss : List Nat} {σ : L2.St} : But ss σ σ := ⟨rfl, fun _ _ => rfl⟩
theorem But.trans {ss ts : List Nat} {σ σ1 σ2 : L2.St} (a : But ss σ σ1) (b : But ts σ1 σ2) : But (ss ++ ts) σ σ2 := ⟨b.1.trans a.1, fun j hj => by
  rw [List.mem_append] at hj
  rw [b.2 j fun z => hj (.inr z), a.2 j fun z => hj (.inl z)]⟩
noncomputable def tDG (T : Tab) (K : PySem.W.Frag) (g : Gv) (ss : List Nat) : TG := fun v σ H Q => ∃ c ρ F d ρ', Rel T K c ρ σ H F ∧ Rep T K F H v d ∧ g d ρ = some ρ' ∧ ∀ σ', Rel T K c ρ' σ' H F → But ss σ σ' → Q σ' H
abbrev Gvs := List D → Rho → Option Rho
noncomputable def tDGs (T : Tab) (K : PySem.W.Frag) (g : Gvs) (ss : List Nat) : TGs := fun vs σ H Q => ∃ c ρ F ds ρ', Rel T K c ρ σ H F ∧ Reps T K F H vs ds ∧ g ds ρ = some ρ' ∧ ∀ σ', Rel T K c ρ' σ' H F → But ss σ σ' → Q σ' H
noncomputable def gNm (i : Nat) : Gv := fun d ρ => some (ρ.set i (some (.sh d)))
theorem dg_name {i : Nat} {x : Str} (hN : X.N.Nodup) (hi : X.N[i]? = some x) (hx : Loc X.env.scope x) (hf : X.fn x = true ∨ X.env.scope.names.lookup x = some .local := by first | exact .inl rfl | exact .inr rfl | assumption) : PG X (.Name x pos) (tDG T K (gNm i) [i]) :=
  PG.imp (pg_name hN hi hx hf) fun v σ H Q ⟨c, ρ, F, d, ρ', r, rp, e, k⟩ => by cases e; exact k _ (r.set rp) ⟨List.length_set, fun j hj => get_set_ne fun z => hj (by simp [z])⟩
noncomputable def gsNil : Gvs := fun ds ρ => match ds with
  | [] => some ρ
  | _ => none
noncomputable def gsCons (g : Gv) (h : Gvs) : Gvs := fun ds ρ => match ds with
  | d :: r => (g d ρ).bind fun ρ' => h r ρ'
  | _ => none
theorem dgs_nil : PGs X [] (tDGs T K gsNil []) := fun pins s σ H vs us Q I r ⟨c, ρ, F, ds, ρ', rl, rp, e, k⟩ => pgs_nil pins s σ H vs us Q I r (by
  unfold gsNil at e
  split at e
  · cases rp; cases e; exact ⟨rfl, k _ rl .refl⟩
  · cases e)
theorem dgs_cons {g : Gv} {h : Gvs} {ss ts : List Nat} (h1 : PG X e (tDG T K g ss)) (h2 : PGs X es (tDGs T K h ts)) (hs : (assignEach (e :: es) X.env).map (·.2) = assign e X.env :: (assignEach es X.env).map (·.2) := by rfl) : PGs X (e :: es) (tDGs T K (gsCons g h) (ss ++ ts)) :=
  fun pins s σ H vs us Q I r ⟨c, ρ, F, ds, ρ', rl, rp, e, k⟩ => pgs_cons h1 h2 hs pins s σ H vs us Q I r (by
    unfold gsCons at e
    split at e
    · rename_i d ds'
      cases rp with
      | cons r1 r2 =>
        cases q : g d ρ with
        | none => rw [q] at e; cases e
        | some ρ1 =>
          rw [q] at e
          exact ⟨_, _, rfl, c, ρ, F, d, ρ1, rl, r1, q, fun σ1 rl1 b1 => ⟨c, ρ1, F, _, ρ', rl1, r2, e, fun σ2 rl2 b2 => k σ2 rl2 (b1.trans b2)⟩⟩
    · cases e)
noncomputable def gTp (h : Gvs) : Gv := fun d ρ => match d with
  | .tup ds => h ds ρ
  | _ => none
theorem dg_tup {kk : Nat} {h : Gvs} {n : Nat} {ss : List Nat} (hc : X.calm = true) (hh : PGs X es (tDGs T X.K h ss)) (hl : ∀ ds ρ ρ', h ds ρ = some ρ' → ds.length = n) (hn : (assignEach es X.env).length = n := by rfl) (hst : (assignEach es X.env).findIdx? (·.1) = none := by rfl) :
    PG X (.Tuple es kk pos) (tDG T X.K (gTp h) ss) := PG.imp (pg_tup hc hh hn hst) fun v σ H Q ⟨c, ρ, F, d, ρ', r, rp, e, k⟩ => by
  unfold gTp at e
  split at e
  · cases rp with
    | tup hq rr => exact ⟨_, _, rfl, hq, by rw [rr.length]; exact hl _ _ _ e, c, ρ, F, _, ρ', r, rr, e, k⟩
  · cases e
theorem gl_nil : ∀ ds ρ ρ', gsNil ds ρ = some ρ' → ds.length = 0 := fun ds ρ ρ' e => by
  unfold gsNil at e
  split at e
  · rfl
  · cases e
theorem gl_cons {g : Gv} {h : Gvs} {n : Nat} (hl : ∀ ds ρ ρ', h ds ρ = some ρ' → ds.length = n) : ∀ ds ρ ρ', gsCons g h ds ρ = some ρ' → ds.length = n + 1 := fun ds ρ ρ' e => by
  unfold gsCons at e
  split at e
  · rename_i d r
    cases q : g d ρ with
    | none => rw [q] at e; cases e
    | some ρ1 => rw [q] at e; simp [hl _ _ _ e]
  · cases e
noncomputable def sAsg (f : Ev) (g : Gv) : Sv := fun ρ => sbnd (f ρ) fun d => (g d ρ).map .nx
theorem ds_asg {tg : Expr} {f : Ev} {g : Gv} {ss : List Nat} (he : PE X e (tD T K E f)) (hg : PG X tg (tDG T K g ss)) (hs : swapsWithSole [tg] e pos.line X.env = pure false := by rfl) (hw : swappedStores [tg] e X.env = pure none := by rfl) (h1 : (assignEach [tg] X.env).map (·.2) = [assign tg X.env] := by rfl)
    : PS X (.Assign [tg] e pos) (tDS T K E (sAsg f g)) := PS.imp (ps_asg he hg hs hw h1) fun D σ H ⟨c, ρ, F, fl, r, e, th⟩ =>
  tD_bindS r e th fun d v H' F' g' rp e1 => by
    cases q : g d ρ with
    | none => rw [q] at e1; cases e1
    | some ρ1 =>
      rw [q] at e1
      cases e1
      exact ⟨c, ρ, F', d, ρ1, r.grow g', rp, q, fun σ' r' _ => th σ' H' F' g'.later r'⟩
theorem ds_set {i : Nat} {x : Str} {f : Ev} {pos' : Pos} (hN : X.N.Nodup) (hi : X.N[i]? = some x) (hx : Loc X.env.scope x) (he : PE X e (tD T K E f)) (hs : swapsWith e (some (.Name x pos')) pos.line X.env = pure false := by rfl)
    (hf : X.fn x = true ∨ X.env.scope.names.lookup x = some .local := by first | exact .inl rfl | exact .inr rfl | assumption) : PS X (.Assign [.Name x pos'] e pos) (tDS T K E (sAsg f (gNm i))) := PS.imp (ps_set hN hi hx he hs hf) fun D σ H ⟨c, ρ, F, fl, r, e, th⟩ =>
  tD_bindS r e th fun d v H' F' g' rp e1 => by
    cases e1
    exact th _ H' F' g'.later ((r.grow g').set rp)
noncomputable def sOwn (f : EvL) (i : Nat) : Sv := fun ρ => lbndS (f ρ) fun ds => some (.nx (ρ.set i (some (.own ds))))
theorem rel_own {c : Ent} {ρ : Rho} {σ : L2.St} {H H1 H' : Hp} {F F' : Addr → Prop} {p : Addr} {vs : List V} {ds : List D} (r : Rel T K c ρ σ H F) (g : Grow H H1 F F') (hp : H1 p = none) (eH : H' = upd H1 p (.lst vs)) (rp : Reps T K F' H' vs ds) (i : Nat) :
    Rel T K c (ρ.set i (some (.own ds))) (σ.set i (some (.ref p))) H' F' := by
  subst eH
  have g2 : Grow H1 (upd H1 p (.lst vs)) F' F' := Grow.upd g.wf hp
  have r2 := (r.grow g).grow g2
  refine r2.setOwn upd_same rp (fun z => g.wf p z hp) ((r.grow g).ext.none hp) fun j ds' q1 q2 => ?_
  obtain ⟨p', vs', h1, h2, _⟩ := (r.grow g).own j ds' q1
  rw [q2] at h1
  cases h1
  rw [hp] at h2
  cases h2
noncomputable def sPar (i j : Nat) (fa fb : Ev) : Sv := fun ρ => sbnd (fa ρ) fun x => sbnd (fb ρ) fun y => some (.nx ((ρ.set i (some (.sh x))).set j (some (.sh y))))
theorem ds_par {i j : Nat} {x y : Str} {fa fb : Ev} {px py pt : Pos} {kt k2 pt2} (hc : X.calm = true) (hN : X.N.Nodup) (hi : X.N[i]? = some x) (hj : X.N[j]? = some y) (hij : i ≠ j) (hx : X.env.scope.names.lookup x = some .local) (hy : X.env.scope.names.lookup y = some .local)
    (ha : PE X a (tD T K E fa)) (hb : PE X b (tD T K E fb)) (hw : swappedStores [.Tuple [.Name x px, .Name y py] kt pt] (.Tuple [a, b] k2 pt2) X.env = pure (some [x, y]) := by rfl)
    (hs1 : starEach [a, b] X.env = (false, eval a X.env) :: starEach [b] X.env := by rfl) (hs2 : starEach [b] X.env = (false, eval b X.env) :: starEach [] X.env := by rfl)
    (hs : swapsWithSole [.Tuple [.Name x px, .Name y py] kt pt] (.Tuple [a, b] k2 pt2) pos.line X.env = pure false := by rfl) :
    PS X (.Assign [.Tuple [.Name x px, .Name y py] kt pt] (.Tuple [a, b] k2 pt2) pos) (tDS T K E (sPar i j fa fb)) := PS.imp (ps_par hc hN hi hj hij hx hy (pa_cons ha (pa_cons hb pa_nil hs2) hs1) hw hs) fun D σ H ⟨c, ρ, F, fl, r, e, th⟩ =>
  tD_bindS r e th fun d v H1 F1 g1 r1 e1 => tD_bindS (r.grow g1) e1 (th.later g1.later) fun d2 v2 H2 F2 g2 r2 e2 => by
    cases e2
    exact ⟨v, v2, rfl, th _ H2 F2 (g1.trans g2).later ((((r.grow g1).grow g2).set (r1.grow g2)).set r2)⟩
end
end BD

namespace BD
open PySem L2
variable {T : Tab} {K : PySem.W.Frag}
theorem SqF.later {H H' : Hp} {F F' : Addr → Prop} {a : Addr} {xs : List V} (l : Later H H' F F') (h : SqF K F H a xs) : SqF K F' H' a xs := h.keep l.keep l.more
theorem Reps.later {H H' : Hp} {F F' : Addr → Prop} {v : List V} {d : List D} (l : Later H H' F F') (h : Reps T K F H v d) : Reps T K F' H' v d := h.keep l.keep l.more
noncomputable def Yields (T : Tab) (K : PySem.W.Frag) (J : It) (ds : List D) (H : Hp) (F : Addr → Prop) : Prop :=
  ∃ P : Hp → (Addr → Prop) → Prop, P H F ∧ (∀ H F H' F', P H F → Later H H' F F' → P H' F') ∧
    ∀ H F i, P H F → (∀ a, F a → H a ≠ none) → (i < ds.length → J.go i H ∧ ∀ x H', J.yld i H x H' → ∃ d, ds[i]? = some d ∧ ∃ F', Grow H H' F F' ∧ Rep T K F' H' x d) ∧ (ds.length ≤ i → J.stop i H)
noncomputable def ThenI (T : Tab) (K : PySem.W.Frag) (E : XK) (H : Hp) (F : Addr → Prop) (R : It → Hp → Prop) : OutL → Prop
  | .vals ds => ∀ J H' F', Grow H H' F F' → Yields T K J ds H' F' → R J H'
  | .exc n => ∀ H', Ext H H' → E (T.clsV n) none H'
noncomputable def tDI (T : Tab) (K : PySem.W.Frag) (E : XK) (f : EvL) : TI := fun σ H R => ∃ c ρ F out, Rel T K c ρ σ H F ∧ f ρ = some out ∧ ThenI T K E H F R out
section
variable {X : Cx} {E : XK} {a b c e l tg : Expr} {es rest : List Expr} {pos : Pos}
theorem PI.imp {wi wi' : TI} (h : PI X tg l wi) (w : ∀ σ H R, wi' σ H R → wi σ H R) : PI X tg l wi' := fun pins s σ H R I q => h pins s σ H R I (w σ H R q)
theorem get_of_lt {α : Type} {xs : List α} {i : Nat} (h : i < xs.length) : ∃ x, xs[i]? = some x := ⟨xs[i], by simp [h]⟩
theorem yields_list {H : Hp} {F : Addr → Prop} {p : Addr} {vs : List V} {ds : List D} (h : SqF K F H p vs) (r : Reps T K F H vs ds) : Yields T K (Itl K p) ds H F := by
  refine ⟨fun H F => SqF K F H p vs ∧ Reps T K F H vs ds, ⟨h, r⟩, fun H F H' F' q l => ⟨q.1.later l, q.2.later l⟩, fun H F i q wf => ⟨fun hi => ⟨?_, fun x H' y => ?_⟩, fun hi => ?_⟩⟩
  · obtain ⟨x, hx⟩ := get_of_lt (show i < vs.length by rw [q.2.length]; exact hi)
    exact ⟨vs, x, q.1.sq, hx⟩
  · obtain ⟨e, y⟩ := y
    subst e
    have hx := y vs q.1.sq
    obtain ⟨d, h1, h2⟩ := q.2.get' hx
    exact ⟨d, h1, F, .refl wf, h2⟩
  · exact ⟨vs, q.1.sq, by rw [q.2.length]; exact hi⟩
noncomputable def rngD (lo st : Int) (n : Nat) : List D := (List.range n).map fun k : Nat => D.int (lo + ((k : Nat) : Int) * st)
theorem yields_range {lo : Int} {n : Nat} {H : Hp} {F : Addr → Prop} : Yields T K (Itr lo n) (rngD lo 1 n) H F := by
  have hl : (rngD lo 1 n).length = n := by simp [rngD]
  refine ⟨fun _ _ => True, trivial, fun _ _ _ _ _ _ => trivial, fun H F i _ wf => ⟨fun hi => ⟨?_, fun x H' y => ?_⟩, fun hi => ?_⟩⟩
  · rw [hl] at hi; exact hi
  · obtain ⟨e, y⟩ := y
    subst e y
    rw [hl] at hi
    refine ⟨.int (lo + ((i : Nat) : Int) * 1), by simp [rngD, hi], F, .refl wf, ?_⟩
    rw [Int.mul_one]; exact .int _
  · rw [hl] at hi; exact hi
noncomputable def enumD (xs : List D) : List D := (List.range xs.length).map fun k : Nat => D.tup [.int ((k : Nat) : Int), (xs[k]?).getD .non]
theorem yields_enum {H : Hp} {F : Addr → Prop} {p : Addr} {vs : List V} {ds : List D} (h : SqF K F H p vs) (r : Reps T K F H vs ds) : Yields T K (Ite K p) (enumD ds) H F := by
  have hl : (enumD ds).length = ds.length := by simp [enumD]
  refine ⟨fun H F => SqF K F H p vs ∧ Reps T K F H vs ds, ⟨h, r⟩, fun H F H' F' q l => ⟨q.1.later l, q.2.later l⟩, fun H F i q wf => ⟨fun hi => ⟨?_, fun x H' y => ?_⟩, fun hi => ?_⟩⟩
  · rw [hl] at hi
    obtain ⟨x, hx⟩ := get_of_lt (show i < vs.length by rw [q.2.length]; exact hi)
    exact ⟨vs, x, q.1.sq, hx⟩
  · rw [hl] at hi
    obtain ⟨t, x1, rfl, ht, rfl, hx⟩ := y
    obtain ⟨d1, a1, b1⟩ := q.2.get' (hx vs q.1.sq)
    have g := Grow.upd (o := .tup [V.int (i : Nat), x1]) wf ht
    refine ⟨.tup [.int (i : Int), d1], ?_, F, g, .tup (SqT.of upd_same) ((Reps.cons (.int _) (.cons b1 .nil)).grow g)⟩
    have hd : ds[i] = d1 := by obtain ⟨_, z⟩ := List.getElem?_eq_some_iff.mp a1; exact z
    simp [enumD, hi, hd]
  · rw [hl] at hi
    exact ⟨vs, q.1.sq, by rw [q.2.length]; exact hi⟩
noncomputable def wSeq (f : Ev) : EvL := fun ρ => obndL (f ρ) fun d => match d with
  | .lst ds => some (.vals ds)
  | _ => none
theorem di_list {f : Ev} (h : PE X l (tD T X.K E f)) : PI X tg l (tDI T X.K E (wSeq f)) := PI.imp (pi_list h) fun σ H R ⟨c, ρ, F, out, r, e, th⟩ => by
  unfold wSeq obndL at e
  split at e
  · rename_i d q
    refine ⟨c, ρ, F, _, r, q, fun v H1 F1 g1 r1 => ?_⟩
    dsimp only at e
    split at e
    · cases e
      cases r1 with
      | lst hq rr => exact ⟨_, rfl, ⟨_, hq.sq⟩, th _ H1 F1 g1 (yields_list hq rr)⟩
    · cases e
  · rename_i n q
    cases e
    exact ⟨c, ρ, F, _, r, q, th⟩
  · cases e
noncomputable def big62 (i : Int) : Bool := decide (-(2 ^ 62) ≤ i) && decide (i < 2 ^ 62)
theorem tDA_bindI {f : EvL} {k : List D → Option OutL} {Q : List V → Hp → Prop} {out : OutL} {c : Ent} {ρ : Rho} {σ : L2.St} {H : Hp} {F : Addr → Prop} {R : It → Hp → Prop} (r : Rel T K c ρ σ H F) (e : lbndL (f ρ) k = some out)
    (th : ThenI T K E H F R out) (nx : ∀ ds n, k ds ≠ some (.exc n))
    (hv : ∀ d v H' F' ds, Grow H H' F F' → Reps T K F' H' v d → k d = some (.vals ds) → (∀ J, Yields T K J ds H' F' → R J H') → Q v H') : tDA T K E f σ H Q := by
  unfold lbndL at e
  split at e
  · rename_i d q
    refine ⟨c, ρ, F, _, r, q, fun v H' F' g rp => ?_⟩
    cases out with
    | vals ds => exact hv d v H' F' ds g rp e fun J y => th J H' F' g y
    | exc n => exact absurd e (nx d n)
  · rename_i n q
    cases e
    exact ⟨c, ρ, F, _, r, q, th⟩
  · cases e
noncomputable def wRng1 (f : EvL) : EvL := fun ρ => lbndL (f ρ) fun ds => match ds with
  | [.int j] => if big62 j then some (.vals (rngD 0 1 j.toNat)) else none
  | _ => none
noncomputable def wRng2 (f : EvL) : EvL := fun ρ => lbndL (f ρ) fun ds => match ds with
  | [.int i, .int j] => if big62 i && big62 j then some (.vals (rngD i 1 (j - i).toNat)) else none
  | _ => none
theorem big_ok {i : Int} (h : big62 i = true) : -(2 ^ 62) ≤ i ∧ i < 2 ^ 62 := by
  unfold big62 at h
  rw [Bool.and_eq_true] at h
  exact ⟨of_decide_eq_true h.1, of_decide_eq_true h.2⟩
theorem di_range1 {f : EvL} {p : Pos} (hg : Gl X "range") (hm : X.mg "range" = none) (ha : PA X [a] (tDA T K E f)) (hs : starEach [a] X.env = [(false, eval a X.env)] := by rfl) : PI X tg (.Call (.Name "range" p) [a] [] pos) (tDI T K E (wRng1 f)) :=
  PI.imp (pi_range1 hg hm ha hs) fun σ H R ⟨c, ρ, F, out, r, e, th⟩ => by
    refine tDA_bindI r e th (fun ds n z => ?_) (fun d v H' F' ds g rp e1 k => ?_)
    · split at z
      · split at z <;> cases z
      · cases z
    · split at e1
      · split at e1
        · rename_i hb
          cases e1
          cases rp with
          | cons r1 t => cases t; cases r1; exact ⟨_, rfl, (big_ok hb).1, (big_ok hb).2, k _ yields_range⟩
        · cases e1
      · cases e1
theorem di_range2 {f : EvL} {p : Pos} (hg : Gl X "range") (hm : X.mg "range" = none) (ha : PA X [a, b] (tDA T K E f)) (hs : starEach [a, b] X.env = [(false, eval a X.env), (false, eval b X.env)] := by rfl) (hs2 : starEach [b] X.env = [(false, eval b X.env)] := by rfl) :
    PI X tg (.Call (.Name "range" p) [a, b] [] pos) (tDI T K E (wRng2 f)) :=
  PI.imp (pi_range2 hg hm ha hs hs2) fun σ H R ⟨c, ρ, F, out, r, e, th⟩ => by
    refine tDA_bindI r e th (fun ds n z => ?_) (fun d v H' F' ds g rp e1 k => ?_)
    · split at z
      · split at z <;> cases z
      · cases z
    · split at e1
      · split at e1
        · rename_i hb
          rw [Bool.and_eq_true] at hb
          cases e1
          cases rp with
          | cons r1 t => cases t with | cons r2 t2 => cases t2; cases r1; cases r2; exact ⟨_, _, rfl, ⟨(big_ok hb.1).1, (big_ok hb.1).2, (big_ok hb.2).1, (big_ok hb.2).2⟩, k _ yields_range⟩
        · cases e1
      · cases e1
noncomputable def wEnum (f : EvL) : EvL := fun ρ => lbndL (f ρ) fun ds => match ds with
  | [.lst xs] => some (.vals (enumD xs))
  | _ => none
theorem di_enum {f : EvL} {p tpos : Pos} {elts : List Expr} {kk : Nat} (hg : Gl X "enumerate") (hm : X.mg "enumerate" = none) (ha : PA X [a] (tDA T X.K E f)) (hs : starEach [a] X.env = [(false, eval a X.env)] := by rfl) :
    PI X (.Tuple elts kk tpos) (.Call (.Name "enumerate" p) [a] [] pos) (tDI T X.K E (wEnum f)) :=
  PI.imp (pi_enum hg hm ha hs) fun σ H R ⟨c, ρ, F, out, r, e, th⟩ => by
    refine tDA_bindI r e th (fun ds n z => ?_) (fun d v H' F' ds g rp e1 k => ?_)
    · split at z
      · cases z
      · cases z
    · split at e1
      · cases e1
        cases rp with
        | cons r1 t => cases t; cases r1 with | lst h1 q1 => exact ⟨_, _, rfl, h1.sq, k _ (yields_enum h1 q1)⟩
      · cases e1
noncomputable def forS (g : Gv) (body : Sv) : List D → Sv
  | [], ρ => some (.nx ρ)
  | d :: ds, ρ => (g d ρ).bind fun ρ1 => match body ρ1 with
    | some (.nx ρ2) => forS g body ds ρ2
    | some (.ct ρ2) => forS g body ds ρ2
    | some (.bk ρ2) => some (.nx ρ2)
    | r => r
noncomputable def sFor (f : EvL) (g : Gv) (body : Sv) : Sv := fun ρ => lbndS (f ρ) fun ds => forS g body ds ρ
theorem drop_cons {α : Type} {xs : List α} {i : Nat} {x : α} (h : xs[i]? = some x) : xs.drop i = x :: xs.drop (i + 1) := by
  obtain ⟨hl, e⟩ := List.getElem?_eq_some_iff.mp h
  rw [← e]
  exact List.drop_eq_getElem_cons hl
theorem ds_for {f : EvL} {g : Gv} {fb : Sv} {body : List Stmt} {ss : List Nat} (hp : PassesOwn (model X.prog X.w) X.A X.env X.xe) (hc : X.calm = true) (hi : PI X tg l (tDI T K E f)) (hg : PG X tg (tDG T K g ss)) (hb : PSs X body (tDS T K E fb))
    (hs : ∀ x, foldedSetIterable l X.env x = pure x := by intro _; rfl) : PS X (.For tg l body [] pos) (tDS T K E (sFor f g fb)) := PS.imp (ps_for hp hc hi hg hb hs) fun D σ H ⟨c, ρ, F, fl, r, e, th⟩ => by
  unfold sFor lbndS at e
  split at e
  · rename_i ds q
    refine ⟨c, ρ, F, _, r, q, fun J H1 F1 g1 ⟨P, p1, pl, py⟩ => ?_⟩
    refine ⟨fun i m σ' H' => m = ds.length - i ∧ i ≤ ds.length ∧ ∃ ρ' F', Rel T K c ρ' σ' H' F' ∧ P H' F' ∧ forS g fb (ds.drop i) ρ' = some fl ∧ Later H H' F F', ⟨ds.length, by simp, Nat.zero_le _, ρ, F1, r.grow g1, p1, e, g1.later⟩, ?_⟩
    rintro i m σ' H' ⟨rfl, hi, ρ', F', r', p', e', l'⟩
    obtain ⟨y1, y2⟩ := py H' F' i p' r'.wf
    by_cases hlt : i < ds.length
    · obtain ⟨go, yl⟩ := y1 hlt
      refine .inr ⟨go, fun σ2 H2 => ∃ ρ2 F2, Rel T K c ρ2 σ2 H2 F2 ∧ P H2 F2 ∧ forS g fb (ds.drop (i + 1)) ρ2 = some fl ∧ Later H H2 F F2, fun σ2 H2 ⟨ρ2, F2, r2, p2, e2, l2⟩ => ⟨ds.length - (i + 1), by omega, rfl, hlt, ρ2, F2, r2, p2, e2, l2⟩, fun x H2 y => ?_⟩
      obtain ⟨d, hd, F2, g2, rp⟩ := yl x H2 y
      rw [drop_cons hd] at e'
      unfold forS at e'
      cases qg : g d ρ' with
      | none => rw [qg] at e'; cases e'
      | some ρ1 =>
        rw [qg] at e'
        refine ⟨c, ρ', F2, d, ρ1, r'.grow g2, rp, qg, fun σ3 r3 _ => ?_⟩
        have e' : (match fb ρ1 with
          | some (.nx ρ2) => forS g fb (ds.drop (i + 1)) ρ2
          | some (.ct ρ2) => forS g fb (ds.drop (i + 1)) ρ2
          | some (.bk ρ2) => some (.nx ρ2)
          | r => r) = some fl := e'
        have p2 := pl _ _ _ _ p' g2.later
        cases qb : fb ρ1 with
        | none => rw [qb] at e'; cases e'
        | some fl1 =>
          rw [qb] at e'
          refine ⟨c, ρ1, F2, fl1, r3, qb, ?_⟩
          cases fl1 with
          | nx ρ2 => exact fun σ4 H4 F4 l4 r4 => ⟨ρ2, F4, r4, pl _ _ _ _ p2 l4, e', (l'.trans g2.later).trans l4⟩
          | ct ρ2 => exact fun σ4 H4 F4 l4 r4 => ⟨ρ2, F4, r4, pl _ _ _ _ p2 l4, e', (l'.trans g2.later).trans l4⟩
          | bk ρ2 => cases e'; exact fun σ4 H4 F4 l4 r4 => th σ4 H4 F4 ((l'.trans g2.later).trans l4) r4
          | rt d => cases e'; exact th
          | exc n => cases e'; exact th
    · have hi' : i = ds.length := by omega
      subst hi'
      rw [List.drop_length] at e'
      cases e'
      exact .inl ⟨y2 (Nat.le_refl _), th σ' H' F' l' r'⟩
  · rename_i n q
    cases e
    exact ⟨c, ρ, F, _, r, q, fun H' z => th H' (r.ext.trans z)⟩
  · cases e
noncomputable def whileS (q : Ev) (body : Sv) : Nat → Sv
  | 0, _ => none
  | n + 1, ρ => sbnd (q ρ) fun d => match d with
    | .bl true => (match body ρ with
      | some (.nx ρ2) => whileS q body n ρ2
      | some (.ct ρ2) => whileS q body n ρ2
      | some (.bk ρ2) => some (.nx ρ2)
      | r => r)
    | .bl false => some (.nx ρ)
    | _ => none
noncomputable def sWhile (m : Rho → Nat) (q : Ev) (body : Sv) : Sv := fun ρ => whileS q body (m ρ) ρ
theorem ds_while {m : Rho → Nat} {q : Ev} {fb : Sv} {body : List Stmt} (hp : PassesOwn (model X.prog X.w) X.A X.env X.xe) (hc : PT X c (tDT T K E q)) (hb : PSs X body (tDS T K E fb)) : PS X (.While c body [] pos) (tDS T K E (sWhile m q fb)) :=
  PS.imp (ps_while hp hc hb) fun D σ H ⟨c, ρ, F, fl, r, e, th⟩ => by
    refine ⟨fun n σ' H' => ∃ ρ' F', Rel T K c ρ' σ' H' F' ∧ whileS q fb n ρ' = some fl ∧ Later H H' F F', ⟨m ρ, ρ, F, r, e, .refl⟩, ?_⟩
    rintro n σ' H' ⟨ρ', F', r', e', l'⟩
    cases n with
    | zero => cases e'
    | succ n =>
      unfold whileS at e'
      refine tDT_bindS r' e' (th.later l') (fun d e1 => ?_) (fun k H1 F1 g1 e1 => ?_)
      · split at e1
        · exact ⟨_, rfl⟩
        · exact ⟨_, rfl⟩
        · cases e1
      · cases k with
        | false => rw [if_neg (by decide)]; cases e1; exact th σ' H1 F1 (l'.trans g1.later) (r'.grow g1)
        | true =>
          rw [if_pos rfl]
          refine ⟨fun σ2 H2 => ∃ ρ2 F2, Rel T K c ρ2 σ2 H2 F2 ∧ whileS q fb n ρ2 = some fl ∧ Later H H2 F F2, fun σ2 H2 h2 => ⟨n, Nat.lt_succ_self _, h2⟩, ?_⟩
          dsimp only at e1
          cases qb : fb ρ' with
          | none => rw [qb] at e1; cases e1
          | some fl1 =>
            rw [qb] at e1
            refine ⟨c, ρ', F1, fl1, r'.grow g1, qb, ?_⟩
            cases fl1 with
            | nx ρ2 => exact fun σ4 H4 F4 l4 r4 => ⟨ρ2, F4, r4, e1, (l'.trans g1.later).trans l4⟩
            | ct ρ2 => exact fun σ4 H4 F4 l4 r4 => ⟨ρ2, F4, r4, e1, (l'.trans g1.later).trans l4⟩
            | bk ρ2 => cases e1; exact fun σ4 H4 F4 l4 r4 => th σ4 H4 F4 ((l'.trans g1.later).trans l4) r4
            | rt d => cases e1; exact th
            | exc n => cases e1; exact th
end
end BD

namespace BD
open PySem L2
variable {T : Tab} {K : PySem.W.Frag}
section
variable {X : Cx} {E : XK} {a b c e l tg : Expr} {es rest : List Expr} {pos : Pos}
noncomputable def sApp (i : Nat) (f : Ev) : Sv := fun ρ => match ρ[i]? with
  | some (some (.own ds)) => sbnd (f ρ) fun d => if smallL ds then some (.nx (ρ.set i (some (.own (ds ++ [d]))))) else none
  | _ => none
theorem ds_append {i : Nat} {f : Ev} {o : Expr} {apos cpos : Pos} (ho : PE X o (tVar i)) (ha : PE X e (tD T X.K E f)) (hbase : attributeBase o "append" X.env (eval o X.env) = eval o X.env := by rfl)
    (hfew : ((backTo cpos (starEach [e] X.env)).all (fun x => !x.1) && (backToKw cpos (keywordEach [] X.env)).all (fun x => x.1.isSome) && decide ([e].length + ([] : List Keyword).length + (if ([] : List Keyword).isEmpty then 0 else 1) < 30)) = true := by rfl)
    (hline : (apos.endLine == cpos.line) = true := by rfl) (hs : starEach [e] X.env = (false, eval e X.env) :: starEach [] X.env := by rfl)
    (hsw : swapsWith (.Call (.Attribute o "append" apos) [e] [] cpos) none pos.line X.env = pure false := by rfl) : PS X (.Expr (.Call (.Attribute o "append" apos) [e] [] cpos) pos) (tDS T X.K E (sApp i f)) :=
  PS.imp (ps_expr (pe_bm PySem.F.plainAttrs_list PySem.F.slot_list_append PySem.F.type_list_append mt_append ho (pa_cons ha pa_nil hs) hbase hfew hline hs) hsw) fun D σ H ⟨c, ρ, F, fl, r, e, th⟩ => by
    unfold sApp at e
    split at e
    · rename_i ds q
      obtain ⟨p, vs, h1, h2, h3, h4, h5, h6⟩ := r.own i ds q
      refine ⟨_, h1, .inl ⟨rfl, vs, SqL.of h2⟩, ?_⟩
      refine tD_bindS r e th fun d v H1 F1 g1 r1 e1 => ?_
      split at e1
      · rename_i hsm
        cases e1
        refine ⟨p, vs, v, rfl, rfl, g1.ext _ _ h2, smallL_ok h3 hsm, ?_⟩
        obtain ⟨kp, r'⟩ := (r.grow g1).change q h1 ((h3.grow g1).append (.cons r1 .nil))
        exact th σ _ F1 (g1.later.trans ⟨kp, fun _ z => z⟩) r'
      · cases e1
    · cases e
noncomputable def wipeR (ρ : Rho) : List Nat → Rho
  | [] => ρ
  | v :: vs => (wipeR ρ vs).set v none
theorem Rel.wipe {c : Ent} {ρ : Rho} {σ : L2.St} {H : Hp} {F : Addr → Prop} (r : Rel T K c ρ σ H F) : ∀ vs : List Nat, Rel T K c (wipeR ρ vs) (wipe σ vs) H F
  | [] => r
  | v :: vs => (r.wipe vs).drop
theorem wipe_get (σ : L2.St) : ∀ (vs : List Nat) (j : Nat), (wipe σ vs)[j]? = if j ∈ vs then (σ[j]?).map (fun _ => none) else σ[j]?
  | [], j => by simp [L2.wipe]
  | v :: vs, j => by
    unfold L2.wipe
    by_cases hj : j = v
    · subst hj
      rw [List.getElem?_set_self']
      rw [wipe_get σ vs j]
      simp
      split
      · cases σ[j]? <;> rfl
      · cases σ[j]? <;> rfl
    · rw [get_set_ne hj, wipe_get σ vs j]
      simp [hj]
theorem wipe_but {ss vs : List Nat} {σ σ' : L2.St} (b : But ss (wipe σ vs) σ') (h : ∀ j ∈ ss, j ∈ vs) : wipe σ' vs = wipe σ vs := by
  apply List.ext_getElem?
  intro j
  rw [wipe_get, wipe_get]
  by_cases hj : j ∈ vs
  · rw [if_pos hj, if_pos hj]
    have hl : σ'.length = σ.length := by rw [b.1, wipe_length]
    by_cases hlt : j < σ.length
    · rw [List.getElem?_eq_getElem hlt, List.getElem?_eq_getElem (by omega)]; rfl
    · rw [List.getElem?_eq_none (by omega), List.getElem?_eq_none (by omega)]
  · rw [if_neg hj, if_neg hj, b.2 j fun z => hj (h j z), wipe_get, if_neg hj]
noncomputable def qYes : Ev := fun _ => some (.val (.bl true))
theorem dts_nil : PTs X [] (tDT T K E qYes) := fun pins s σ H Q I ⟨c, ρ, F, out, r, e, th⟩ => pts_nil pins s σ H Q I (by cases e; exact th H F (.refl r.wf))
noncomputable def compS (g : Gv) (q elt : Ev) (ρ : Rho) : List D → Option (List D)
  | [] => some []
  | d :: ds => (g d ρ).bind fun ρ1 => match q ρ1 with
    | some (.val (.bl true)) => (match elt ρ1 with
      | some (.val y) => (compS g q elt ρ ds).map (y :: ·)
      | _ => none)
    | some (.val (.bl false)) => compS g q elt ρ ds
    | _ => none
noncomputable def lComp (f : EvL) (g : Gv) (q elt : Ev) (vs : List Nat) : EvL := fun ρ => lbndL (f ρ) fun ds => if smallL ds then (compS g q elt (wipeR ρ vs) ds).map .vals else none
noncomputable def rm (H : Hp) (p : Addr) : Hp := fun a => if a = p then none else H a
theorem rm_self {H : Hp} {p : Addr} : rm H p p = none := if_pos rfl
theorem rm_ne {H : Hp} {p a : Addr} (h : a ≠ p) : rm H p a = H a := if_neg h
theorem rm_upd {H : Hp} {p : Addr} {o : HO} (h : H p = some o) : upd (rm H p) p o = H := by
  funext a
  by_cases ha : a = p
  · subst ha; rw [upd_same, h]
  · rw [upd_ne ha, rm_ne ha]
theorem rm_of_none {H : Hp} {p : Addr} (h : H p = none) : rm H p = H := by
  funext a
  by_cases ha : a = p
  · subst ha; rw [rm_self, h]
  · exact rm_ne ha
theorem rm_upd2 {H : Hp} {p : Addr} {o : HO} : rm (upd H p o) p = rm H p := by
  funext a
  by_cases ha : a = p
  · subst ha; rw [rm_self, rm_self]
  · rw [rm_ne ha, rm_ne ha, upd_ne ha]
theorem Grow.rm {H H' : Hp} {F F' : Addr → Prop} {p : Addr} {o : HO} (g : Grow H H' F F') (hp : H p = some o) (nf : ¬ F p) : Grow (BD.rm H p) (BD.rm H' p) F F' := by
  have nf' : ¬ F' p := fun z => by
    rcases g.new p z with z | z
    · exact nf z
    · rw [hp] at z; cases z
  refine ⟨fun a u e => ?_, g.more, fun a z => ?_, fun a z => ?_⟩
  · by_cases ha : a = p
    · subst ha; rw [rm_self] at e; cases e
    · rw [rm_ne ha] at e ⊢; exact g.ext a u e
  · rcases g.new a z with z | z
    · exact .inl z
    · by_cases ha : a = p
      · subst ha; rw [hp] at z; cases z
      · exact .inr (by rw [rm_ne ha]; exact z)
  · by_cases ha : a = p
    · subst ha; exact absurd z nf'
    · rw [rm_ne ha]; exact g.wf a z
theorem tLc_of {E2 : XK} {f : EvL} {g : Gv} {q elt : Ev} {vs ss : List Nat} {σ : L2.St} {H : Hp} {Q : VK} (hss : ∀ j ∈ ss, j ∈ vs) (h : tDF T K E (lComp f g q elt vs) σ H Q) :
    tLc (tDI T K E f) (tDG T K g ss) (tDT T K E2 q) (tD T K E2 elt) vs σ H Q := by
  obtain ⟨c, ρ, F, out, r, e, th⟩ := h
  unfold lComp lbndL at e
  split at e
  · rename_i ds qf
    dsimp only at e
    split at e
    · rename_i hsm
      cases qc : compS g q elt (wipeR ρ vs) ds with
      | none => rw [qc] at e; cases e
      | some res =>
        rw [qc] at e
        cases e
        refine ⟨c, ρ, F, _, r, qf, fun J H1 F1 g1 ⟨P, p1, pl, py⟩ p hp => ?_⟩
        have hsm := of_decide_eq_true hsm
        have rw1 := (r.grow g1).wipe vs
        have nf1 : ¬ F1 p := fun z => g1.wf p z hp
        have g0 : Grow H1 (upd H1 p (.lst [])) F1 F1 := Grow.upd g1.wf hp
        refine ⟨fun i m H' => m = ds.length - i ∧ i ≤ ds.length ∧ ∃ F' av ad rest, P H' F' ∧ Grow H1 (rm H' p) F1 F' ∧ H' p = some (.lst av) ∧ Reps T K F' H' av ad ∧ ad.length ≤ i ∧ compS g q elt (wipeR ρ vs) (ds.drop i) = some rest ∧ ad ++ rest = res,
          ⟨ds.length, by simp, Nat.zero_le _, F1, [], [], res, pl _ _ _ _ p1 g0.later, by rw [rm_upd2, rm_of_none hp]; exact .refl g1.wf, upd_same, .nil, by simp, by simpa using qc, by simp⟩, ?_⟩
        rintro i m H' ⟨rfl, hi, F', av, ad, rest, p', gw, hpp, ra, la, ec, er⟩
        have nf' : ¬ F' p := fun z => gw.wf p z rm_self
        have eH := rm_upd hpp
        have gq : Grow (rm H' p) H' F' F' := by
          have := Grow.upd (o := .lst av) gw.wf (rm_self (H := H') (p := p))
          rw [eH] at this
          exact this
        have rr := (rw1.grow gw).grow gq
        obtain ⟨y1, y2⟩ := py H' F' i p' rr.wf
        by_cases hlt : i < ds.length
        · obtain ⟨go, yl⟩ := y1 hlt
          refine .inr ⟨go, fun H2 => ∃ F' av ad rest, P H2 F' ∧ Grow H1 (rm H2 p) F1 F' ∧ H2 p = some (.lst av) ∧ Reps T K F' H2 av ad ∧ ad.length ≤ i + 1 ∧ compS g q elt (wipeR ρ vs) (ds.drop (i + 1)) = some rest ∧ ad ++ rest = res,
            fun H2 h2 => ⟨ds.length - (i + 1), by omega, rfl, hlt, h2⟩, fun x H2 y => ?_⟩
          obtain ⟨d, hd, F2, g2, rp⟩ := yl x H2 y
          rw [drop_cons hd] at ec
          unfold compS at ec
          cases qg : g d (wipeR ρ vs) with
          | none => rw [qg] at ec; cases ec
          | some ρ1 =>
            rw [qg] at ec
            dsimp only [Option.bind] at ec
            refine ⟨c, wipeR ρ vs, F2, d, ρ1, rr.grow g2, rp, qg, fun σ3 r3 b3 => ⟨wipe_but b3 hss, ?_⟩⟩
            cases qq : q ρ1 with
            | none => rw [qq] at ec; cases ec
            | some o1 =>
              rw [qq] at ec
              refine ⟨c, ρ1, F2, o1, r3, qq, ?_⟩
              cases o1 with
              | exc n => cases ec
              | val d1 =>
                cases d1 with
                | bl k =>
                  intro H3 F3 g3
                  have g23 := g2.trans g3
                  have gw3 := gw.trans (g23.rm hpp nf')
                  have h3p := g23.ext _ _ hpp
                  have ra3 := ra.grow g23
                  have p3 := pl _ _ _ _ p' g23.later
                  cases k with
                  | false =>
                    rw [if_neg (by decide)]
                    exact ⟨F3, av, ad, rest, p3, gw3, h3p, ra3, by omega, ec, er⟩
                  | true =>
                    rw [if_pos rfl]
                    dsimp only at ec
                    cases qe : elt ρ1 with
                    | none => rw [qe] at ec; cases ec
                    | some o2 =>
                      rw [qe] at ec
                      refine ⟨c, ρ1, F3, o2, r3.grow g3, qe, ?_⟩
                      cases o2 with
                      | exc n => cases ec
                      | val d2 =>
                        intro y2 H4 F4 g4 r4
                        dsimp only at ec
                        cases qr : compS g q elt (wipeR ρ vs) (ds.drop (i + 1)) with
                        | none => rw [qr] at ec; cases ec
                        | some rest' =>
                          rw [qr] at ec
                          cases ec
                          have nf3 : ¬ F3 p := fun z => gw3.wf p z rm_self
                          have gw4 := gw3.trans (g4.rm h3p nf3)
                          have h4p := g4.ext _ _ h3p
                          have ra4 := (ra3.grow g4).append (.cons r4 .nil)
                          have nf4 : ¬ F4 p := fun z => gw4.wf p z rm_self
                          have kp : Later H4 (upd H4 p (.lst (av ++ [y2]))) F4 F4 := ⟨fun a o e z => by
                            by_cases ha : a = p
                            · subst ha
                              rcases z with z | z
                              · exact absurd z nf4
                              · rw [h4p] at e; cases e; exact absurd rfl (z av)
                            · rw [upd_ne ha]; exact e, fun _ z => z⟩
                          refine ⟨av, h4p, ?_, F4, av ++ [y2], ad ++ [d2], rest', pl _ _ _ _ p3 (g4.later.trans kp), by rw [rm_upd2]; exact gw4, upd_same, ra4.later kp, by simp; omega, rfl, by rw [← er]; simp⟩
                          rw [ra.length]
                          have : ad.length ≤ 1000000 := by omega
                          exact Nat.lt_of_le_of_lt this (by decide)
                | _ => cases ec
        · have hi' : i = ds.length := by omega
          subst hi'
          rw [List.drop_length] at ec
          cases ec
          rw [List.append_nil] at er
          subst er
          refine .inl ⟨y2 (Nat.le_refl _), ?_⟩
          exact th p av (rm H' p) H' F' (g1.trans gw) rm_self eH.symm ra
    · cases e
  · rename_i n qf
    cases e
    exact ⟨c, ρ, F, _, r, qf, th⟩
  · cases e
theorem df_lc {E2 : XK} {elt iter : Expr} {ifs : List Expr} {scope : Scope} {own : List (Str × Nat)} {f : EvL} {g : Gv} {q fe : Ev} {ss : List Nat} (hc : X.calm = true) (hN : X.N.Nodup) (hi : PI X tg iter (tDI T K E f)) (ok : BlkOk X.N X.env.scope scope own)
    (hg : ∀ (s : Shared) (H : Hp) (C : Addr) (cl : List (Str × Addr)) (fp : List Addr), PG (X.blk s H scope (compEnvC scope cl C X.env) fp) tg (tDG T K g ss)) (ht : ∀ (s : Shared) (H : Hp) (C : Addr) (cl : List (Str × Addr)) (fp : List Addr), PTs (X.blk s H scope (compEnvC scope cl C X.env) fp) ifs (tDT T K E2 q))
    (he : ∀ (s : Shared) (H : Hp) (C : Addr) (cl : List (Str × Addr)) (fp : List Addr), PE (X.blk s H scope (compEnvC scope cl C X.env) fp) elt (tD T K E2 fe)) (hss : ∀ j ∈ ss, j ∈ own.map (·.2)) (hs : ∀ x, foldedSetIterable iter X.env x = pure x := by intro _; rfl) :
    PE X (.ListComp elt [⟨tg, iter, ifs, 0⟩] scope pos) (tDF T K E (lComp f g q fe (own.map (·.2)))) := PE.imp (pe_lc hc hN hi ok hg ht he hs) fun σ H Q h => tLc_of hss h
theorem ds_setLc {E2 : XK} {i : Nat} {y : Str} {py : Pos} {elt iter : Expr} {ifs : List Expr} {scope : Scope} {own : List (Str × Nat)} {spos : Pos} {f : EvL} {g : Gv} {q fe : Ev} {ss : List Nat} (hc : X.calm = true) (hN : X.N.Nodup) (hy : X.N[i]? = some y) (hyl : X.env.scope.names.lookup y = some .local)
    (hsw : swapsWith (.ListComp elt [⟨tg, iter, ifs, 0⟩] scope pos) (some (.Name y py)) spos.line X.env = pure true) (hi : PI X tg iter (tDI T K E f)) (ok : BlkOk X.N X.env.scope scope own)
    (hg : ∀ (s : Shared) (H : Hp) (C : Addr) (cl : List (Str × Addr)) (fp : List Addr), PG (X.blk s H scope (compEnvC scope cl C X.env) fp) tg (tDG T K g ss)) (ht : ∀ (s : Shared) (H : Hp) (C : Addr) (cl : List (Str × Addr)) (fp : List Addr), PTs (X.blk s H scope (compEnvC scope cl C X.env) fp) ifs (tDT T K E2 q))
    (he : ∀ (s : Shared) (H : Hp) (C : Addr) (cl : List (Str × Addr)) (fp : List Addr), PE (X.blk s H scope (compEnvC scope cl C X.env) fp) elt (tD T K E2 fe)) (hss : ∀ j ∈ ss, j ∈ own.map (·.2)) (hs : ∀ x, foldedSetIterable iter X.env x = pure x := by intro _; rfl) :
    PS X (.Assign [.Name y py] (.ListComp elt [⟨tg, iter, ifs, 0⟩] scope pos) spos) (tDS T K E (sOwn (lComp f g q fe (own.map (·.2))) i)) := PS.imp (ps_setLc hc hN hy hyl hsw hi ok hg ht he hs) fun D σ H ⟨c, ρ, F, fl, r, e, th⟩ => by
  refine tLc_of hss ?_
  unfold sOwn lbndS at e
  split at e
  · rename_i ds q
    cases e
    exact ⟨c, ρ, F, _, r, q, fun p vs H1 H' F' g hp eH rp => th _ H' F' (by subst eH; exact g.later.trans (Grow.upd g.wf hp).later) (rel_own r g hp eH rp i)⟩
  · rename_i n q
    cases e
    exact ⟨c, ρ, F, _, r, q, fun H' z => th H' (r.ext.trans z)⟩
  · cases e
end
noncomputable def fnSem (n m : Nat) (body : Sv) : List D → Option Out := fun ds => if ds.length = n then (match body (ds.map (fun d => some (.sh d)) ++ List.replicate m none) with
  | some (.rt d) => some (.val d)
  | some (.nx _) => some (.val .non)
  | some (.exc k) => some (.exc k)
  | _ => none) else none
theorem fnSem_len {n m : Nat} {body : Sv} {ds : List D} {o : Out} (h : fnSem n m body ds = some o) : ds.length = n := by
  unfold fnSem at h
  split at h
  · assumption
  · cases h
theorem rel_start {N : List Str} {H : Hp} {F : Addr → Prop} {vs : List V} {ds : List D} {n : Nat} (wf : ∀ a, F a → H a ≠ none) (r : Reps T K F H vs ds) (hl : ds.length = n) (hN : n ≤ N.length) :
    Rel T K ⟨H, F⟩ (ds.map (fun d => some (.sh d)) ++ List.replicate (N.length - n) none) (L2.start N vs) H F where
  len := by unfold L2.start; simp [r.length, hl]
  sh := fun i d e => by
    have hi : i < ds.length := by
      by_cases hi : i < ds.length
      · exact hi
      · rw [List.getElem?_append_right (by simpa using hi), List.getElem?_replicate] at e
        split at e <;> cases e
    rw [List.getElem?_append_left (by simpa using hi), List.getElem?_map] at e
    cases q : ds[i]? with
    | none => rw [q] at e; cases e
    | some d' =>
      rw [q] at e
      cases e
      obtain ⟨v, h1, h2⟩ := r.get q
      refine ⟨v, ?_, h2⟩
      unfold L2.start
      rw [List.getElem?_append_left (by simp [r.length]; exact hi), List.getElem?_map, h1]
      rfl
  own := fun i d e => by
    by_cases hi : i < ds.length
    · rw [List.getElem?_append_left (by simpa using hi), List.getElem?_map] at e
      cases q : ds[i]? with
      | none => rw [q] at e; cases e
      | some d' => rw [q] at e; cases e
    · rw [List.getElem?_append_right (by simpa using hi), List.getElem?_replicate] at e
      split at e <;> cases e
  ext := .refl H
  f0 := fun _ h => h
  f1 := fun _ h => .inl h
  wf := wf
theorem sp_body {N : List Str} {n : Nat} {fb : Sv} {vs : List V} {H : Hp} {Q : VK} {E : XK} (hN : n ≤ N.length) (h : spD T K (fnSem n (N.length - n) fb) vs H Q E) : tDS T K E fb { nx := fun _ H' => Q .non H', rt := Q } (L2.start N vs) H := by
  obtain ⟨F, ds, out, wf, r, e, th⟩ := h
  have hl := fnSem_len e
  have rl := rel_start (N := N) wf r hl hN
  unfold fnSem at e
  rw [if_pos hl] at e
  split at e
  · rename_i d q
    cases e
    exact ⟨_, _, F, _, rl, q, fun v H' F' g rp => th v H' F' g rp⟩
  · rename_i ρ q
    cases e
    exact ⟨_, _, F, _, rl, q, fun σ' H' F' l r' => th _ H' F' r'.growE .non⟩
  · rename_i k q
    cases e
    exact ⟨_, _, F, _, rl, q, fun H' x => th H' x⟩
  · cases e
end BD

namespace BD
open PySem L2
variable {T : Tab} {K : PySem.W.Frag}
theorem sp_script {g : List D → Option Out} {H : Hp} {a : Addr} {ns : List Int} (hS : SqL K H a (ns.map V.int)) (hg : g [.lst (ns.map D.int)] = some (.val (.bl true))) : spD T K g [.ref a] H (fun v _ => v = .bl true) fun _ _ _ => False := by
  rcases hS with h | h
  · refine ⟨fun b => b = a, [.lst (ns.map D.int)], _, fun b e => ?_, .cons (.lst (.inl ⟨rfl, h⟩) (Reps.ints ns)) .nil, hg, fun v H' F' _ r => by cases r; rfl⟩
    subst e
    rcases h with h | ⟨o, h⟩ <;> rw [h] <;> simp
  · exact ⟨fun _ => False, [.lst (ns.map D.int)], _, fun b e => e.elim, .cons (.lst (.inr h) (Reps.ints ns)) .nil, hg, fun v H' F' _ r => by cases r; rfl⟩
theorem wt_mem {ns : List Int} : ∀ {i : Int}, i ∈ ns → PySem.W.WData.weight (.int i) ≤ PySem.W.WData.weightAll (ns.map .int) := by
  induction ns with
  | nil => intro i h; cases h
  | cons n ns ih =>
    intro i h
    simp only [List.map_cons, PySem.W.WData.weightAll]
    rcases List.mem_cons.mp h with rfl | h
    · omega
    · have := ih h; omega
theorem bits_of {ns : List Int} (h : PySem.W.WData.layableAll [.list (ns.map .int)] = true) : ∀ i ∈ ns, i.natAbs.log2 < 1048576 := fun i hi => by
  simp only [PySem.W.WData.layableAll, List.all_cons, List.all_nil, Bool.and_true, PySem.W.WData.layable, Bool.and_eq_true, decide_eq_true_eq] at h
  have hw : PySem.W.WData.weightAll (ns.map .int) ≤ 2 ^ 20 := by simpa only [PySem.W.WData.weight] using h.2
  have := wt_mem hi
  have e : PySem.W.WData.weight (.int i) = if i == 0 then 0 else i.natAbs.log2 + 1 := by simp only [PySem.W.WData.weight]
  rw [e] at this
  by_cases z : i = 0
  · subst z; decide
  · rw [if_neg (by simpa using z)] at this
    have : (2 : Nat) ^ 20 = 1048576 := by decide
    omega
noncomputable def LawT (n : Nat) (g : List D → Option Out) : Prop := ∀ ns : List Int, ns.length ≤ n → (∀ i ∈ ns, i.natAbs.log2 < 1048576) → g [.lst (ns.map D.int)] = some (.val (.bl true))
end BD

namespace BD
open PySem L2
variable {T : Tab} {K : PySem.W.Frag}
noncomputable def Cl (P : Program) (w : World) (K : PySem.W.Frag) (mg : Str → Option Value) (base : Heap) (CX : CXT) (T : Tab) (x : Str) (ps : List Str) (k : Nat) (g : List D → Option Out) : Prop :=
  ∃ f fd, FnOk P w K mg base CX k f fd ps (spD T K g) ∧ mg x = some (.ref f) ∧ PySem.W.keepIn K (.ref f) = true ∧ Binds K fd ps []
noncomputable def fuelR : Rho → Nat
  | [] => 2
  | some (.sh (.int i)) :: r => i.natAbs + fuelR r
  | _ :: r => fuelR r
section
variable {X : Cx} {E : XK} {a b c e l tg : Expr} {es rest : List Expr} {pos : Pos}
theorem de_c {CX : CXT} {k : Nat} {ps : List Str} {g : List D → Option Out} {fs : EvL} {x : Str} {p : Pos} (C : Cl X.prog X.w X.K X.mg X.base CX T x ps k g) (hr : Room k X.A) (hx : Passes CX X E) (hg : Gl X x) (ha : PA X (e :: es) (tDA T X.K E fs)) (hdb : (x == ("__debug__" : Str)) = false := by decide)
    (he : starEach (e :: es) X.env = (false, eval e X.env) :: starEach es X.env := by rfl) (hpl : (backTo pos (starEach es X.env)).any (·.1) = false := by rfl) : PE X (.Call (.Name x p) (e :: es) [] pos) (tD T X.K E (eCall g fs)) := by
  obtain ⟨f, fd, G, hm, hk, hb⟩ := C
  exact de_call G hr hg hm hk hb hx ha hdb he hpl
theorem de_gi {x : Str} {i : Int} (hg : Gl X x) (hm : ∃ t, X.mg x = some (.int i t)) (hd : (x == ("__debug__" : Str)) = false := by decide) : PE X (.Name x pos) (tD T K E (eC (.int i))) := by
  obtain ⟨t, hm⟩ := hm
  exact de_glob (v := .int i) hg hm ⟨t, rfl⟩ (fun _ _ => .int i) hd
theorem vr (i : Nat) {x : Str} {pos : Pos} (hN : X.N[i]? = some x := by rfl) (hv : Vis X.env.scope x := by first | exact Or.inl rfl | exact Or.inr (Or.inl rfl) | exact Or.inr (Or.inr rfl)) (hd : (x == ("__debug__" : Str)) = false := by decide)
    (hcd : (x == ("__classdict__" : Str)) = false := by decide) : PE X (.Name x pos) (tD T K E (eVar i)) := de_var (pe_var hN hv hd hcd)
end
end BD

namespace BD
open PySem L2
structure JE (X : Cx) (T : Tab) (E : XK) (e : Expr) (f : Ev) : Prop where h : PE X e (tD T X.K E f)
structure JF (X : Cx) (T : Tab) (E : XK) (e : Expr) (f : EvL) : Prop where h : PE X e (tDF T X.K E f)
structure JT (X : Cx) (T : Tab) (E : XK) (e : Expr) (f : Ev) : Prop where h : PT X e (tDT T X.K E f)
structure JW (X : Cx) (T : Tab) (E : XK) (e : Expr) (f : Ev) : Prop where h : PW X e (tDT T X.K E f)
structure JTs (X : Cx) (T : Tab) (E : XK) (es : List Expr) (f : Ev) : Prop where h : PTs X es (tDT T X.K E f)
structure JA (X : Cx) (T : Tab) (E : XK) (es : List Expr) (f : EvL) : Prop where h : PA X es (tDA T X.K E f)
structure JO (X : Cx) (T : Tab) (E : XK) (e : Option Expr) (f : EvO) : Prop where h : PO X e (tDO T X.K f)
structure JI (X : Cx) (T : Tab) (E : XK) (tg e : Expr) (f : EvL) : Prop where h : PI X tg e (tDI T X.K E f)
structure JG (X : Cx) (T : Tab) (e : Expr) (g : Gv) (ss : List Nat) : Prop where h : PG X e (tDG T X.K g ss)
structure JGs (X : Cx) (T : Tab) (e : List Expr) (g : Gvs) (ss : List Nat) : Prop where h : PGs X e (tDGs T X.K g ss)
structure JS (X : Cx) (T : Tab) (E : XK) (st : Stmt) (f : Sv) : Prop where h : PS X st (tDS T X.K E f)
structure JB (X : Cx) (T : Tab) (E : XK) (st : List Stmt) (f : Sv) : Prop where h : PSs X st (tDS T X.K E f)
structure JBin (X : Cx) (T : Tab) (op : Operator) (g : D → D → Option D) : Prop where h : OpR X (binaryOp op) (rD T X.K g)
structure JCmp (X : Cx) (T : Tab) (op : CmpOp) (g : D → D → Option D) : Prop where h : OpR X (compareOp op) (rD T X.K g)
structure JCall (X : Cx) (T : Tab) (id : String) (g : List D → Option D) : Prop where h : CallR X (.builtin id) (rB T X.K g)
section
variable {X : Cx} {T : Tab} {E E2 : XK} {a b c e l tg elt iter o ix : Expr} {es rest ifs : List Expr} {pos pos' p p2 apos cpos spos tpos : Pos} {fa fb fc f g q fe fi : Ev} {fs gs : EvL} {st : Stmt} {sts sa sb body : List Stmt} {F G : Sv}
theorem jp_add : JBin X T .Add (i2 addI) := ⟨od_add⟩
theorem jp_sub : JBin X T .Sub (i2 subI) := ⟨od_sub⟩
theorem jp_mul : JBin X T .Mult (i2 mulI) := ⟨od_mul⟩
theorem jp_div : JBin X T .FloorDiv (i2 divI) := ⟨od_div⟩
theorem jp_mod : JBin X T .Mod (i2 modI) := ⟨od_mod⟩
theorem jp_pow : JBin X T .Pow (i2 powI) := ⟨od_pow⟩
theorem jp_lt : JCmp X T .Lt (i2 ltI) := ⟨od_lt⟩
theorem jp_le : JCmp X T .LtE (i2 leI) := ⟨od_le⟩
theorem jp_gt : JCmp X T .Gt (i2 gtI) := ⟨od_gt⟩
theorem jp_ge : JCmp X T .GtE (i2 geI) := ⟨od_ge⟩
theorem jp_eq (hu : X.A.units + 64 < cLine) : JCmp X T .Eq eqD := ⟨od_eq hu⟩
theorem jp_ne (hu : X.A.units + 64 < cLine) : JCmp X T .NotEq neD := ⟨od_ne hu⟩
theorem jc_len : JCall X T "len" lenB := ⟨cb_len⟩
theorem jc_abs : JCall X T "abs" absB := ⟨cb_abs⟩
theorem jc_sum (hc : X.calm = true) : JCall X T "sum" sumB := ⟨cb_sum hc⟩
theorem jc_all (hc : X.calm = true) : JCall X T "all" allB := ⟨cb_all hc⟩
theorem jv (i : Nat) {x : Str} (hN : X.N[i]? = some x := by kernel_rfl) (hv : Vis X.env.scope x := by exact Or.inl (by kernel_rfl)) (hd : (x == ("__debug__" : Str)) = false := by kernel_rfl)
    (hcd : (x == ("__classdict__" : Str)) = false := by kernel_rfl) : JE X T E (.Name x pos) (eVar i) := ⟨vr i hN hv hd hcd⟩
theorem je_int {i j} : JE X T E (.Constant (.int i) j pos) (eC (.int i)) := ⟨de_int⟩
theorem je_bl {i j} : JE X T E (.Constant (.bool i) j pos) (eC (.bl i)) := ⟨de_bl⟩
theorem je_non {j} : JE X T E (.Constant .none j pos) (eC .non) := ⟨de_non⟩
theorem je_gi {x : Str} {i : Int} (hg : X.env.kindOf x = some .globalImplicit) (hm : ∃ t, X.mg x = some (.int i t)) (hd : (x == ("__debug__" : Str)) = false := by kernel_rfl) : JE X T E (.Name x pos) (eC (.int i)) := ⟨de_gi hg hm hd⟩
theorem ja_nil : JA X T E [] aNil := ⟨da_nil⟩
theorem ja_cons (ha : JE X T E e f) (hr : JA X T E es fs) (hs : starEach (e :: es) X.env = (false, eval e X.env) :: starEach es X.env := by kernel_rfl) : JA X T E (e :: es) (aCons f fs) := ⟨da_cons ha.h hr.h hs⟩
theorem je_tup {x1} (h : JA X T E es fs) : JE X T E (.Tuple es x1 pos) (eTup fs) := ⟨de_tup h.h⟩
theorem je_fr (h : JF X T E e fs) : JE X T E e (eFr fs) := ⟨de_fr h.h⟩
theorem jf_lst (h : JA X T E es fs) : JF X T E (.List es pos) (lLst fs) := ⟨df_lst h.h⟩
theorem je_op {op : Operator} {gg : D → D → Option D} (ho : JBin X T op gg) (ha : JE X T E a fa) (hb : JE X T E b fb) : JE X T E (.BinOp a op b pos) (eOp gg fa fb) := ⟨de_op ho.h ha.h hb.h⟩
theorem je_cmp {op : CmpOp} {gg : D → D → Option D} (ho : JCmp X T op gg) (ha : JE X T E a fa) (hb : JE X T E b fb) (hm : behindInMarks op b = false) : JE X T E (.Compare a [op] [b] pos) (eOp gg fa fb) := ⟨de_cmp ho.h ha.h hb.h hm⟩
theorem jt_cmp {op : CmpOp} {gg : D → D → Option D} (ho : JCmp X T op gg) (ha : JE X T E a fa) (hb : JE X T E b fb) (hm : behindInMarks op b = false) : JT X T E (.Compare a [op] [b] pos) (eOp gg fa fb) := ⟨dt_cmp ho.h ha.h hb.h hm⟩
theorem je_chain {op op' : CmpOp} {gg gg' : D → D → Option D} (ho : JCmp X T op gg) (ho' : JCmp X T op' gg') (ha : JE X T E a fa) (hb : JE X T E b fb) (hc : JE X T E c fc) (hm : lastMarks [op, op'] [b, c] = false := by kernel_rfl) : JE X T E (.Compare a [op, op'] [b, c] pos) (eChain gg gg' fa fb fc) := ⟨de_chain ho.h ho'.h ha.h hb.h hc.h hm⟩
theorem jt_chain {op op' : CmpOp} {gg gg' : D → D → Option D} (ho : JCmp X T op gg) (ho' : JCmp X T op' gg') (ha : JE X T E a fa) (hb : JE X T E b fb) (hc : JE X T E c fc) (hm : lastMarks [op, op'] [b, c] = false := by kernel_rfl) : JT X T E (.Compare a [op, op'] [b, c] pos) (eChain gg gg' fa fb fc) := ⟨dt_chain ho.h ho'.h ha.h hb.h hc.h hm⟩
theorem je_neg (h : JE X T E a f) : JE X T E (.UnaryOp .USub a pos) (eNeg f) := ⟨de_neg h.h⟩
theorem je_not (h : JE X T E a f) : JE X T E (.UnaryOp .Not a pos) (qNot f) := ⟨de_not h.h⟩
theorem jt_not (h : JT X T E a f) : JT X T E (.UnaryOp .Not a pos) (qNot f) := ⟨dt_not h.h⟩
theorem jt_val (h : JE X T E a f) (he : ∀ whole, isTrue a X.env whole = (do let v ← whole; standAt a.pos; holding [v] (truthy v)) := by intro _; kernel_rfl) : JT X T E a (qV f) := ⟨dt_val h.h he⟩
theorem jw_and1 (h : JT X T E a f) : JW X T E (.BoolOp .And [a] pos) f := ⟨dw_and1 h.h⟩
theorem jw_or1 (h : JT X T E a f) : JW X T E (.BoolOp .Or [a] pos) f := ⟨dw_or1 h.h⟩
theorem jw_and (ha : JT X T E a f) (hb : JW X T E (.BoolOp .And (b :: rest) pos) g) : JW X T E (.BoolOp .And (a :: b :: rest) pos) (qAnd f g) := ⟨dw_and ha.h hb.h⟩
theorem jw_or (ha : JT X T E a f) (hb : JW X T E (.BoolOp .Or (b :: rest) pos) g) : JW X T E (.BoolOp .Or (a :: b :: rest) pos) (qOr f g) := ⟨dw_or ha.h hb.h⟩
theorem JW.pt (h : JW X T E a f) : JT X T E a f := ⟨PW.pt h.h⟩
theorem je_one {op} (h : JE X T E a f) : JE X T E (.BoolOp op [a] pos) f := ⟨de_one h.h⟩
theorem je_and (ha : JE X T E a f) (hb : JE X T E (.BoolOp .And (b :: rest) pos) g) : JE X T E (.BoolOp .And (a :: b :: rest) pos) (qAnd f g) := ⟨de_and ha.h hb.h⟩
theorem je_if (hc : JT X T E c q) (ha : JE X T E a f) (hb : JE X T E b g) : JE X T E (.IfExp c a b pos) (eIf q f g) := ⟨de_if hc.h ha.h hb.h⟩
theorem je_c {CX : CXT} {k : Nat} {ps : List Str} {m : List D → Option Out} {x : Str} (C : Cl X.prog X.w X.K X.mg X.base CX T x ps k m) (hr : Room k X.A) (hx : Passes CX X E) (hg : X.env.kindOf x = some .globalImplicit) (ha : JA X T E (e :: es) fs) (hdb : (x == ("__debug__" : Str)) = false := by kernel_rfl)
    (he : starEach (e :: es) X.env = (false, eval e X.env) :: starEach es X.env := by kernel_rfl) (hpl : (backTo pos (starEach es X.env)).any (·.1) = false := by kernel_rfl) : JE X T E (.Call (.Name x p) (e :: es) [] pos) (eCall m fs) := ⟨de_c C hr hx hg ha.h hdb he hpl⟩
theorem je_callB {id : String} {m : List D → Option D} {x : Str} (hc : JCall X T id m) (hg : X.env.kindOf x = some .globalImplicit) (hm : X.mg x = none) (hv : bootBuiltins x = some (.builtin id)) (ha : JA X T E (e :: es) fs) (hn : x ≠ "__name__" := by decide) (hdb : (x == ("__debug__" : Str)) = false := by kernel_rfl)
    (he : starEach (e :: es) X.env = (false, eval e X.env) :: starEach es X.env := by kernel_rfl) (hpl : (backTo pos (starEach es X.env)).any (·.1) = false := by kernel_rfl) : JE X T E (.Call (.Name x p) (e :: es) [] pos) (eB m fs) := ⟨de_callB hc.h hg hm hv ha.h hn hdb he hpl⟩
theorem je_isi {cn : String} {x : Str} (ha : JE X T E a f) (hg : X.env.kindOf "isinstance" = some .globalImplicit) (hm : X.mg "isinstance" = none) (hgc : X.env.kindOf x = some .globalImplicit) (hmc : X.mg x = none) (hvc : bootBuiltins x = some (.type cn)) (hnc : x ≠ "__name__" := by decide) (hdc : (x == ("__debug__" : Str)) = false := by kernel_rfl)
    (he : starEach [a, .Name x p2] X.env = (false, eval a X.env) :: starEach [.Name x p2] X.env := by kernel_rfl) (hpl : (backTo pos (starEach [.Name x p2] X.env)).any (·.1) = false := by kernel_rfl) : JE X T E (.Call (.Name "isinstance" p) [a, .Name x p2] [] pos) (eIsi cn f) := ⟨de_isi ha.h hg hm hgc hmc hvc hnc hdc he hpl⟩
theorem je_ix (ha : JE X T E a fa) (hb : JE X T E b fb) (hs : PlainIx b := by intro _ _; kernel_rfl) : JE X T E (.Subscript a b pos) (eOp ixD fa fb) := ⟨de_ix ha.h hb.h hs⟩
theorem jo_none : JO X T E none oNone := ⟨do_none⟩
theorem jo_some (h : JE X T E e f) : JO X T E (some e) (oSome f) := ⟨do_some h.h⟩
theorem jf_slice {lo hi : EvO} {elo ehi : Option Expr} (he : JE X T E e f) (hl : JO X T E elo lo) (hh : JO X T E ehi hi) : JF X T E (.Subscript e (.Slice elo ehi none p2) pos) (lSlice f lo hi) := ⟨df_slice he.h hl.h hh.h⟩
theorem jb_nil : JB X T E [] sNext := ⟨ds_nil⟩
theorem jb_cons (h1 : JS X T E st F) (h2 : JB X T E sts G) : JB X T E (st :: sts) (sSeq F G) := ⟨ds_cons h1.h h2.h⟩
theorem jb_one (h1 : JS X T E st F) : JB X T E [st] F := ⟨ds_one h1.h⟩
theorem jb_frz {i : Nat} (h : JB X T E sts G) : JB X T E sts (sFrz i G) := ⟨ds_frz h.h⟩
theorem js_expr (h : JE X T E e f) (hs : swapsWith e none pos.line X.env = pure false := by kernel_rfl) : JS X T E (.Expr e pos) (sExpr f) := ⟨ds_expr h.h hs⟩
theorem js_ret (h : JE X T E e f) : JS X T E (.Return (some e) pos) (sRet f) := ⟨ds_ret h.h⟩
theorem js_never : JS X T E st sNever := ⟨ds_never⟩
theorem js_if (hc : JT X T E c q) (ha : JB X T E sa F) (hb : JB X T E sb G) : JS X T E (.If c sa sb pos) (sIf q F G) := ⟨ds_if hc.h ha.h hb.h⟩
theorem jg_name {i : Nat} {x : Str} (hN : X.N.Nodup) (hi : X.N[i]? = some x) (hx : Loc X.env.scope x) (hf : X.fn x = true ∨ X.env.scope.names.lookup x = some .local := by exact .inl (by kernel_rfl)) : JG X T (.Name x pos) (gNm i) [i] := ⟨dg_name hN hi hx hf⟩
theorem jgs_nil : JGs X T [] gsNil [] := ⟨dgs_nil⟩
theorem jgs_cons {gg : Gv} {h : Gvs} {ss ts : List Nat} (h1 : JG X T e gg ss) (h2 : JGs X T es h ts) (hs : (assignEach (e :: es) X.env).map (·.2) = assign e X.env :: (assignEach es X.env).map (·.2) := by kernel_rfl) : JGs X T (e :: es) (gsCons gg h) (ss ++ ts) := ⟨dgs_cons h1.h h2.h hs⟩
theorem jg_tup {kk : Nat} {h : Gvs} {n : Nat} {ss : List Nat} (hc : X.calm = true) (hh : JGs X T es h ss) (hl : ∀ ds ρ ρ', h ds ρ = some ρ' → ds.length = n) (hn : (assignEach es X.env).length = n := by kernel_rfl) (hst : (assignEach es X.env).findIdx? (·.1) = none := by kernel_rfl) : JG X T (.Tuple es kk pos) (gTp h) ss := ⟨dg_tup hc hh.h hl hn hst⟩
theorem js_asg {gg : Gv} {ss : List Nat} (he : JE X T E e f) (hg : JG X T tg gg ss) (hs : swapsWithSole [tg] e pos.line X.env = pure false := by kernel_rfl) (hw : swappedStores [tg] e X.env = pure none := by kernel_rfl) (h1 : (assignEach [tg] X.env).map (·.2) = [assign tg X.env] := by kernel_rfl) : JS X T E (.Assign [tg] e pos) (sAsg f gg) := ⟨ds_asg he.h hg.h hs hw h1⟩
theorem js_set {i : Nat} {x : Str} (hN : X.N.Nodup) (hi : X.N[i]? = some x) (hx : Loc X.env.scope x) (he : JE X T E e f) (hs : swapsWith e (some (.Name x pos')) pos.line X.env = pure false := by kernel_rfl)
    (hf : X.fn x = true ∨ X.env.scope.names.lookup x = some .local := by exact .inl (by kernel_rfl)) : JS X T E (.Assign [.Name x pos'] e pos) (sAsg f (gNm i)) := ⟨ds_set hN hi hx he.h hs hf⟩
theorem js_par {i j : Nat} {x y : Str} {px py pt : Pos} {kt k2 pt2} (hc : X.calm = true) (hN : X.N.Nodup) (hi : X.N[i]? = some x) (hj : X.N[j]? = some y) (hij : i ≠ j) (hx : X.env.scope.names.lookup x = some .local) (hy : X.env.scope.names.lookup y = some .local)
    (ha : JE X T E a fa) (hb : JE X T E b fb) (hw : swappedStores [.Tuple [.Name x px, .Name y py] kt pt] (.Tuple [a, b] k2 pt2) X.env = pure (some [x, y]) := by kernel_rfl)
    (hs1 : starEach [a, b] X.env = (false, eval a X.env) :: starEach [b] X.env := by kernel_rfl) (hs2 : starEach [b] X.env = (false, eval b X.env) :: starEach [] X.env := by kernel_rfl)
    (hs : swapsWithSole [.Tuple [.Name x px, .Name y py] kt pt] (.Tuple [a, b] k2 pt2) pos.line X.env = pure false := by kernel_rfl) : JS X T E (.Assign [.Tuple [.Name x px, .Name y py] kt pt] (.Tuple [a, b] k2 pt2) pos) (sPar i j fa fb) := ⟨ds_par hc hN hi hj hij hx hy ha.h hb.h hw hs1 hs2 hs⟩
theorem ji_list (h : JE X T E l f) : JI X T E tg l (wSeq f) := ⟨di_list h.h⟩
theorem ji_range1 (hg : X.env.kindOf "range" = some .globalImplicit) (hm : X.mg "range" = none) (ha : JA X T E [a] fs) (hs : starEach [a] X.env = [(false, eval a X.env)] := by kernel_rfl) : JI X T E tg (.Call (.Name "range" p) [a] [] pos) (wRng1 fs) := ⟨di_range1 hg hm ha.h hs⟩
theorem ji_range2 (hg : X.env.kindOf "range" = some .globalImplicit) (hm : X.mg "range" = none) (ha : JA X T E [a, b] fs) (hs : starEach [a, b] X.env = [(false, eval a X.env), (false, eval b X.env)] := by kernel_rfl) (hs2 : starEach [b] X.env = [(false, eval b X.env)] := by kernel_rfl) : JI X T E tg (.Call (.Name "range" p) [a, b] [] pos) (wRng2 fs) := ⟨di_range2 hg hm ha.h hs hs2⟩
theorem ji_enum {elts : List Expr} {kk : Nat} (hg : X.env.kindOf "enumerate" = some .globalImplicit) (hm : X.mg "enumerate" = none) (ha : JA X T E [a] fs) (hs : starEach [a] X.env = [(false, eval a X.env)] := by kernel_rfl) : JI X T E (.Tuple elts kk tpos) (.Call (.Name "enumerate" p) [a] [] pos) (wEnum fs) := ⟨di_enum hg hm ha.h hs⟩
theorem js_for {gg : Gv} {ss : List Nat} (hp : PassesOwn (model X.prog X.w) X.A X.env X.xe) (hc : X.calm = true) (hi : JI X T E tg l fs) (hg : JG X T tg gg ss) (hb : JB X T E body F) (hs : ∀ x, foldedSetIterable l X.env x = pure x := by intro _; kernel_rfl) : JS X T E (.For tg l body [] pos) (sFor fs gg F) := ⟨ds_for hp hc hi.h hg.h hb.h hs⟩
theorem js_while {m : Rho → Nat} (hp : PassesOwn (model X.prog X.w) X.A X.env X.xe) (hc : JT X T E c q) (hb : JB X T E body F) : JS X T E (.While c body [] pos) (sWhile m q F) := ⟨ds_while hp hc.h hb.h⟩
theorem js_append {i : Nat} {x : Str} (hN : X.N[i]? = some x) (hv : Vis X.env.scope x) (ha : JE X T E e f) (hd : (x == ("__debug__" : Str)) = false := by kernel_rfl) (hcd : (x == ("__classdict__" : Str)) = false := by kernel_rfl) (hbase : attributeBase (.Name x pos') "append" X.env (eval (.Name x pos') X.env) = eval (.Name x pos') X.env := by kernel_rfl)
    (hfew : ((backTo cpos (starEach [e] X.env)).all (fun x => !x.1) && (backToKw cpos (keywordEach [] X.env)).all (fun x => x.1.isSome) && decide ([e].length + ([] : List Keyword).length + (if ([] : List Keyword).isEmpty then 0 else 1) < 30)) = true := by kernel_rfl)
    (hline : (apos.endLine == cpos.line) = true := by kernel_rfl) (hs : starEach [e] X.env = (false, eval e X.env) :: starEach [] X.env := by kernel_rfl)
    (hsw : swapsWith (.Call (.Attribute (.Name x pos') "append" apos) [e] [] cpos) none pos.line X.env = pure false := by kernel_rfl) : JS X T E (.Expr (.Call (.Attribute (.Name x pos') "append" apos) [e] [] cpos) pos) (sApp i f) := ⟨ds_append (pe_var hN hv hd hcd) ha.h hbase hfew hline hs hsw⟩
theorem jts_nil : JTs X T E [] qYes := ⟨dts_nil⟩
theorem jf_lc {scope : Scope} {own : List (Str × Nat)} {gg : Gv} {ss : List Nat} (hc : X.calm = true) (hN : X.N.Nodup) (hi : JI X T E tg iter fs) (ok : BlkOk X.N X.env.scope scope own)
    (hg : ∀ (s : Shared) (H : Hp) (C : Addr) (cl : List (Str × Addr)) (fp : List Addr), JG (X.blk s H scope (compEnvC scope cl C X.env) fp) T tg gg ss) (ht : ∀ (s : Shared) (H : Hp) (C : Addr) (cl : List (Str × Addr)) (fp : List Addr), JTs (X.blk s H scope (compEnvC scope cl C X.env) fp) T E0 ifs q)
    (he : ∀ (s : Shared) (H : Hp) (C : Addr) (cl : List (Str × Addr)) (fp : List Addr), JE (X.blk s H scope (compEnvC scope cl C X.env) fp) T E0 elt fe) (hss : ∀ j ∈ ss, j ∈ own.map (·.2)) (hs : ∀ x, foldedSetIterable iter X.env x = pure x := by intro _; kernel_rfl) :
    JF X T E (.ListComp elt [⟨tg, iter, ifs, 0⟩] scope pos) (lComp fs gg q fe (own.map (·.2))) := ⟨df_lc hc hN hi.h ok (fun s H C cl fp => (hg s H C cl fp).h) (fun s H C cl fp => (ht s H C cl fp).h) (fun s H C cl fp => (he s H C cl fp).h) hss hs⟩
theorem js_setLc {i : Nat} {y : Str} {py : Pos} {scope : Scope} {own : List (Str × Nat)} {gg : Gv} {ss : List Nat} (hc : X.calm = true) (hN : X.N.Nodup) (hy : X.N[i]? = some y) (hyl : X.env.scope.names.lookup y = some .local)
    (hsw : swapsWith (.ListComp elt [⟨tg, iter, ifs, 0⟩] scope pos) (some (.Name y py)) spos.line X.env = pure true) (hi : JI X T E tg iter fs) (ok : BlkOk X.N X.env.scope scope own)
    (hg : ∀ (s : Shared) (H : Hp) (C : Addr) (cl : List (Str × Addr)) (fp : List Addr), JG (X.blk s H scope (compEnvC scope cl C X.env) fp) T tg gg ss) (ht : ∀ (s : Shared) (H : Hp) (C : Addr) (cl : List (Str × Addr)) (fp : List Addr), JTs (X.blk s H scope (compEnvC scope cl C X.env) fp) T E0 ifs q)
    (he : ∀ (s : Shared) (H : Hp) (C : Addr) (cl : List (Str × Addr)) (fp : List Addr), JE (X.blk s H scope (compEnvC scope cl C X.env) fp) T E0 elt fe) (hss : ∀ j ∈ ss, j ∈ own.map (·.2)) (hs : ∀ x, foldedSetIterable iter X.env x = pure x := by intro _; kernel_rfl) :
    JS X T E (.Assign [.Name y py] (.ListComp elt [⟨tg, iter, ifs, 0⟩] scope pos) spos) (sOwn (lComp fs gg q fe (own.map (·.2))) i) := ⟨ds_setLc hc hN hy hyl hsw hi.h ok (fun s H C cl fp => (hg s H C cl fp).h) (fun s H C cl fp => (ht s H C cl fp).h) (fun s H C cl fp => (he s H C cl fp).h) hss hs⟩
end
end BD

namespace BD
open PySem L2
section
open PySem.Spec PyProof.Rows
variable {prog : Program} {w : World} {A : Around} {E : Value → Shared → Prop} {s : Shared}
end
section
variable {X : Cx} {T : Tab} {K : PySem.W.Frag} {es : List Expr} {pos : Pos}
end
end BD

namespace BD
open PySem L2
section
variable {X : Cx} {T : Tab} {K : PySem.W.Frag} {E : XK} {a b c e l tg : Expr} {es : List Expr} {pos p p2 : Pos} {f fa fb : Ev} {fs gs : EvL}
end
end BD

namespace BD
open PySem L2
section
variable {X : Cx} {T : Tab} {K : PySem.W.Frag} {E : XK} {a b c e l tg : Expr} {es : List Expr} {pos p p2 : Pos} {f fa fb : Ev} {fs gs : EvL}
noncomputable def eSlT (f : Ev) (lo hi : EvO) : Ev := fun ρ => obnd (f ρ) fun d => match d, lo ρ, hi ρ with
  | .tup ds, some l, some h => if decide (HT.sIx ds.length 0 l = 0 ∧ HT.sIx ds.length ds.length h = ds.length) then none else some (.val (.tup (cutD ds l h)))
  | _, _, _ => none
theorem de_slT {l h : EvO} {lo hi : Option Expr} (he : PE X e (tD T X.K E f)) (hl : PO X lo (tDO T X.K l)) (hh : PO X hi (tDO T X.K h)) : PE X (.Subscript e (.Slice lo hi none p2) pos) (tD T X.K E (eSlT f l h)) :=
  PE.imp (pe_slice sl_tup he hl hh) fun σ H Q ⟨c, ρ, F, out, r, e, th⟩ => by
    refine tD_bind r e (fun d v H1 F1 g1 r1 e1 => ?_) th.exc
    split at e1
    · rename_i ds lv hv el eh
      split at e1
      · cases e1
      · rename_i hn
        cases e1
        cases r1 with
        | @tup _ ws _ hq rr =>
          refine ⟨c, ρ, F1, lv, r.grow g1, el, fun H2 F2 g2 => ⟨c, ρ, F2, hv, (r.grow g1).grow g2, eh, fun H3 F3 g3 => ?_⟩⟩
          have rr3 := (rr.grow g2).grow g3
          refine ⟨_, _, rfl, SqT.keep (F := F2) g3.ext.keep (SqT.keep (F := F1) g2.ext.keep hq), ?_, fun p hp => ?_⟩
          · rw [rr.length]
            intro z
            exact hn (decide_eq_true z)
          · have gu := Grow.upd (o := .tup (cutV ws lv hv)) g3.wf hp
            exact th _ _ _ (((g1.trans g2).trans g3).trans gu) (.tup (SqT.of upd_same) ((rr3.cut lv hv).grow gu))
    · cases e1
theorem je_slT {lo hi : EvO} {elo ehi : Option Expr} (he : JE X T E e f) (hl : JO X T E elo lo) (hh : JO X T E ehi hi) : JE X T E (.Subscript e (.Slice elo ehi none p2) pos) (eSlT f lo hi) := ⟨de_slT he.h hl.h hh.h⟩
noncomputable def sParM (i j : Nat) (fs : EvL) (g : Ev) : Sv := fun ρ => lbndS (fs ρ) fun xs => sbnd (g ρ) fun y => some (.nx ((ρ.set i (some (.own xs))).set j (some (.sh y))))
theorem js_parM {i j : Nat} {x y : Str} {px py pt : Pos} {kt k2 pt2} (hc : X.calm = true) (hN : X.N.Nodup) (hi : X.N[i]? = some x) (hj : X.N[j]? = some y) (hij : i ≠ j) (hx : X.env.scope.names.lookup x = some .local) (hy : X.env.scope.names.lookup y = some .local)
    (ha : JF X T E a fs) (hb : JE X T E b f) (hw : swappedStores [.Tuple [.Name x px, .Name y py] kt pt] (.Tuple [a, b] k2 pt2) X.env = pure (some [x, y]) := by kernel_rfl)
    (hs1 : starEach [a, b] X.env = (false, eval a X.env) :: starEach [b] X.env := by kernel_rfl) (hs2 : starEach [b] X.env = (false, eval b X.env) :: starEach [] X.env := by kernel_rfl)
    (hs : swapsWithSole [.Tuple [.Name x px, .Name y py] kt pt] (.Tuple [a, b] k2 pt2) pos.line X.env = pure false := by kernel_rfl) : JS X T E (.Assign [.Tuple [.Name x px, .Name y py] kt pt] (.Tuple [a, b] k2 pt2) pos) (sParM i j fs f) :=
  ⟨PS.imp (ps_par hc hN hi hj hij hx hy (pa_cons ha.h (pa_cons hb.h pa_nil hs2) hs1) hw hs) fun D σ H ⟨c, ρ, F, fl, r, e, th⟩ => by
    unfold sParM lbndS at e
    split at e
    · rename_i xs q
      refine ⟨c, ρ, F, _, r, q, fun p vs H1 H' F' g hp eH rp => ?_⟩
      have r1 := rel_own r g hp eH rp i
      subst eH
      have g0 : Grow H1 (upd H1 p (.lst vs)) F' F' := Grow.upd g.wf hp
      have g1 := g.trans g0
      dsimp only at e
      refine tD_bindS (r.grow g1) e (th.later g1.later) fun d2 v2 H2 F2 g2 r2 e2 => ?_
      cases e2
      exact ⟨_, _, rfl, th _ H2 F2 (g1.trans g2).later ((r1.grow g2).set r2)⟩
    · rename_i n q
      cases e
      exact ⟨c, ρ, F, _, r, q, fun H'' z => th H'' (r.ext.trans z)⟩
    · cases e⟩
end
structure FunD (K : PySem.W.Frag) (x qual : Str) (st : Stmt) (dV : Value) (f : Addr) (fd : FuncData) : Prop where
  ex : ∃ (oc : Value) (od : Option Addr) (kV doc pm : Value) (an : Option Addr) (cdv ct : Value) (osl : Array (Option Value)),
    fd = PySem.W.fnOf x qual (defArgs st) (defBody st) (defScope st) dV kV doc pm an cdv ct ∧ K.lookup f = some ⟨oc, od, .func fd, osl⟩ ∧ PySem.W.codeIn K cdv qual = true
  kp : PySem.W.keepIn K (.ref f) = true
section
variable {P : Program} {w : World} {K : PySem.W.Frag} {mg : Str → Option Value} {base : Heap} {T : Tab}
theorem fund_mk {x qual : Str} {st : Stmt} {f : Addr} {oc dV : Value} {od an : Option Addr} {osl : Array (Option Value)} {kV doc pm cdv ct : Value} (l : K.lookup f = some ⟨oc, od, .func (PySem.W.fnOf x qual (defArgs st) (defBody st) (defScope st) dV kV doc pm an cdv ct), osl⟩)
    (c : PySem.W.codeIn K cdv qual = true) (k : PySem.W.keepIn K (.ref f) = true) : FunD K x qual st dV f (PySem.W.fnOf x qual (defArgs st) (defBody st) (defScope st) dV kV doc pm an cdv ct) := ⟨⟨oc, od, kV, doc, pm, an, cdv, ct, osl, rfl, l, c⟩, k⟩
noncomputable def ClD (P : Program) (w : World) (K : PySem.W.Frag) (mg : Str → Option Value) (base : Heap) (CX : CXT) (T : Tab) (x : Str) (ps : List Str) (k : Nat) (g : List D → Option Out) (dd : Int) : Prop :=
  ∃ f fd t, FnOk P w K mg base CX k f fd ps (spD T K g) ∧ mg x = some (.ref f) ∧ PySem.W.keepIn K (.ref f) = true ∧ Binds K fd ps [.int dd t]
theorem tCall_ofD {E : XK} {g : List D → Option Out} {dd : Int} {fs : EvL} {σ : L2.St} {H : Hp} {Q : VK} (h : tD T K E (eCall (fun ds => g (ds ++ [.int dd])) fs) σ H Q) : tCall (spD T K g) [.int dd] E (tDA T K E fs) σ H Q := by
  obtain ⟨c, ρ, F, out, r, e, th⟩ := h
  refine tDA_bind r e (fun ds vs H1 F1 g1 r1 e1 => ?_) th.exc
  exact ⟨F1, ds ++ [.int dd], out, g1.wf, r1.append (.cons (.int dd) .nil), e1, th.grow g1⟩
noncomputable def withD (dd : Int) (g : List D → Option Out) : List D → Option Out := fun ds => g (ds ++ [.int dd])
theorem je_cD {X : Cx} {E : XK} {e : Expr} {es : List Expr} {pos : Pos} {CX : CXT} {k : Nat} {ps : List Str} {g : List D → Option Out} {dd : Int} {fs : EvL} {x : Str} {p : Pos} (C : ClD X.prog X.w X.K X.mg X.base CX T x ps k g dd) (hr : Room k X.A) (hx : Passes CX X E) (hg : X.env.kindOf x = some .globalImplicit) (ha : JA X T E (e :: es) fs) (hdb : (x == ("__debug__" : Str)) = false := by kernel_rfl)
    (he : starEach (e :: es) X.env = (false, eval e X.env) :: starEach es X.env := by kernel_rfl) (hpl : (backTo pos (starEach es X.env)).any (·.1) = false := by kernel_rfl) : JE X T E (.Call (.Name x p) (e :: es) [] pos) (eCall (withD dd g) fs) := by
  obtain ⟨f, fd, t, G, hm, hk, hb⟩ := C
  exact ⟨PE.imp (pe_call G hr hg hm hk hb (dvs := [.int dd]) (.cons ⟨t, rfl⟩ .nil) hx ha.h hdb he hpl) fun σ H Q h => tCall_ofD h⟩
end
end BD

namespace BD
open PySem L2 PySem.W PyProof.Rows
noncomputable def Tr (B h : Heap) (e : Addr) (C fl : Value) : Prop :=
  ∃ oe vs tb ot ts, h.get? e = some oe ∧ oe.cls = C ∧ oe.data = .fields vs ∧ vs[1]? = some (.ref tb) ∧ vs[2]? = some .none ∧ B.get? tb = none ∧ tb ≠ e ∧ h.get? tb = some ot ∧ ot.data = .fields ts ∧ ts[3]? = some fl
noncomputable def Air (B : Heap) (l : List Env) (e : Addr) (C fl : Value) (h : Heap) : Prop := B.StaysIn h ∧ B.get? e = none ∧ h.FunFrames B l ∧ Tr B h e C fl
section
variable {M : Model} {A : Around} {E : Value → Shared → Prop} {s : Shared} {B : Heap} {env : Env} {outer : List Env} {L e : Addr}
theorem not_rec {h : Heap} {a b : Addr} {o ob : Obj} {vs : Array Value} (ha : h.get? a = some o) (hd : o.data = .fields vs) (hb : h.get? b = some ob) (nf : ∀ ws, ob.data ≠ .fields ws) : b ≠ a := fun z => by
  rw [z, ha] at hb
  cases hb
  exact nf vs hd
theorem air_entry {oe : Obj} {vs : Array Value} {hd0 : Value} {nx : Bool} {Q : Unit → Shared → Prop} (fr : A.frames = some (env :: outer)) (ff : s.heap.FunFrames B (env :: outer)) (hf : env.frame = some L)
    (ge : s.heap.get? e = some oe) (kb : B.StaysIn s.heap) (ne : B.get? e = none) (de : oe.data = .fields vs) (c1 : 1 < vs.size) (c2 : vs[2]? = some .none)
    (k : ∀ h', Air B (env :: outer) e oe.cls (rawInt L) h' → s.heap.UpToSlots h' → Q () { s with heap := h' }) :
    wpAny M A (do let fo ← frameOf env; let ps ← entryPlaceOf L nx; let b ← EntryCells.newEntry hd0 fo .none (rawInt L) .none ps; setField (.ref e) 1 b) Q E s := by
  have nfr : e ∉ (env :: outer).filterMap (·.frame) := fun z => by
    obtain ⟨_, o, q, nf⟩ := ff.mem z
    exact not_rec ge de q nf rfl
  refine wpAny_bind (wpAny_frameOf_fun fr ff hf fun g so => ?_)
  refine wpAny_bind (wpAny_entryPlaceOf fun ps isp => ?_)
  unfold EntryCells.newEntry newFields
  refine wpAny_bind (wpAny_newObj_type ?_ (isp.sizeOk5 _ _ _ _ _))
  have ge1 : g.get? e = some oe := (so.2.1 e nfr).trans ge
  have kb1 : B.StaysIn g := fun b o q => (so.2.1 b fun z => by rw [(ff.mem z).1] at q; cases q).trans (kb b o q)
  generalize hto : ({ cls := .type "traceback", dict := none, data := .fields ([hd0, .ref L, .none, rawInt L, .none] ++ (if ps.isEmpty then List.replicate 6 Value.none else ps)).toArray } : Obj) = to
  have tod : to.data = .fields ([hd0, .ref L, .none, rawInt L, .none] ++ (if ps.isEmpty then List.replicate 6 Value.none else ps)).toArray := by rw [← hto]
  have ge2 := Heap.get?_push_of_some (h := g) to ge1
  refine wpAny_setField ge2 de c1 ?_
  have nte : g.objs.size ≠ e := Nat.ne_of_gt (Heap.lt_size ge1)
  have de3 := Obj.data_mapFields de (·.setIfInBounds 1 (Value.ref g.objs.size))
  have ge3 := Heap.get?_update_self (Obj.mapFields (·.setIfInBounds 1 (Value.ref g.objs.size))) ge2 (Obj.isFreed_of_fields de3)
  have gt3 : ((g.push to).update e (Obj.mapFields (·.setIfInBounds 1 (Value.ref g.objs.size)))).get? g.objs.size = some to := by
    rw [Heap.get?_update_other _ _ (Ne.symm nte)]
    exact Heap.get?_push_size g (by rw [← hto]; rfl)
  have kp : ∀ b o, b ≠ e → g.get? b = some o → ((g.push to).update e (Obj.mapFields (·.setIfInBounds 1 (Value.ref g.objs.size)))).get? b = some o := fun b o z q => by
    rw [Heap.get?_update_other _ _ (Ne.symm z)]
    exact Heap.get?_push_of_some _ q
  refine k _ ⟨fun b o q => kp b o (fun z => by rw [z, ne] at q; cases q) (kb1 b o q), ne, ff.of_keeps fun b o q nf => ?_, ?_⟩ fun b o q nf => ?_
  · obtain ⟨sl, q1⟩ := so.2.2 b o q
    exact ⟨_, kp b _ (not_rec ge de q nf) q1, rfl⟩
  · refine ⟨_, _, g.objs.size, to, _, ge3, Obj.cls_mapFields _ _, de3, by simp [c1], ?_, kb1.fresh, nte, gt3, tod, by simp⟩
    rw [Array.getElem?_setIfInBounds_ne (by decide)]
    exact c2
  · obtain ⟨sl, q1⟩ := so.2.2 b o q
    exact ⟨sl, kp b _ (not_rec ge de q nf) q1⟩
theorem air_note {C : Value} {Q : Unit → Shared → Prop} (fr : A.frames = some (env :: outer)) (hf : env.frame = some L) (a : Air B (env :: outer) e C .none s.heap)
    (k : ∀ h', Air B (env :: outer) e C (rawInt L) h' → s.heap.UpToSlots h' → Q () { s with heap := h' }) : wpAny M A (noteFrame (.ref e) env) Q E s := by
  obtain ⟨kb, ne, ff, oe, vs, tb, ot, ts, ge, rfl, de, c1, c2, nb, nte, gt, dt, c3⟩ := a
  have oth : ∀ b, b ≠ tb → (s.heap.update tb (Obj.mapFields (·.setIfInBounds 3 Value.none))).get? b = s.heap.get? b := fun b z => Heap.get?_update_other _ _ (Ne.symm z)
  unfold noteFrame
  simp only [hf]
  refine wpAny_bind (wpAny_field ge de c1 ?_)
  rw [if_pos (by simp)]
  refine wpAny_bind (wpAny_field gt dt c3 ?_)
  rw [if_neg (by simp [rawInt])]
  refine wpAny_bind (wpAny_setField gt dt (Array.getElem?_eq_some_iff.mp c3).1 ?_)
  refine air_entry (s := { s with heap := _ }) fr (ff.of_keeps fun b o q nf => ⟨o, (oth b (not_rec gt dt q nf)).trans q, rfl⟩) hf ((oth e (Ne.symm nte)).trans ge)
    (fun b o q => (oth b fun z => by rw [z, nb] at q; cases q).trans (kb b o q)) ne de (Array.getElem?_eq_some_iff.mp c1).1 c2 fun h' a' sm => k h' a' fun b o q nf => sm b o ((oth b (not_rec gt dt q nf)).trans q) nf
theorem air_go {l : List Env} {C fl : Value} {Q : Unit → Shared → Prop} (a : Air B l e C fl s.heap) (k : ∀ h', Air B l e C .none h' → s.heap.UpToSlots h' → Q () { s with heap := h' }) : wpAny M A (setFlight (.ref e) none) Q E s := by
  obtain ⟨kb, ne, ff, oe, vs, tb, ot, ts, ge, rfl, de, c1, c2, nb, nte, gt, dt, c3⟩ := a
  have z3 : 3 < ts.size := (Array.getElem?_eq_some_iff.mp c3).1
  have oth : ∀ b, b ≠ tb → (s.heap.update tb (Obj.mapFields (·.setIfInBounds 3 ((none : Option Addr).elim Value.none fun f => rawInt f)))).get? b = s.heap.get? b := fun b z => Heap.get?_update_other _ _ (Ne.symm z)
  unfold setFlight
  refine wpAny_bind (wpAny_field ge de c1 ?_)
  rw [if_pos (by simp)]
  refine wpAny_setField gt dt z3 (k _ ⟨fun b o q => (oth b fun z => by rw [z, nb] at q; cases q).trans (kb b o q), ne, ff.of_keeps fun b o q nf => ⟨o, (oth b (not_rec gt dt q nf)).trans q, rfl⟩, ?_⟩ fun b o q nf => ⟨o.slots, (oth b (not_rec gt dt q nf)).trans q⟩)
  exact ⟨oe, vs, tb, _, _, (oth e (Ne.symm nte)).trans ge, rfl, de, c1, c2, nb, nte, Heap.get?_update_self _ gt (Obj.isFreed_of_fields (Obj.data_mapFields dt _)), Obj.data_mapFields dt _, by simp [z3]⟩
theorem Air.tail {C fl : Value} {h : Heap} (a : Air B (env :: outer) e C fl h) : Air B outer e C fl h := ⟨a.1, a.2.1, a.2.2.1.2.2, a.2.2.2⟩
theorem air_leaves {C : Value} {Q : Unit → Shared → Prop} (fr : A.frames = some (env :: outer)) (hf : env.frame = some L) (a : Air B (env :: outer) e C .none s.heap)
    (k : ∀ h', Air B outer e C .none h' → s.heap.UpToSlots h' → Q () { s with heap := h' }) : wpAny M A (leaving env (.ref e)) Q E s := by
  unfold leaving
  refine wpAny_bind (air_note fr hf a fun h1 a1 sm1 => ?_)
  exact air_go (s := { s with heap := h1 }) a1 fun h2 a2 sm2 => k h2 a2.tail (sm1.trans sm2)
end
noncomputable def Fly (P : Program) (w : World) (fs : List Addr) (l : List Env) (H : Hp) (s : Shared) (C : Value) (a : Addr) (H' : Hp) (s' : Shared) : Prop :=
  ∃ B : Heap, Air B l a C .none s'.heap ∧ s'.os = s.os ∧ AllBare s'.gens ∧ Un fs [] H H' s.heap s'.heap ∧ HOk P w H' s'.heap ∧
    ∀ b ob, s'.heap.get? b = some ob → (H' b ≠ none ∨ ((∃ o, s.heap.get? b = some o) ∧ b ∉ fs)) → B.get? b = some ob
noncomputable def CXf (P : Program) (w : World) : CXT := fun outer H s E e s' => ∃ a C H', e = .ref a ∧ Fly P w (frs outer) outer H s C a H' s' ∧ E C none H'
theorem obj_there {P : Program} {w : World} {H : Hp} {h : Heap} {a : Addr} {o : HO} (x : ObjOk P w H h a o) : ∃ u, h.get? a = some u := by
  cases o <;> first
    | exact ⟨_, x⟩
    | exact ⟨_, x.1⟩
    | exact x
    | exact x.2.1
    | exact ⟨_, x.2.2.2.1⟩
    | (have ⟨_, _, _, z⟩ := x; exact ⟨_, z⟩)
    | (have ⟨_, _, _, _, z⟩ := x; exact ⟨_, z⟩)
    | (have ⟨_, _, _, z⟩ := x; have ⟨_, y, _⟩ := z; exact ⟨_, y⟩)
    | (have ⟨_, _, _, _, _, _, _, y, _⟩ := x; exact ⟨_, y⟩)
    | (have ⟨_, _, _, _, y, _⟩ := x; exact ⟨_, y⟩)
    | (have ⟨_, ⟨_, _, _, y, _⟩, _⟩ := x; exact ⟨_, y⟩)
theorem un_fly {fs : List Addr} {H H' : Hp} {h h1 h2 B : Heap} (u : Un fs [] H H' h h1) (st : B.StaysIn h2) (inB : ∀ b ob, h1.get? b = some ob → (H' b ≠ none ∨ ((∃ o, h.get? b = some o) ∧ b ∉ fs)) → B.get? b = some ob) (sm : h1.UpToSlots h2)
    (fr : ∀ b ∈ fs, ∃ o, h1.get? b = some o ∧ ∀ vs, o.data ≠ .fields vs) : Un fs [] H H' h h2 where
  keep := fun b o e n hb hx => st _ _ (inB b o (u.keep b o e n hb hx) (.inr ⟨⟨o, e⟩, hb⟩))
  slot := fun b o e n hb hx => by
    obtain ⟨sl, q⟩ := u.slot b o e n hb hx
    obtain ⟨o', q', nf⟩ := fr b hb
    rw [q] at q'
    cases q'
    obtain ⟨sl2, q2⟩ := sm b _ q nf
    exact ⟨sl2, q2⟩
  free := u.free
  there := fun b o e hx => by
    obtain ⟨o', q⟩ := u.there b o e hx
    by_cases hb : b ∈ fs
    · obtain ⟨o2, q', nf⟩ := fr b hb
      obtain ⟨sl2, q2⟩ := sm b _ q' nf
      exact ⟨_, q2⟩
    · exact ⟨o', st _ _ (inB b o' q (.inr ⟨⟨o, e⟩, hb⟩))⟩
  tups := u.tups
  frzs := u.frzs
  tbls := u.tbls
theorem hok_fly {P : Program} {w : World} {H' : Hp} {h1 h2 B : Heap} (x : HOk P w H' h1) (st : B.StaysIn h2) (inB : ∀ b ob, h1.get? b = some ob → H' b ≠ none → B.get? b = some ob) : HOk P w H' h2 := fun a o e =>
  (x a o e).stay (fun b u hb q => st _ _ (inB b u q (by rcases hb with hb | hb; rw [hb, e]; simp; rw [hb]; simp))) (fun _ q => q) fun _ _ q => q
theorem fun_frame {h B : Heap} : ∀ {l : List Env}, h.FunFrames B l → ∀ b ∈ frs l, ∃ o, h.get? b = some o ∧ ∀ vs, o.data ≠ .fields vs
  | [], _, b, hb => by simp [frs] at hb
  | env :: l, ⟨_, ⟨L, o, hf, _, ho, hd⟩, hr⟩, b, hb => by
    simp only [frs, List.filterMap_cons, hf, List.mem_cons] at hb
    rcases hb with rfl | hb
    · exact ⟨o, ho, hd⟩
    · exact fun_frame hr b hb
theorem Fly.on {P : Program} {w : World} {fs : List Addr} {l2 : List Env} {H H' : Hp} {s s' : Shared} {C : Value} {a : Addr} {B h2 : Heap} (f : Air B l2 a C .none h2) (sm : s'.heap.UpToSlots h2) (os : s'.os = s.os) (bare : AllBare s'.gens) (u : Un fs [] H H' s.heap s'.heap) (hok : HOk P w H' s'.heap)
    (inB : ∀ b ob, s'.heap.get? b = some ob → (H' b ≠ none ∨ ((∃ o, s.heap.get? b = some o) ∧ b ∉ fs)) → B.get? b = some ob) (fr : ∀ b ∈ fs, ∃ o, s'.heap.get? b = some o ∧ ∀ vs, o.data ≠ .fields vs) : Fly P w fs l2 H s C a H' { s' with heap := h2 } := by
  refine ⟨B, f, os, bare, un_fly u f.1 inB sm fr, hok_fly hok f.1 fun b ob q hb => inB b ob q (.inl hb), fun b ob q hc => ?_⟩
  have ex : ∃ ob1, s'.heap.get? b = some ob1 := by
    rcases hc with hc | ⟨⟨o, e⟩, _⟩
    · cases z : H' b with
      | none => exact absurd z hc
      | some o => exact obj_there (hok b o z)
    · exact u.there b o e (by simp)
  obtain ⟨ob1, q1⟩ := ex
  have b1 := inB b ob1 q1 hc
  have b2 : h2.get? b = some ob1 := f.1 b ob1 b1
  have q' : h2.get? b = some ob := q
  rw [b2] at q'
  cases q'
  exact b1
section
variable {P : Program} {w : World} {K : PySem.W.Frag} {mg : Str → Option Value} {base : Heap} {N : List Str} {qual : Str} {scope : Scope} {f : Addr} {cd : Value} {A : Around} {outer : List Env} {s : Shared} {H : Hp} {E : XK}
theorem passF : Passes (CXf P w) (cxOf (CXf P w) P w K mg base N qual scope f cd A outer s H E) E := fun pins σ H1 s1 e s' I hx => by
  obtain ⟨a, C, H', rfl, ⟨B, fl, os, bare, un, hok, inB⟩, he⟩ := hx
  have J := I.call' (ch := []) os un hok bare (fun b z => nomatch z)
  have u0 := J.base
  refine air_leaves I.ok.frames (L := s.heap.objs.size) rfl fl fun h' fl' sm => ?_
  refine ⟨a, C, H', rfl, Fly.on fl' sm J.os bare u0 hok (fun b ob q hc => inB b ob q (hc.imp id fun hb => ?_)) (fun_frame fl.2.2.1.2.2), he⟩
  obtain ⟨⟨o, e⟩, nb⟩ := hb
  refine ⟨I.base.there b o e (by simp [cxOf]), fun z => ?_⟩
  rcases List.mem_cons.mp (I.stkSub b z) with z | z
  · have l : b < s.heap.objs.size := Heap.lt_size e
    have z2 : b = s.heap.objs.size := z
    rw [z2] at l
    exact absurd l (Nat.lt_irrefl _)
  · exact nb z
end
end BD

namespace BD
open PySem L2 PySem.W PyProof.Rows
section
variable {X : Cx} {T : Tab} {E : XK}
end
end BD

namespace BD
open PySem L2 PySem.W PyProof.Rows
section
variable {P : Program} {w : World} {K : PySem.W.Frag} {mg : Str → Option Value} {base : Heap} {T : Tab}
theorem fnx_okJ {x qual : Str} {st : Stmt} {dV : Value} {f : Addr} {fd : FuncData} {N ps : List Str} {k n m : Nat} {fb : Sv} (F : FunD K x qual st dV f fd) (S : FnScope N ps (defScope st)) (hn : ps.length = n) (hm : N.length = n + m)
    (hbody : ∀ (cdv : Value) (A : Around) (outer : List Env) (s : Shared) (H : Hp) (E : XK), Room k (A.deeper (PyProof.Rows.envOfC qual (defScope st) s.heap.objs.size f cdv)) → JB (cxOf (CXf P w) P w K mg base N qual (defScope st) f cdv A outer s H E) T E (defBody st) fb) :
    FnOk P w K mg base (CXf P w) (k + 1) f fd ps (spD T K (fnSem n m fb)) := by
  subst hn
  have e : m = N.length - ps.length := by omega
  subst e
  obtain ⟨oc, od, kV, doc, pm, an, cdv, ct, osl, rfl, lk, hcd⟩ := F.ex
  refine fn_of lk hcd S (fun vs H Q E ⟨F, ds, out, wf, r, e, th⟩ => by rw [r.length]; exact fnSem_len e) fun A outer s H vs Q E hr hsp => ?_
  exact ⟨_, (hbody cdv A outer s H E hr).h, sp_body (by omega) hsp⟩
theorem passL {N : List Str} {qual : Str} {scope : Scope} {f : Addr} {cd : Value} {A : Around} {outer : List Env} {s : Shared} {H : Hp} {E : XK} : PassesOwn (model P w) (cxOf (CXf P w) P w K mg base N qual scope f cd A outer s H E).A (cxOf (CXf P w) P w K mg base N qual scope f cd A outer s H E).env (cxOf (CXf P w) P w K mg base N qual scope f cd A outer s H E).xe :=
  PassesOwn.leaving (Q₁ := fun e s'' => CXf P w outer H s E e s'') (E₁ := fun e' s'' => CXf P w outer H s E e' s'')
theorem noX {outer : List Env} {H : Hp} {s : Shared} {e : Value} {s' : Shared} (h : CXf P w outer H s (fun _ _ _ => False) e s') : False := by
  obtain ⟨_, _, _, _, _, z⟩ := h
  exact z
end
end BD

namespace BD
open PySem L2 PySem.W PyProof.Rows
section
variable {prog : Program} {w : World} {A : Around} {E : Value → Shared → Prop} {s : Shared}
end
end BD

namespace BD
open PySem PySem.Spec L2 PySem.W PyProof.Rows
section
variable {X : Cx} {pins : List (Addr × Obj)} {σ : L2.St} {H : Hp} {s : Shared}
end
section
variable {X : Cx} {tg : Expr}
end
section
variable {X : Cx}
end
section
variable {T : Tab} {K : PySem.W.Frag} {X : Cx} {E : XK} {a b c e l tg : Expr} {es rest : List Expr} {pos : Pos}
end
section
variable {X : Cx} {T : Tab} {E : XK} {a tg elt iter : Expr} {ifs : List Expr} {pos p : Pos} {fs : EvL} {q fe : Ev}
end
end BD

namespace BD
open PySem PySem.Spec L2 PySem.W PyProof.Rows
section
variable {P : Program} {w : World} {K : PySem.W.Frag} {mg : Str → Option Value} {base : Heap} {T : Tab}
end
section
variable {X : Cx} {k : Nat} {f : Addr} {fd : FuncData} {ps : List Str} {sp : Sp} {E : XK} {x : Str} {p pos : Pos} {e : Expr} {es : List Expr} {t : TA}
end
end BD

namespace BD
open PySem PySem.Spec L2 PySem.W PyProof.Rows
section
variable {X : Cx} {pins : List (Addr × Obj)} {σ σ' : L2.St} {H : Hp} {s : Shared} {h' : Heap} {m' : Str → Option Value} {tk : Nat}
end
section
variable {X : Cx} {pins : List (Addr × Obj)} {σ : L2.St} {H : Hp} {s : Shared} {a : Addr}
end
end BD

namespace BD
open PySem PySem.Spec L2 PySem.W PyProof.Rows
section
variable {X : Cx} {pins : List (Addr × Obj)} {σ : L2.St} {H : Hp} {s s' : Shared} {er cB : Value} {ts : Addr → TS} {i : Nat} {D : Ends} {n x : Str} {np hp : Pos} {b0 : Stmt} {su : List Stmt}
end
end BD

namespace BD
open PySem PySem.Spec L2 PySem.W PyProof.Rows
section
variable {prog : Program} {w : World} {A : Around} {E : Value → Shared → Prop} {h : Heap} {g : Array GenState} {d : Drawn} {t : Nat} {os : OsState} {a : Addr} {o : Obj} {K : Frag} {C : Addr}
end
end BD

namespace BD
open PySem PySem.Spec L2 PySem.W PyProof.Rows
noncomputable def exT (clsV : Nat → Value) : Addr → Nat → HO → Prop := fun a n o => ∃ oe vs, o = .frz oe (.own a) ∧ oe.cls = clsV n ∧ oe.data = .fields vs ∧ vs[2]? = some .none
structure IsTab (T : Tab) : Prop where ex : T.ex = exT T.clsV
section
variable {X : Cx} {T : Tab} {E : XK} {a : Expr} {f : Ev} {pos p p2 : Pos}
end
abbrev FnL := List (Nat × (List D → Option Out))
section
variable {P : Program} {w : World} {K : PySem.W.Frag} {mg : Str → Option Value} {base : Heap} {CX : CXT} {T : Tab} {k : Nat} {gl : FnL}
end
section
variable {X : Cx} {T : Tab} {E : XK} {k : Nat} {e : Expr} {es : List Expr} {fs : EvL} {x : Str} {p pos : Pos}
end
end BD

namespace BD
open PySem PySem.Spec L2 PySem.W PyProof.Rows
section
variable {X : Cx} {T : Tab} {E : XK} {k i : Nat} {c ke : Expr} {rest : List Stmt} {x n y : Str} {cB : Value} {np hp ep pos p1 cp yp rp ip up qp : Pos} {fc fk : Ev} {fr : Sv} {al : List D → Option Out} {okn : Nat → Bool} {ps : List Str} {jj : Nat}
end
end BD

namespace BD
open PySem PySem.Spec L2 PySem.W PyProof.Rows
noncomputable def tbL (l : List (Nat × Bool)) (n : Nat) : Option Bool := l.lookup n
noncomputable def TabL (fl : List (Nat × Addr)) (cl : List (Nat × Value)) (ol : List (Nat × Addr × List Str) := []) : Tab := ⟨fun m => fl.lookup m, exT fun n => (cl.lookup n).getD .none, fun n => (cl.lookup n).getD .none, fun m => ol.lookup m⟩
theorem tabL_is {fl : List (Nat × Addr)} {cl : List (Nat × Value)} {ol : List (Nat × Addr × List Str)} : IsTab (TabL fl cl ol) := ⟨rfl⟩
section
variable {K : Frag} {mg : Str → Option Value} {T : Tab}
theorem kit_yes {C : Addr} : kitOne K (.ref C) (.ref C) = some true := by
  unfold kitOne
  rw [if_pos (by simp)]
end
section
variable {X : Cx} {T : Tab} {E : XK} {a : Expr} {f : Ev} {pos p p2 : Pos}
end
section
variable {X : Cx} {T : Tab} {E : XK}
end
section
variable {P : Program} {w : World}
theorem passN {X : Cx} : Passes (CXf P w) X E0 := fun _ _ _ _ _ _ _ h => (noX h).elim
end
open Att in
theorem walk_Dx {l : PySem.W.OpenLaw} {n k : Nat} {q : Program} {loose : List Str} {XP : (Str → Option Value) → Heap → Prop} {YP : World → Heap → Prop} {d : DefRec} {K : Params → PySem.W.Frag} {x : Str} {g : List D → Option Out}
    (hn : l.most = some n) (hn2 : n ≤ sizeLine) (hdf : d.params.defaults = []) (hr : Room k callerA) (hY : ∀ (w : World) (h : Heap), YP w h → (K w.params).In h) (hL : LawT n g)
    (F : ∀ (w : World) (mg : Str → Option Value) (fa : Addr) (h : Heap), (K w.params).In h → h.Ns mainGlobals mg → mg d.name = some (.ref fa) →
      ∃ (fd : FuncData) (T : Tab), (∀ (s : Shared) (u : Value), BindsTo s fd ⟨[u], []⟩ [(x, u)]) ∧ ∀ base : Heap, (K w.params).In base → base.Ns mainGlobals mg → FnOk l.prog w (K w.params) mg base (CXf l.prog w) k fa fd [x] (spD T (K w.params) g)) :
    PySem.W.WalkO q loose XP YP l.row.toRowW d [] (fun f vs => PySem.call f vs) := by
  intro w s₀ s₁ mg mb G Y fa o pm cd doc dV kV ho hd hcd hD hmg hg args vals as hpre hlay hrd hwl hlo
  obtain rfl : dV = .none := Dflts.none hD hdf
  obtain rfl : kV = .none := Dflts.noKw hD
  obtain ⟨a, vs, ns, rfl, rfl, hobj, hints, hlen⟩ := script_of hn hpre hwl
  have KX := hY w _ Y
  obtain ⟨fd, T, hb, hF⟩ := F w mg fa _ KX G.T.g hmg
  have hc := law_call KX G.T.g G.T.b G.T.builtins G.T.nolimit hg hobj hints (Nat.le_trans hlen hn2) hr hF hb (fun H hO hS => sp_script hS (hL ns hlen (bits_of hlay))) fun H e s' => noX
  refine enter_call (codeAny_mono hc fun r s' hq => ?_)
  obtain ⟨rfl, h2, h3, h4⟩ := hq
  exact ⟨.inl ⟨.bool true, .bool true, [], rfl, fun _ => rfl, .bool true, post_true l _, fun _ => ⟨List.Pairwise.nil, fun _ hm => (nomatch hm)⟩⟩, h2, h3, h4⟩
end BD

namespace BD
open PySem L2
section
variable {X : Cx} {T : Tab} {E : XK} {a b : Expr} {pos : Pos} {f : Ev} {fs : EvL}
end
end BD

namespace BD
open PySem PySem.Spec L2 PySem.W PyProof.Rows
noncomputable def isD : D → D → Option D
  | .non, .non => some (.bl true)
  | .bl a, .bl b => some (.bl (a == b))
  | .bl _, .non => some (.bl false)
  | .int _, .non => some (.bl false)
  | .str _, .non => some (.bl false)
  | .tup _, .non => some (.bl false)
  | .lst _, .non => some (.bl false)
  | .obj _ _, .non => some (.bl false)
  | _, _ => none
noncomputable def isntD (x y : D) : Option D := (isD x y).map fun d => match d with
  | .bl b => .bl (!b)
  | d => d
section
variable {X : Cx} {T : Tab}
theorem is_val {F : Addr → Prop} {H : Hp} {x y : V} {u v : Value} {d e r : D} (hx : Rep T X.K F H x d) (hy : Rep T X.K F H y e) (rx : RelV x u) (ry : RelV y v) (h : isD d e = some r) : ∃ b, r = .bl b ∧ (u == v) = b ∧ (v = .none ∨ ∃ p q, u = .bool p ∧ v = .bool q) := by
  cases hy with
  | non =>
    cases (show v = Value.none from ry)
    cases hx with
    | non => cases (show u = Value.none from rx); cases h; exact ⟨_, rfl, rfl, .inl rfl⟩
    | bl b => cases (show u = Value.bool b from rx); cases h; exact ⟨_, rfl, rfl, .inl rfl⟩
    | int i => obtain ⟨t, q⟩ := (show ∃ t, u = Value.int i t from rx); cases q; cases h; exact ⟨_, rfl, rfl, .inl rfl⟩
    | str y => obtain ⟨t, q⟩ := (show ∃ t, u = Value.str y t from rx); cases q; cases h; exact ⟨_, rfl, rfl, .inl rfl⟩
    | @tup a _ _ _ _ => cases (show u = Value.ref a from rx); cases h; exact ⟨_, rfl, rfl, .inl rfl⟩
    | @lst a _ _ _ _ => cases (show u = Value.ref a from rx); cases h; exact ⟨_, rfl, rfl, .inl rfl⟩
    | @obj a _ _ _ _ _ _ _ _ => cases (show u = Value.ref a from rx); cases h; exact ⟨_, rfl, rfl, .inl rfl⟩
    | dct _ => cases h
    | fn _ => cases h
    | exn _ _ _ => cases h
  | bl b =>
    cases (show v = Value.bool b from ry)
    cases hx with
    | bl a => cases (show u = Value.bool a from rx); cases h; exact ⟨_, rfl, by cases a <;> cases b <;> rfl, .inr ⟨a, b, rfl, rfl⟩⟩
    | non => cases h
    | int i => cases h
    | str y => cases h
    | tup _ _ => cases h
    | lst _ _ => cases h
    | obj _ _ _ => cases h
    | dct _ => cases h
    | fn _ => cases h
    | exn _ _ _ => cases h
  | _ => cases d <;> cases h
theorem od_is : OpR X (compareOp .Is) (rD T X.K isD) := fun pins s σ H x y v u Q I rx ry ⟨F, dx, dy, d, wf, r1, r2, e, k⟩ => by
  obtain ⟨b, rfl, eb, hc⟩ := is_val r1 r2 rx ry e
  have fin : EP X pins σ Q (.bool b) s := ⟨.bl b, H, I, rfl, k _ H F (.refl wf) (.bl b)⟩
  rcases hc with rfl | ⟨p, q, rfl, rfl⟩
  · exact is_none_gen (by rw [eb]; exact fin)
  · exact wpAny_is_plain (by cases p <;> cases q <;> rfl) (by rw [eb]; exact fin)
theorem jp_is : JCmp X T .Is isD := ⟨od_is⟩
end
structure ObC (K : Frag) (mg : Str → Option Value) (T : Tab) (x : Str) (n : Nat) (names : List Str) (C : Addr) : Prop where
  mg : mg x = some (.ref C)
  oc : T.oc n = some (C, names)
  cl : Cls K C
  no : ∀ f ∈ names, NoAttr K C f
  nd : names.Nodup
noncomputable def spI (K : Frag) (names : List Str) : Sp := fun vs H Q _ => ∃ x C dx args, vs = .ref x :: args ∧ args.length = names.length ∧ H x = some (.ins C dx []) ∧ Cls K C ∧ (∀ f ∈ names, NoAttr K C f) ∧ Q .non (upd H x (.ins C dx (names.zip args)))
noncomputable def eMake (n k : Nat) (fs : EvL) : Ev := fun ρ => lbnd (fs ρ) fun ds => if ds.length = k then some (.val (.obj n ds)) else none
theorem zip_fst {α β : Type} : ∀ {xs : List α} {ys : List β}, ys.length = xs.length → (xs.zip ys).map (·.1) = xs
  | [], _, _ => by simp
  | x :: xs, [], h => by simp at h
  | x :: xs, y :: ys, h => by simp at h; simp [zip_fst h]
theorem zip_snd {α β : Type} : ∀ {xs : List α} {ys : List β}, ys.length = xs.length → (xs.zip ys).map (·.2) = ys
  | [], [], _ => by simp
  | [], y :: ys, h => by simp at h
  | x :: xs, [], h => by simp
  | x :: xs, y :: ys, h => by simp at h; simp [zip_snd h]
theorem made_grow {H : Hp} {F : Addr → Prop} {x dx : Addr} {o : HO} (wf : ∀ a, F a → H a ≠ none) (nx : H x = none) (nd : H dx = none) (ne : dx ≠ x) : Grow H (upd (upd H dx (.own x)) x o) F F := by
  have g1 : Grow H (upd H dx (.own x)) F F := Grow.upd wf nd
  exact g1.trans (Grow.upd g1.wf (by rw [upd_ne (Ne.symm ne)]; exact nx))
section
variable {X : Cx} {T : Tab} {E : XK} {CX : CXT} {k n : Nat} {f C : Addr} {fd : FuncData} {ps names : List Str} {x m : Str} {p pos apos : Pos} {e o : Expr} {es : List Expr} {fs : EvL} {fo : Ev}
theorem je_make (O : ObC X.K X.mg T x n names C) (M : Mk X.K C f) (F : FnOk X.prog X.w X.K X.mg X.base CX k f fd ps (spI X.K names)) (hr : Room (k + 1) X.A) (hg : X.env.kindOf x = some .globalImplicit) (hb : Binds X.K fd ps []) (hx : Passes CX X E)
    (ha : JA X T E (e :: es) fs) (hdb : (x == ("__debug__" : Str)) = false := by kernel_rfl) (he : starEach (e :: es) X.env = (false, eval e X.env) :: starEach es X.env := by kernel_rfl) (hpl : (backTo pos (starEach es X.env)).any (·.1) = false := by kernel_rfl) :
    JE X T E (.Call (.Name x p) (e :: es) [] pos) (eMake n names.length fs) :=
  ⟨PE.imp (pe_make M F hr hg O.mg hb .nil hx ha.h hdb he hpl) fun σ H Q ⟨c, ρ, Fz, out, r, ev, th⟩ => by
    refine tDA_bind r ev (fun ds vs H1 F1 g1 r1 e1 => ?_) th.exc
    split at e1
    · rename_i hl
      cases e1
      intro x dx nx nd ne
      have lv : vs.length = names.length := by rw [r1.length]; exact hl
      refine ⟨x, C, dx, vs, by rw [List.append_nil], lv, upd_same, O.cl, O.no, rfl, ?_⟩
      rw [upd_upd]
      have g2 := made_grow (o := .ins C dx (names.zip vs)) g1.wf nx nd ne
      refine th _ _ F1 (g1.trans g2) (.obj upd_same ?_ ?_)
      · rw [zip_fst lv]; exact O.oc
      · rw [zip_snd lv]; exact r1.grow g2
    · cases e1⟩
theorem run_made {pins : List (Addr × Obj)} {σ : L2.St} {H : Hp} {s : Shared} {Q : VK} (hm : makesIn X.K C = true) (hi : findIn X.K (.ref C) "__init__" = some (some (.builtin "object.__init__"))) (I : Inv X pins σ H s)
    (h : ∀ x dx, H x = none → H dx = none → dx ≠ x → Q (.ref x) (upd (upd H dx (.own x)) x (.ins C dx []))) : wpAny (model X.prog X.w) X.A (call (.ref C) []) (EP X pins σ Q) X.xe s := by
  have hq := h (s.heap.objs.size + 1) s.heap.objs.size (I.hok.fresh (Nat.le_succ _)) (I.hok.fresh (Nat.le_refl _)) (Nat.ne_of_lt (Nat.lt_succ_self _))
  have I2 := Inv.made (C := C) I
  have Y := makes_of (M := model X.prog X.w) I.kIn hm
  have gx : ((s.heap.push emptyDict).push (instObj C s.heap.objs.size)).get? (s.heap.objs.size + 1) = some (instObj C s.heap.objs.size) := by
    have z := Heap.get?_push_size (s.heap.push emptyDict) (o := instObj C s.heap.objs.size) rfl
    rw [Heap.size_push] at z
    exact z
  have ty : Looks (model X.prog X.w) ((s.heap.push emptyDict).push (instObj C s.heap.objs.size)) (typeOf (.ref (s.heap.objs.size + 1))) (.ref C) := (Looks.ld gx).andThen .now
  have isi : Looks (model X.prog X.w) ((s.heap.push emptyDict).push (instObj C s.heap.objs.size)) (isInstance (.ref (s.heap.objs.size + 1)) (.type "object")) true := ty.andThen (Y.top.keeps fun b o e => Heap.get?_push_of_some _ (Heap.get?_push_of_some _ e))
  refine wpAny_call (make_map0 I.kIn hm hi (fun self => Looks.of_pure (oi_bind self)) ?_)
  refine codeAny_call_builtin oi_plain entry_oi (@check_slot (model X.prog X.w) _ _ _ "object.__init__" "object" "__init__" (.ref (s.heap.objs.size + 1)) [] [] _ oi_kind oi_split isi (oi_args (.ref (s.heap.objs.size + 1))) ?_)
  rw [oi_run]
  exact wpAny_pure (And.intro rfl ⟨V.ref (s.heap.objs.size + 1), _, I2, rfl, hq⟩)
theorem je_make0 (O : ObC X.K X.mg T x n [] C) (hm : makesIn X.K C = true) (hi : findIn X.K (.ref C) "__init__" = some (some (.builtin "object.__init__"))) (hk : keepIn X.K (.ref C) = true) (hg : X.env.kindOf x = some .globalImplicit) (hdb : (x == ("__debug__" : Str)) = false := by kernel_rfl) :
    JE X T E (.Call (.Name x p) [] [] pos) (eC (.obj n [])) := ⟨fun pins s σ H Q I ⟨c, ρ, F, out, r, ev, th⟩ => by
  cases ev
  refine wpAny_Call_Name_kw (ld_glob I hg O.mg ?_ hdb)
  refine callWith_K0 I.kIn hk (run_made hm hi I fun x dx nx nd ne => ?_)
  exact th _ _ F (made_grow r.wf nx nd ne) (.obj upd_same O.oc .nil)⟩
theorem look_at : ∀ {fs : List (Str × V)} {names : List Str} {i : Nat} {g : Str} {v : V}, fs.map (·.1) = names → names.Nodup → names[i]? = some g → (fs.map (·.2))[i]? = some v → fs.lookup g = some v
  | [], _, i, _, _, rfl, _, h, _ => by simp at h
  | (a, b) :: fs, _, 0, g, v, rfl, _, h1, h2 => by
    simp at h1 h2
    subst h1 h2
    simp
  | (a, b) :: fs, _, i + 1, g, v, rfl, nd, h1, h2 => by
    have h1' : (fs.map (·.1))[i]? = some g := by simpa using h1
    have nd' := List.nodup_cons.mp nd
    have ne : (g == a) = false := beq_eq_false_iff_ne.mpr fun z => nd'.1 (by rw [← z]; exact List.mem_of_getElem? h1')
    rw [List.lookup_cons, ne]
    exact look_at rfl nd'.2 h1' (by simpa using h2)
theorem look_no : ∀ {fs : List (Str × V)} {names : List Str} {g : Str}, fs.map (·.1) = names → g ∉ names → fs.lookup g = none
  | [], _, _, rfl, _ => rfl
  | (a, b) :: fs, _, g, rfl, h => by
    have ne : (g == a) = false := beq_eq_false_iff_ne.mpr fun z => h (by simp [z])
    rw [List.lookup_cons, ne]
    exact look_no rfl fun z => h (by simp at z ⊢; exact .inr z)
noncomputable def eFld (n i : Nat) (fo : Ev) : Ev := fun ρ => obnd (fo ρ) fun d => match d with
  | .obj m ds => if m = n then ov ds[i]? else none
  | _ => none
theorem je_fld {i : Nat} {g : Str} (O : ObC X.K X.mg T x n names C) (ho : JE X T E o fo) (hi : names[i]? = some g) (hb : attributeBase o g X.env (eval o X.env) = eval o X.env := by kernel_rfl) : JE X T E (.Attribute o g pos) (eFld n i fo) :=
  ⟨PE.imp (pe_fld ho.h hb) fun σ H Q ⟨c, ρ, F, out, r, ev, th⟩ => by
    refine tD_bind r ev (fun d v H1 F1 g1 r1 e1 => ?_) th.exc
    split at e1
    · rename_i m ds
      split at e1
      · rename_i hm
        subst hm
        cases q : ds[i]? with
        | none => rw [q] at e1; cases e1
        | some y =>
          rw [q] at e1
          cases e1
          cases r1 with
          | @obj a C' dx _ fs _ h t rr =>
            rw [O.oc] at t
            have t2 := Option.some.inj t
            have tc : C = C' := congrArg Prod.fst t2
            have tn : names = fs.map (·.1) := congrArg Prod.snd t2
            subst tc
            obtain ⟨w', w1, w2⟩ := rr.get q
            exact ⟨a, C, dx, fs, w', rfl, h, O.cl, O.no g (List.mem_of_getElem? hi), look_at tn.symm O.nd hi w1, th _ H1 F1 g1 w2⟩
      · cases e1
    · cases e1⟩
structure ClM (P : Program) (w : World) (K : Frag) (mg : Str → Option Value) (base : Heap) (CX : CXT) (T : Tab) (C : Addr) (m : Str) (ps : List Str) (k : Nat) (g : List D → Option Out) : Prop where
  ex : ∃ f fd, FnOk P w K mg base CX k f fd ps (spD T K g) ∧ Meth K C m f ∧ Binds K fd ps []
end
end BD

namespace BD
open PySem PySem.Spec L2 PySem.W PyProof.Rows
noncomputable def oA (T : Tab) (n : Nat) : Addr := ((T.oc n).map (·.1)).getD 0
noncomputable def ClI (P : Program) (w : World) (K : Frag) (mg : Str → Option Value) (base : Heap) (CX : CXT) (C : Addr) (ps : List Str) (k : Nat) (names : List Str) : Prop :=
  ∃ f fd, FnOk P w K mg base CX k f fd ps (spI K names) ∧ Mk K C f ∧ Binds K fd ps []
theorem no_nil {K : Frag} {C : Addr} : ∀ f ∈ ([] : List Str), NoAttr K C f := fun _ h => nomatch h
theorem no_cons {K : Frag} {C : Addr} {g : Str} {l : List Str} (h : NoAttr K C g) (r : ∀ f ∈ l, NoAttr K C f) : ∀ f ∈ g :: l, NoAttr K C f := fun f hf => by
  rcases List.mem_cons.mp hf with rfl | hf
  · exact h
  · exact r f hf
structure Mk0 (K : Frag) (C : Addr) : Prop where
  mak : makesIn K C = true
  ini : findIn K (.ref C) "__init__" = some (some (.builtin "object.__init__"))
  kp : keepIn K (.ref C) = true
section
variable {P : Program} {w : World} {K : Frag} {mg : Str → Option Value} {base : Heap} {CX : CXT}
theorem init1_ok {x qual : Str} {st : Stmt} {dV : Value} {f : Addr} {fd : FuncData} {p1 f1 : Str} {k : Nat} (F : FunD K x qual st dV f fd) (S : FnScope ["self", p1] ["self", p1] (defScope st))
    (hb : ∀ (cdv : Value) (A : Around) (outer : List Env) (s : Shared) (H : Hp) (E : XK), PSs (cxOf CX P w K mg base ["self", p1] qual (defScope st) f cdv A outer s H E) (defBody st) (tSeq (sFld K (tVar 0) (tVar 1) f1) tNext)) : FnOk P w K mg base CX (k + 1) f fd ["self", p1] (spI K [f1]) := by
  obtain ⟨oc, od, kV, doc, pm, an, cdv, ct, osl, rfl, lk, hcd⟩ := F.ex
  refine fn_of lk hcd S (fun vs H Q E ⟨x, C, dx, args, e, hl, _⟩ => by rw [e]; simpa using hl) fun A outer s H vs Q E hr ⟨x, C, dx, args, e, hl, hx, c, no, q⟩ => ⟨_, hb cdv A outer s H E, ?_⟩
  subst e
  match args, hl with
  | [a], _ => exact ⟨a, rfl, .ref x, rfl, x, C, dx, [], rfl, hx, c, no f1 (by simp), by simp, q⟩
end
section
variable {X : Cx} {T : Tab} {E : XK} {CX : CXT} {k n : Nat} {ps names : List Str} {x : Str} {p pos : Pos} {e : Expr} {es : List Expr} {fs : EvL}
theorem je_mk (O : ObC X.K X.mg T x n names (oA T n)) (I : ClI X.prog X.w X.K X.mg X.base CX (oA T n) ps k names) (hr : Room (k + 1) X.A) (hg : X.env.kindOf x = some .globalImplicit) (hx : Passes CX X E)
    (ha : JA X T E (e :: es) fs) (hdb : (x == ("__debug__" : Str)) = false := by kernel_rfl) (he : starEach (e :: es) X.env = (false, eval e X.env) :: starEach es X.env := by kernel_rfl) (hpl : (backTo pos (starEach es X.env)).any (·.1) = false := by kernel_rfl) :
    JE X T E (.Call (.Name x p) (e :: es) [] pos) (eMake n names.length fs) := by
  obtain ⟨f, fd, F, M, hb⟩ := I
  exact je_make O M F hr hg hb hx ha hdb he hpl
theorem je_mk0 (O : ObC X.K X.mg T x n [] (oA T n)) (M : Mk0 X.K (oA T n)) (hg : X.env.kindOf x = some .globalImplicit) (hdb : (x == ("__debug__" : Str)) = false := by kernel_rfl) : JE X T E (.Call (.Name x p) [] [] pos) (eC (.obj n [])) := je_make0 O M.mak M.ini M.kp hg hdb
end
end BD

namespace BD
open PySem PySem.Spec L2 PySem.W PyProof.Rows
section
variable {X : Cx} {T : Tab}
theorem bool_isnot {M : Model} {A : Around} {E : Value → Shared → Prop} {s : Shared} {Q : Value → Shared → Prop} {p q : Bool} (h : Q (.bool (!(Value.bool p == Value.bool q))) s) : wpAny M A (compareOp .IsNot (.bool p) (.bool q)) Q E s := by
  cases p <;> cases q <;> exact wpAny_pure h
theorem od_isnt : OpR X (compareOp .IsNot) (rD T X.K isntD) := fun pins s σ H x y v u Q I rx ry ⟨F, dx, dy, d, wf, r1, r2, e, k⟩ => by
  unfold isntD at e
  cases q : isD dx dy with
  | none => rw [q] at e; cases e
  | some z =>
    rw [q] at e
    obtain ⟨b, rfl, eb, hc⟩ := is_val r1 r2 rx ry q
    cases e
    have fin : EP X pins σ Q (.bool (!b)) s := ⟨.bl (!b), H, I, rfl, k _ H F (.refl wf) (.bl _)⟩
    rcases hc with rfl | ⟨p, q, rfl, rfl⟩
    · exact isnot_none_gen (by rw [eb]; exact fin)
    · exact bool_isnot (by rw [eb]; exact fin)
theorem jp_isnt : JCmp X T .IsNot isntD := ⟨od_isnt⟩
noncomputable def anyB : List D → Option D
  | [.lst ds] => (blsO ds).map fun ns => .bl (ns.any id)
  | _ => none
theorem cb_any (hc : X.calm = true) : CallR X (.builtin "any") (rB T X.K anyB) := CallR.imp (cr_any hc) fun vs H Q ⟨F, ds, d, wf, r, e, k⟩ => by
  unfold anyB at e
  split at e
  · rename_i ds
    cases q : blsO ds with
    | none => rw [q] at e; cases e
    | some ns =>
      rw [q] at e; cases e
      cases r with
      | cons r1 t =>
        cases t
        cases r1 with
        | lst h rr => exact ⟨_, ns, rfl, by rw [← blsO_ok rr q]; exact h.sq, k _ H F (.refl wf) (.bl _)⟩
  · cases e
theorem jc_any (hc : X.calm = true) : JCall X T "any" anyB := ⟨cb_any hc⟩
end
structure OCl (K : Frag) (C : Addr) : Prop where
  cl : Cls K C
  ha : findIn K (.ref C) "__class__" = some (some (.builtin "object.__class__"))
  hn : specialIn K (.builtin "object.__class__") "__get__" = some (some (.builtin "getset_descriptor.__get__"))
  tk : takesIn K (.builtin "object.__class__") = some true
  mo : mroIn K C (.type "object") = some true
noncomputable def IsO (K : Frag) (mg : Str → Option Value) (T : Tab) (x : Str) (tb : Nat → Option Bool) : Prop := ∃ C, mg x = some (.ref C) ∧ ∀ n b, tb n = some b → OCl K (oA T n) ∧ (∃ nm, T.oc n = some (oA T n, nm)) ∧ kitOne K (.ref (oA T n)) (.ref C) = some b
noncomputable def eIso (tb : Nat → Option Bool) (f : Ev) : Ev := fun ρ => obnd (f ρ) fun x => match x with
  | .obj n _ => (match tb n with
    | some b => some (.val (.bl b))
    | none => none)
  | _ => none
theorem hd_cls {K : Frag} {C : Addr} (h : hasDictIn K C = true) : (clsIn K C).isSome = true := by
  obtain ⟨cd, hc, _⟩ := any_some h
  rw [hc]; rfl
theorem kit_ob {K : Frag} {R C : Addr} {b : Bool} (hd : hasDictIn K C = true) (ty : typeIn K (.ref C) = some (.type "type")) (s : subIn K (.ref R) (.ref C) = some b) (ne : (R == C) = false) : kitOne K (.ref R) (.ref C) = some b := by
  unfold kitOne
  rw [if_neg (fun z => by
    have z2 : R = C := Value.ref.inj (beq_iff_eq.mp z)
    rw [z2] at ne
    simp at ne)]
  unfold kitCls
  simp only [hd_cls hd, ty]
  exact s
theorem iso_nil {K : Frag} {T : Tab} {C : Addr} : ∀ n b, tbL [] n = some b → OCl K (oA T n) ∧ (∃ nm, T.oc n = some (oA T n, nm)) ∧ kitOne K (.ref (oA T n)) (.ref C) = some b := fun _ _ h => nomatch h
theorem iso_cons {K : Frag} {T : Tab} {C : Addr} {m : Nat} {b0 : Bool} {l : List (Nat × Bool)} (h1 : OCl K (oA T m)) (h2 : ∃ nm, T.oc m = some (oA T m, nm)) (h3 : kitOne K (.ref (oA T m)) (.ref C) = some b0) (r : ∀ n b, tbL l n = some b → OCl K (oA T n) ∧ (∃ nm, T.oc n = some (oA T n, nm)) ∧ kitOne K (.ref (oA T n)) (.ref C) = some b) :
    ∀ n b, tbL ((m, b0) :: l) n = some b → OCl K (oA T n) ∧ (∃ nm, T.oc n = some (oA T n, nm)) ∧ kitOne K (.ref (oA T n)) (.ref C) = some b := by
  intro n b e
  unfold tbL at e
  rw [List.lookup_cons] at e
  split at e
  · rename_i q
    cases e
    have q := beq_iff_eq.mp q
    subst q
    exact ⟨h1, h2, h3⟩
  · exact r n b e
section
variable {X : Cx} {T : Tab} {E : XK} {a o e : Expr} {es : List Expr} {f fo : Ev} {fs : EvL} {pos p p2 apos : Pos}
theorem je_iso {x : Str} {tb : Nat → Option Bool} (h : IsO X.K X.mg T x tb) (ha : JE X T E a f) (hg : X.env.kindOf "isinstance" = some .globalImplicit) (hm : X.mg "isinstance" = none) (hgc : X.env.kindOf x = some .globalImplicit) (hdc : (x == ("__debug__" : Str)) = false := by kernel_rfl)
    (he : starEach [a, .Name x p2] X.env = (false, eval a X.env) :: starEach [.Name x p2] X.env := by kernel_rfl) (hpl : (backTo pos (starEach [.Name x p2] X.env)).any (·.1) = false := by kernel_rfl) : JE X T E (.Call (.Name "isinstance" p) [a, .Name x p2] [] pos) (eIso tb f) := by
  obtain ⟨C, hC, hk⟩ := h
  have hcr : CallR X (.builtin "isinstance") (fun vs H Q => ∃ F n ds b y, vs = [y, .ref C] ∧ Rep T X.K F H y (.obj n ds) ∧ tb n = some b ∧ Q (.bl b) H) := fun pins s σ H vs us Q I r ⟨F, n, ds, b, y, ev, rp, e, q⟩ => by
    subst ev
    obtain ⟨u, w', rfl, r1, r2⟩ := vals2 r
    cases (show w' = Value.ref C from r2)
    obtain ⟨O, ⟨nm, oc⟩, kk⟩ := hk n b e
    cases rp with
    | @obj ad C' dx _ fs' _ h t rr =>
      rw [oc] at t
      have tc : oA T n = C' := congrArg Prod.fst (Option.some.inj t)
      rw [← tc] at h
      exact isinst_ok I r1 (.ins h O.cl O.ha O.hn O.tk O.mo) kk fun tk => ⟨.bl b, H, I.tok _, rfl, q⟩
  refine ⟨PE.imp (pe_callB hcr hg hm (by decide +kernel) (pa_cons ha.h (pa_cons (pe_glob (v := .ref C) hgc hC rfl hdc) pa_nil) he) (by decide) (by decide) he hpl) fun σ H Q ⟨c', ρ, F, out, r, e, th⟩ => ?_⟩
  refine tD_bind r e (fun d v H1 F1 g1 r1 e1 => ?_) th.exc
  split at e1
  · rename_i n ds
    split at e1
    · rename_i b q
      cases e1
      exact ⟨F1, n, ds, b, v, rfl, r1, q, th _ H1 F1 g1 (.bl b)⟩
    · cases e1
  · cases e1
end
noncomputable def MTb (P : Program) (w : World) (K : Frag) (mg : Str → Option Value) (base : Heap) (CX : CXT) (T : Tab) (m : Str) (k : Nat) (gl : FnL) : Prop :=
  ∀ n g, gl.lookup n = some g → ∃ x names ps, ObC K mg T x n names (oA T n) ∧ ClM P w K mg base CX T (oA T n) m ps k g ∧ m ∉ names
section
variable {P : Program} {w : World} {K : Frag} {mg : Str → Option Value} {base : Heap} {CX : CXT} {T : Tab} {m : Str} {k : Nat} {gl : FnL}
theorem mt_nil : MTb P w K mg base CX T m k [] := fun _ _ h => nomatch h
theorem mt_cons {x : Str} {names ps : List Str} {j n : Nat} {g : List D → Option Out} (O : ObC K mg T x n names (oA T n)) (M : ClM P w K mg base CX T (oA T n) m ps j g) (hj : j ≤ k) (hn : m ∉ names) (r : MTb P w K mg base CX T m k gl) : MTb P w K mg base CX T m k ((n, g) :: gl) := by
  intro n' g' e
  rw [List.lookup_cons] at e
  split at e
  · rename_i q
    cases e
    have q := beq_iff_eq.mp q
    subst q
    obtain ⟨f, fd, F, hm, hb⟩ := M.ex
    exact ⟨x, names, ps, O, ⟨f, fd, F.mono hj, hm, hb⟩, hn⟩
  · exact r n' g' e
end
noncomputable def eMethU (gl : FnL) (fo : Ev) (fs : EvL) : Ev := fun ρ => obnd (fo ρ) fun d => match d with
  | .obj m ds => (match gl.lookup m with
    | some g => lbnd (fs ρ) fun as => g (.obj m ds :: as)
    | none => none)
  | _ => none
section
variable {X : Cx} {T : Tab} {E : XK} {CX : CXT} {k : Nat} {m : Str} {pos apos : Pos} {o e : Expr} {es : List Expr} {fo : Ev} {fs : EvL} {gl : FnL}
theorem je_methU {pl : Sem Bool} (ho : JE X T E o fo) (M : MTb X.prog X.w X.K X.mg X.base CX T m k gl) (hr : Room k X.A) (hx : Passes CX X E) (ha : JA X T E (e :: es) fs)
    (hst : starEach (e :: es) X.env = (false, eval e X.env) :: starEach es X.env := by kernel_rfl) (hpl : (backTo pos (starEach es X.env)).any (·.1) = false := by kernel_rfl)
    (ht : eval (.Call (.Attribute o m apos) (e :: es) [] pos) X.env = (do
      let ov ← eval o X.env
      standAt apos.atName
      let (f, first) ← holding [ov] (getMethod ov m pl)
      callWith pos f first (backTo pos (starEach (e :: es) X.env)) (backToKw pos (keywordEach [] X.env))) := by rfl) :
    JE X T E (.Call (.Attribute o m apos) (e :: es) [] pos) (eMethU gl fo fs) := by
  refine ⟨fun pins s σ H Q I ⟨c, ρ, Fz, out, r, ev, th⟩ => methcall_of (pl := pl) ho.h I ?_ ht⟩
  refine tD_bind r ev (fun d v H1 F1 g1 r1 e1 => ?_) th.exc
  split at e1
  · rename_i m' ds
    split at e1
    · rename_i g hg
      obtain ⟨x, names, ps, O, MM, hn⟩ := M m' g hg
      obtain ⟨f, fd, F, hm, hb⟩ := MM.ex
      cases r1 with
      | @obj a C' dx _ fs' _ h t rr =>
        have t0 := t
        rw [O.oc] at t
        have t2 := Option.some.inj t
        have tc : oA T m' = C' := congrArg Prod.fst t2
        have tn : names = fs'.map (·.1) := congrArg Prod.snd t2
        subst tc
        refine ⟨a, oA T m', dx, fs', f, rfl, h, O.cl, hm, look_no tn.symm hn, fun s1 I1 => ?_⟩
        refine callWith_K (first := [.ref a]) (h₀ := X.base) I.ok.mod.kin hm.kp (thn (ha.h pos pins s1 σ H1 (fun vs H2 => spD T X.K g (.ref a :: (vs ++ [])) H2 Q E) I1 (tDA_bind (r.grow g1) e1 (fun as vs H2 F2 g2 r2 e2 => ?_) (fun n' z H' ext => th.exc n' z H' (g1.ext.trans ext)))) fun us s2 ⟨vs, H2, I2, r2, q2⟩ => ⟨I2.kIn, ?_⟩) hst hpl
        · refine ⟨F2, _, out, g2.wf, ?_, e2, th.grow (g1.trans g2)⟩
          rw [List.append_nil]
          exact .cons (.obj (g2.ext _ _ h) t0 (rr.grow g2)) r2
        · exact run_fn (us := .ref a :: us) (vs := .ref a :: vs) F hr hb .nil hx I2 (.cons rfl r2) q2
    · cases e1
  · cases e1
end
end BD

namespace BD
open PySem L2
noncomputable def top (i : Nat) : Stmt := PySem.Challenge.pw_beadway_k09_whole_pair.main.body.getD i (.Pass ⟨0, 0, 0, 0⟩)
structure Txt (K : PySem.W.Frag) (mg : Str → Option Value) : Prop where
  one : True
  n_abs : mg "abs" = none
  n_all : mg "all" = none
  n_any : mg "any" = none
  n_bool : mg "bool" = none
  n_enumerate : mg "enumerate" = none
  n_int : mg "int" = none
  n_isinstance : mg "isinstance" = none
  n_len : mg "len" = none
  n_list : mg "list" = none
  n_range : mg "range" = none
  n_sum : mg "sum" = none
  n_tuple : mg "tuple" = none
  g_MOST_BEADS : ∃ t, mg "MOST_BEADS" = some (.int 10 t)
  g_MOST_BOTTOM : ∃ t, mg "MOST_BOTTOM" = some (.int 60 t)
  g_MOST_TOP : ∃ t, mg "MOST_TOP" = some (.int 1000000 t)
  g_MOST_WEIGHT : ∃ t, mg "MOST_WEIGHT" = some (.int 60 t)

structure Txe (K : PySem.W.Frag) (mg : Str → Option Value) (T : Tab) : Prop where
  tab : IsTab T
  o_Meet : ObC K mg T "Meet" 3 ["moment"] (oA T 3)
  o_Never : ObC K mg T "Never" 4 [] (oA T 4)
  mk_Never : Mk0 K (oA T 4)
  q_Never : IsO K mg T "Never" (tbL [(3, false), (4, true)])
  q_Meet : IsO K mg T "Meet" (tbL [(3, true), (4, false)])
  q_One : IsO K mg T "One" (tbL [(3, false), (4, false)])
  q_Parted : IsO K mg T "Parted" (tbL [(3, false), (4, false)])
  q_Right : IsO K mg T "Right" (tbL [(3, false), (4, false)])
  q_Wrong : IsO K mg T "Wrong" (tbL [(3, false), (4, false)])
  q_Answer : IsO K mg T "Answer" (tbL [(3, true), (4, true)])

section
variable {P : Program} {w : World} {K : PySem.W.Frag} {mg : Str → Option Value} {base : Heap} {T : Tab}
/-! ### _law_number -/
noncomputable abbrev s_q_number : Stmt := top 85
noncomputable def b_q_number : Sv := (sSeq (sIf (eOp (i2 geI) (eVar 0) (eOp (i2 powI) (eC (.int 10)) (eC (.int 18)))) (sRet (eVar 0)) sNext) (sSeq (sAsg (eOp (i2 modI) (eOp (i2 addI) (eOp (i2 mulI) (eOp (i2 addI) (eVar 0) (eOp (i2 mulI) (eC (.int 977)) (eVar 1))) (eC (.int 48271))) (eVar 2)) (eC (.int 2147483647))) (gNm 3)) (sSeq (sAsg (eOp (i2 mulI) (eOp (i2 mulI) (eVar 3) (eOp (i2 addI) (eOp (i2 addI) (eVar 3) (eOp (i2 mulI) (eC (.int 31)) (eVar 1))) (eC (.int 7)))) (eOp (i2 addI) (eOp (i2 addI) (eVar 3) (eVar 0)) (eC (.int 5)))) (gNm 4)) (sRet (eOp (i2 divI) (eOp (i2 mulI) (eVar 4) (eOp (i2 addI) (eVar 4) (eC (.int 48271)))) (eC (.int 1009)))))))
noncomputable def m_q_number : List D → Option Out := fnSem 3 2 b_q_number
theorem sc_q_number : FnScope ["_law_cell", "_law_at", "_law_whole_here", "_law_mixed", "_law_more"] ["_law_cell", "_law_at", "_law_whole_here"] (defScope s_q_number) := ⟨rfl, rfl, rfl, by decide +kernel, rfl, by decide +kernel, by decide +kernel⟩
theorem ok_q_number (Z : Txt K mg) (Y : Txe K mg T) {f : Addr} {fd : FuncData} (F : FunD K "_law_number" "_law_number" s_q_number .none f fd) (hm : mg "_law_number" = some (.ref f)) (hb : Binds K fd ["_law_cell", "_law_at", "_law_whole_here"] []) : Cl P w K mg base (CXf P w) T "_law_number" ["_law_cell", "_law_at", "_law_whole_here"] 1 m_q_number :=
  ⟨f, fd, fnx_okJ (fb := b_q_number) (k := 0) F sc_q_number (by kernel_rfl) (by kernel_rfl) (fun cdv A outer s H E hr =>
    (jb_cons (js_if (jt_cmp jp_ge (jv 0) (je_op jp_pow je_int je_int) (nobehind _ (by decide) (by decide))) (jb_one (js_ret (jv 0))) jb_nil) (jb_cons (js_set (i := 3) sc_q_number.nd (by kernel_rfl) (Or.inl (by kernel_rfl)) (je_op jp_mod (je_op jp_add (je_op jp_mul (je_op jp_add (jv 0) (je_op jp_mul je_int (jv 1))) je_int) (jv 2)) je_int)) (jb_cons (js_set (i := 4) sc_q_number.nd (by kernel_rfl) (Or.inl (by kernel_rfl)) (je_op jp_mul (je_op jp_mul (jv 3) (je_op jp_add (je_op jp_add (jv 3) (je_op jp_mul je_int (jv 1))) je_int)) (je_op jp_add (je_op jp_add (jv 3) (jv 0)) je_int))) (jb_one (js_ret (je_op jp_div (je_op jp_mul (jv 4) (je_op jp_add (jv 4) je_int)) je_int))))))), hm, F.kp, hb⟩

/-! ### _law_low -/
noncomputable abbrev s_q_low : Stmt := top 86
noncomputable def b_q_low : Sv := (sSeq (sPar 2 3 (eB absB (aCons (eVar 0) aNil)) (eVar 1)) (sSeq (sWhile fuelR (eOp (i2 gtI) (eVar 3) (eC (.int 0))) (sPar 2 3 (eVar 3) (eOp (i2 modI) (eVar 2) (eVar 3)))) (sRet (eTup (aCons (eOp (i2 divI) (eVar 0) (eVar 2)) (aCons (eOp (i2 divI) (eVar 1) (eVar 2)) aNil))))))
noncomputable def m_q_low : List D → Option Out := fnSem 2 2 b_q_low
theorem sc_q_low : FnScope ["_law_top", "_law_bottom", "_law_one", "_law_other"] ["_law_top", "_law_bottom"] (defScope s_q_low) := ⟨rfl, rfl, rfl, by decide +kernel, rfl, by decide +kernel, by decide +kernel⟩
theorem ok_q_low (Z : Txt K mg) (Y : Txe K mg T) {f : Addr} {fd : FuncData} (F : FunD K "_law_low" "_law_low" s_q_low .none f fd) (hm : mg "_law_low" = some (.ref f)) (hb : Binds K fd ["_law_top", "_law_bottom"] []) : Cl P w K mg base (CXf P w) T "_law_low" ["_law_top", "_law_bottom"] 1 m_q_low :=
  ⟨f, fd, fnx_okJ (fb := b_q_low) (k := 0) F sc_q_low (by kernel_rfl) (by kernel_rfl) (fun cdv A outer s H E hr =>
    (jb_cons (js_par (i := 2) (j := 3) (by kernel_rfl) sc_q_low.nd (by kernel_rfl) (by kernel_rfl) (by decide) (by kernel_rfl) (by kernel_rfl) (je_callB jc_abs (by kernel_rfl) Z.n_abs (by decide +kernel) (ja_cons (jv 0) ja_nil)) (jv 1)) (jb_cons (js_while passL (jt_cmp jp_gt (jv 3) je_int (nobehind _ (by decide) (by decide))) (jb_one (js_par (i := 2) (j := 3) (by kernel_rfl) sc_q_low.nd (by kernel_rfl) (by kernel_rfl) (by decide) (by kernel_rfl) (by kernel_rfl) (jv 3) (je_op jp_mod (jv 2) (jv 3))))) (jb_one (js_ret (je_tup (ja_cons (je_op jp_div (jv 0) (jv 2)) (ja_cons (je_op jp_div (jv 1) (jv 2)) ja_nil)))))))), hm, F.kp, hb⟩

/-! ### _law_row -/
noncomputable abbrev s_q_row : Stmt := top 91
noncomputable def l1_q_row : Sv := (sSeq (sAsg (eCall m_q_number (aCons (eOp ixD (eVar 4) (eOp (i2 modI) (eOp (i2 addI) (eVar 11) (eVar 1)) (eB lenB (aCons (eVar 4) aNil)))) (aCons (eOp (i2 addI) (eVar 11) (eOp (i2 mulI) (eC (.int 11)) (eVar 1))) (aCons (eVar 5) aNil)))) (gNm 16)) (sSeq (sAsg (eOp (i2 addI) (eOp (i2 addI) (eVar 10) (eC (.int 1))) (eOp (i2 modI) (eOp (i2 divI) (eVar 16) (eC (.int 3))) (eVar 8))) (gNm 10)) (sSeq (sAsg (eIf (qV (eVar 2)) (eVar 14) (eOp (i2 addI) (eC (.int 1)) (eOp (i2 modI) (eOp (i2 divI) (eVar 16) (eC (.int 270000))) (eVar 15)))) (gNm 17)) (sSeq (sAsg (eOp (i2 subI) (eOp (i2 modI) (eOp (i2 divI) (eVar 16) (eC (.int 16200000))) (eOp ixD (eTup (aCons (eC (.int 5)) (aCons (eC (.int 11)) (aCons (eC (.int 41)) (aCons (eC (.int 400001)) aNil))))) (eVar 9))) (eOp ixD (eTup (aCons (eC (.int 2)) (aCons (eC (.int 5)) (aCons (eC (.int 20)) (aCons (eC (.int 200000)) aNil))))) (eVar 9))) (gNm 18)) (sSeq (sAsg (eCall m_q_low (aCons (eVar 18) (aCons (eOp (i2 addI) (eC (.int 1)) (eOp (i2 modI) (eOp (i2 divI) (eVar 16) (eC (.int 6480016200000))) (eOp ixD (eTup (aCons (eC (.int 1)) (aCons (eC (.int 1)) (aCons (eC (.int 4)) (aCons (eC (.int 60)) aNil))))) (eVar 9)))) aNil))) (gNm 19)) (sApp 12 (eTup (aCons (eVar 17) (aCons (eCall m_q_low (aCons (eVar 10) (aCons (eVar 7) aNil))) (aCons (eVar 19) aNil))))))))))
noncomputable def b_q_row : Sv := (sSeq (sAsg (eIf (eOp neD (eVar 0) (eFr (lLst aNil))) (eFr (lSlice (eVar 0) oNone (oSome (eC (.int 63))))) (eFr (lLst (aCons (eC (.int 2)) aNil)))) (gNm 4)) (sSeq (sAsg (eOp (i2 addI) (eB sumB (aCons (eVar 4) aNil)) (eVar 1)) (gNm 5)) (sSeq (sAsg (eOp (i2 addI) (eC (.int 1)) (eOp (i2 modI) (eVar 5) (eVar 3))) (gNm 6)) (sSeq (sAsg (eOp ixD (eTup (aCons (eC (.int 1)) (aCons (eC (.int 1)) (aCons (eC (.int 2)) (aCons (eC (.int 3)) (aCons (eC (.int 4)) (aCons (eC (.int 60)) aNil))))))) (eOp (i2 modI) (eOp (i2 divI) (eVar 5) (eC (.int 10))) (eC (.int 6)))) (gNm 7)) (sSeq (sAsg (eOp ixD (eTup (aCons (eC (.int 3)) (aCons (eC (.int 9)) (aCons (eC (.int 90000)) aNil)))) (eOp (i2 modI) (eOp (i2 divI) (eVar 5) (eC (.int 60))) (eC (.int 3)))) (gNm 8)) (sSeq (sAsg (eOp (i2 modI) (eOp (i2 divI) (eVar 5) (eC (.int 180))) (eC (.int 4))) (gNm 9)) (sSeq (sAsg (eOp (i2 mulI) (eNeg (eVar 8)) (eOp (i2 modI) (eOp (i2 divI) (eVar 5) (eC (.int 720))) (eC (.int 6)))) (gNm 10)) (sSeq (sParM 12 13 (lLst aNil) (eCall m_q_number (aCons (eVar 5) (aCons (eOp (i2 addI) (eVar 1) (eC (.int 3))) (aCons (eC (.int 5)) aNil))))) (sSeq (sPar 14 15 (eOp (i2 addI) (eC (.int 1)) (eOp (i2 modI) (eOp (i2 divI) (eVar 13) (eC (.int 4320))) (eC (.int 60)))) (eOp ixD (eTup (aCons (eC (.int 3)) (aCons (eC (.int 60)) aNil))) (eOp (i2 modI) (eOp (i2 divI) (eVar 13) (eC (.int 259200))) (eC (.int 2))))) (sSeq (sFor (wRng1 (aCons (eVar 6) aNil)) (gNm 11) l1_q_row) (sFrz 12 (sRet (eVar 12)))))))))))))
noncomputable def m_q_row : List D → Option Out := fnSem 4 16 b_q_row
theorem sc_q_row : FnScope ["_law_script", "_law_by_here", "_law_alike", "_law_most", "_law_cells", "_law_whole_here", "_law_many", "_law_bottom", "_law_gap", "_law_kind", "_law_last", "_law_at", "_law_found", "_law_blend", "_law_same", "_law_light", "_law_number_here", "_law_weight", "_law_top", "_law_speed"] ["_law_script", "_law_by_here", "_law_alike", "_law_most"] (defScope s_q_row) := ⟨rfl, rfl, rfl, by decide +kernel, rfl, by decide +kernel, by decide +kernel⟩
theorem ok_q_row (Z : Txt K mg) (Y : Txe K mg T) (C_q_number : Cl P w K mg base (CXf P w) T "_law_number" ["_law_cell", "_law_at", "_law_whole_here"] 1 m_q_number) (C_q_low : Cl P w K mg base (CXf P w) T "_law_low" ["_law_top", "_law_bottom"] 1 m_q_low) {f : Addr} {fd : FuncData} {dV : Value} {t : Tok} (F : FunD K "_law_row" "_law_row" s_q_row dV f fd) (hm : mg "_law_row" = some (.ref f)) (hb : Binds K fd ["_law_script", "_law_by_here", "_law_alike", "_law_most"] [.int 10 t]) : ClD P w K mg base (CXf P w) T "_law_row" ["_law_script", "_law_by_here", "_law_alike", "_law_most"] 2 m_q_row 10 :=
  ⟨f, fd, t, fnx_okJ (fb := b_q_row) (k := 1) F sc_q_row (by kernel_rfl) (by kernel_rfl) (fun cdv A outer s H E hr =>
    (jb_cons (js_set (i := 4) sc_q_row.nd (by kernel_rfl) (Or.inl (by kernel_rfl)) (je_if (jt_cmp (jp_ne hr.units) (jv 0) (je_fr (jf_lst ja_nil)) (nobehind _ (by decide) (by decide))) (je_fr (jf_slice (jv 0) jo_none (jo_some je_int))) (je_fr (jf_lst (ja_cons je_int ja_nil))))) (jb_cons (js_set (i := 5) sc_q_row.nd (by kernel_rfl) (Or.inl (by kernel_rfl)) (je_op jp_add (je_callB (jc_sum (by kernel_rfl)) (by kernel_rfl) Z.n_sum (by decide +kernel) (ja_cons (jv 4) ja_nil)) (jv 1))) (jb_cons (js_set (i := 6) sc_q_row.nd (by kernel_rfl) (Or.inl (by kernel_rfl)) (je_op jp_add je_int (je_op jp_mod (jv 5) (jv 3)))) (jb_cons (js_set (i := 7) sc_q_row.nd (by kernel_rfl) (Or.inl (by kernel_rfl)) (je_ix (je_tup (ja_cons je_int (ja_cons je_int (ja_cons je_int (ja_cons je_int (ja_cons je_int (ja_cons je_int ja_nil))))))) (je_op jp_mod (je_op jp_div (jv 5) je_int) je_int))) (jb_cons (js_set (i := 8) sc_q_row.nd (by kernel_rfl) (Or.inl (by kernel_rfl)) (je_ix (je_tup (ja_cons je_int (ja_cons je_int (ja_cons je_int ja_nil)))) (je_op jp_mod (je_op jp_div (jv 5) je_int) je_int))) (jb_cons (js_set (i := 9) sc_q_row.nd (by kernel_rfl) (Or.inl (by kernel_rfl)) (je_op jp_mod (je_op jp_div (jv 5) je_int) je_int)) (jb_cons (js_set (i := 10) sc_q_row.nd (by kernel_rfl) (Or.inl (by kernel_rfl)) (je_op jp_mul (je_neg (jv 8)) (je_op jp_mod (je_op jp_div (jv 5) je_int) je_int))) (jb_cons (js_parM (i := 12) (j := 13) (by kernel_rfl) sc_q_row.nd (by kernel_rfl) (by kernel_rfl) (by decide) (by kernel_rfl) (by kernel_rfl) (jf_lst ja_nil) (je_c C_q_number (hr.mono (by decide)) passF (by kernel_rfl) (ja_cons (jv 5) (ja_cons (je_op jp_add (jv 1) je_int) (ja_cons je_int ja_nil))))) (jb_cons (js_par (i := 14) (j := 15) (by kernel_rfl) sc_q_row.nd (by kernel_rfl) (by kernel_rfl) (by decide) (by kernel_rfl) (by kernel_rfl) (je_op jp_add je_int (je_op jp_mod (je_op jp_div (jv 13) je_int) je_int)) (je_ix (je_tup (ja_cons je_int (ja_cons je_int ja_nil))) (je_op jp_mod (je_op jp_div (jv 13) je_int) je_int))) (jb_cons (js_for passL (by kernel_rfl) (ji_range1 (by kernel_rfl) Z.n_range (ja_cons (jv 6) ja_nil)) (jg_name (i := 11) sc_q_row.nd (by kernel_rfl) (Or.inl (by kernel_rfl))) (jb_cons (js_set (i := 16) sc_q_row.nd (by kernel_rfl) (Or.inl (by kernel_rfl)) (je_c C_q_number (hr.mono (by decide)) passF (by kernel_rfl) (ja_cons (je_ix (jv 4) (je_op jp_mod (je_op jp_add (jv 11) (jv 1)) (je_callB jc_len (by kernel_rfl) Z.n_len (by decide +kernel) (ja_cons (jv 4) ja_nil)))) (ja_cons (je_op jp_add (jv 11) (je_op jp_mul je_int (jv 1))) (ja_cons (jv 5) ja_nil))))) (jb_cons (js_set (i := 10) sc_q_row.nd (by kernel_rfl) (Or.inl (by kernel_rfl)) (je_op jp_add (je_op jp_add (jv 10) je_int) (je_op jp_mod (je_op jp_div (jv 16) je_int) (jv 8)))) (jb_cons (js_set (i := 17) sc_q_row.nd (by kernel_rfl) (Or.inl (by kernel_rfl)) (je_if (jt_val (jv 2)) (jv 14) (je_op jp_add je_int (je_op jp_mod (je_op jp_div (jv 16) je_int) (jv 15))))) (jb_cons (js_set (i := 18) sc_q_row.nd (by kernel_rfl) (Or.inl (by kernel_rfl)) (je_op jp_sub (je_op jp_mod (je_op jp_div (jv 16) je_int) (je_ix (je_tup (ja_cons je_int (ja_cons je_int (ja_cons je_int (ja_cons je_int ja_nil))))) (jv 9))) (je_ix (je_tup (ja_cons je_int (ja_cons je_int (ja_cons je_int (ja_cons je_int ja_nil))))) (jv 9)))) (jb_cons (js_set (i := 19) sc_q_row.nd (by kernel_rfl) (Or.inl (by kernel_rfl)) (je_c C_q_low (hr.mono (by decide)) passF (by kernel_rfl) (ja_cons (jv 18) (ja_cons (je_op jp_add je_int (je_op jp_mod (je_op jp_div (jv 16) je_int) (je_ix (je_tup (ja_cons je_int (ja_cons je_int (ja_cons je_int (ja_cons je_int ja_nil))))) (jv 9)))) ja_nil)))) (jb_one (js_append (i := 12) (by kernel_rfl) (Or.inl (by kernel_rfl)) (je_tup (ja_cons (jv 17) (ja_cons (je_c C_q_low (hr.mono (by decide)) passF (by kernel_rfl) (ja_cons (jv 10) (ja_cons (jv 7) ja_nil))) (ja_cons (jv 19) ja_nil)))))))))))) (jb_frz (i := 12) (jb_one (js_ret (jv 12))))))))))))))), hm, F.kp, hb⟩

/-! ### _law_sum -/
noncomputable abbrev s_q_sum : Stmt := top 87
noncomputable def b_q_sum : Sv := (sRet (eCall m_q_low (aCons (eOp (i2 addI) (eOp (i2 mulI) (eOp ixD (eVar 0) (eC (.int 0))) (eOp ixD (eVar 1) (eC (.int 1)))) (eOp (i2 mulI) (eOp ixD (eVar 1) (eC (.int 0))) (eOp ixD (eVar 0) (eC (.int 1))))) (aCons (eOp (i2 mulI) (eOp ixD (eVar 0) (eC (.int 1))) (eOp ixD (eVar 1) (eC (.int 1)))) aNil))))
noncomputable def m_q_sum : List D → Option Out := fnSem 2 0 b_q_sum
theorem sc_q_sum : FnScope ["_law_one", "_law_other"] ["_law_one", "_law_other"] (defScope s_q_sum) := ⟨rfl, rfl, rfl, by decide +kernel, rfl, by decide +kernel, by decide +kernel⟩
theorem ok_q_sum (Z : Txt K mg) (Y : Txe K mg T) (C_q_low : Cl P w K mg base (CXf P w) T "_law_low" ["_law_top", "_law_bottom"] 1 m_q_low) {f : Addr} {fd : FuncData} (F : FunD K "_law_sum" "_law_sum" s_q_sum .none f fd) (hm : mg "_law_sum" = some (.ref f)) (hb : Binds K fd ["_law_one", "_law_other"] []) : Cl P w K mg base (CXf P w) T "_law_sum" ["_law_one", "_law_other"] 2 m_q_sum :=
  ⟨f, fd, fnx_okJ (fb := b_q_sum) (k := 1) F sc_q_sum (by kernel_rfl) (by kernel_rfl) (fun cdv A outer s H E hr =>
    (jb_one (js_ret (je_c C_q_low (hr.mono (by decide)) passF (by kernel_rfl) (ja_cons (je_op jp_add (je_op jp_mul (je_ix (jv 0) je_int) (je_ix (jv 1) je_int)) (je_op jp_mul (je_ix (jv 1) je_int) (je_ix (jv 0) je_int))) (ja_cons (je_op jp_mul (je_ix (jv 0) je_int) (je_ix (jv 1) je_int)) ja_nil)))))), hm, F.kp, hb⟩

/-! ### runs_of -/
noncomputable abbrev s_runs_of : Stmt := top 51
noncomputable def b_runs_of : Sv := (sRet (eFr (lComp (wEnum (aCons (eVar 0) aNil)) (gTp (gsCons (gNm 1) (gsCons (gTp (gsCons (gNm 2) (gsCons (gNm 3) (gsCons (gNm 4) gsNil)))) gsNil))) qYes (eTup (aCons (eVar 1) (aCons (eVar 1) (aCons (eVar 3) (aCons (eVar 4) aNil))))) [1, 2, 3, 4])))
noncomputable def m_runs_of : List D → Option Out := fnSem 1 4 b_runs_of
theorem sc_runs_of : FnScope ["row", "at", "weight", "place", "speed"] ["row"] (defScope s_runs_of) := ⟨rfl, rfl, rfl, by decide +kernel, rfl, by decide +kernel, by decide +kernel⟩
theorem ok_runs_of (Z : Txt K mg) (Y : Txe K mg T) {f : Addr} {fd : FuncData} (F : FunD K "runs_of" "runs_of" s_runs_of .none f fd) (hm : mg "runs_of" = some (.ref f)) (hb : Binds K fd ["row"] []) : Cl P w K mg base (CXf P w) T "runs_of" ["row"] 1 m_runs_of :=
  ⟨f, fd, fnx_okJ (fb := b_runs_of) (k := 0) F sc_runs_of (by kernel_rfl) (by kernel_rfl) (fun cdv A outer s H E hr =>
    (jb_one (js_ret (je_fr (jf_lc (own := [("at", 1), ("weight", 2), ("place", 3), ("speed", 4)]) (by kernel_rfl) sc_runs_of.nd (ji_enum (by kernel_rfl) Z.n_enumerate (ja_cons (jv 0) ja_nil)) (blkOk_by (by kernel_rfl)) (fun _ _ _ _ _ => (jg_tup (by kernel_rfl) (jgs_cons (jg_name (i := 1) sc_runs_of.nd (by kernel_rfl) (Or.inl (by kernel_rfl)) (hf := Or.inr (by kernel_rfl))) (jgs_cons (jg_tup (by kernel_rfl) (jgs_cons (jg_name (i := 2) sc_runs_of.nd (by kernel_rfl) (Or.inl (by kernel_rfl)) (hf := Or.inr (by kernel_rfl))) (jgs_cons (jg_name (i := 3) sc_runs_of.nd (by kernel_rfl) (Or.inl (by kernel_rfl)) (hf := Or.inr (by kernel_rfl))) (jgs_cons (jg_name (i := 4) sc_runs_of.nd (by kernel_rfl) (Or.inl (by kernel_rfl)) (hf := Or.inr (by kernel_rfl))) jgs_nil))) (gl_cons (gl_cons (gl_cons gl_nil)))) jgs_nil)) (gl_cons (gl_cons gl_nil)))) (fun _ _ _ _ _ => jts_nil) (fun _ _ _ _ _ => (je_tup (ja_cons (jv 1) (ja_cons (jv 1) (ja_cons (jv 3) (ja_cons (jv 4) ja_nil)))))) (by decide)))))), hm, F.kp, hb⟩

/-! ### common -/
noncomputable abbrev s_common : Stmt := top 12
noncomputable def b_common : Sv := (sSeq (sWhile fuelR (qV (eVar 1)) (sPar 0 1 (eVar 1) (eOp (i2 modI) (eVar 0) (eVar 1)))) (sRet (eVar 0)))
noncomputable def m_common : List D → Option Out := fnSem 2 0 b_common
theorem sc_common : FnScope ["one", "other"] ["one", "other"] (defScope s_common) := ⟨rfl, rfl, rfl, by decide +kernel, rfl, by decide +kernel, by decide +kernel⟩
theorem ok_common (Z : Txt K mg) (Y : Txe K mg T) {f : Addr} {fd : FuncData} (F : FunD K "common" "common" s_common .none f fd) (hm : mg "common" = some (.ref f)) (hb : Binds K fd ["one", "other"] []) : Cl P w K mg base (CXf P w) T "common" ["one", "other"] 1 m_common :=
  ⟨f, fd, fnx_okJ (fb := b_common) (k := 0) F sc_common (by kernel_rfl) (by kernel_rfl) (fun cdv A outer s H E hr =>
    (jb_cons (js_while passL (jt_val (jv 1)) (jb_one (js_par (i := 0) (j := 1) (by kernel_rfl) sc_common.nd (by kernel_rfl) (by kernel_rfl) (by decide) (by kernel_rfl) (by kernel_rfl) (jv 1) (je_op jp_mod (jv 0) (jv 1))))) (jb_one (js_ret (jv 0))))), hm, F.kp, hb⟩

/-! ### lowest -/
noncomputable abbrev s_lowest : Stmt := top 13
noncomputable def b_lowest : Sv := (sSeq (sIf (eOp (i2 ltI) (eVar 1) (eC (.int 0))) (sPar 0 1 (eNeg (eVar 0)) (eNeg (eVar 1))) sNext) (sSeq (sAsg (eCall m_common (aCons (eVar 0) (aCons (eVar 1) aNil))) (gNm 2)) (sRet (eTup (aCons (eOp (i2 divI) (eVar 0) (eVar 2)) (aCons (eOp (i2 divI) (eVar 1) (eVar 2)) aNil))))))
noncomputable def m_lowest : List D → Option Out := fnSem 2 1 b_lowest
theorem sc_lowest : FnScope ["top", "bottom", "divisor"] ["top", "bottom"] (defScope s_lowest) := ⟨rfl, rfl, rfl, by decide +kernel, rfl, by decide +kernel, by decide +kernel⟩
theorem ok_lowest (Z : Txt K mg) (Y : Txe K mg T) (C_common : Cl P w K mg base (CXf P w) T "common" ["one", "other"] 1 m_common) {f : Addr} {fd : FuncData} (F : FunD K "lowest" "lowest" s_lowest .none f fd) (hm : mg "lowest" = some (.ref f)) (hb : Binds K fd ["top", "bottom"] []) : Cl P w K mg base (CXf P w) T "lowest" ["top", "bottom"] 2 m_lowest :=
  ⟨f, fd, fnx_okJ (fb := b_lowest) (k := 1) F sc_lowest (by kernel_rfl) (by kernel_rfl) (fun cdv A outer s H E hr =>
    (jb_cons (js_if (jt_cmp jp_lt (jv 1) je_int (nobehind _ (by decide) (by decide))) (jb_one (js_par (i := 0) (j := 1) (by kernel_rfl) sc_lowest.nd (by kernel_rfl) (by kernel_rfl) (by decide) (by kernel_rfl) (by kernel_rfl) (je_neg (jv 0)) (je_neg (jv 1)))) jb_nil) (jb_cons (js_set (i := 2) sc_lowest.nd (by kernel_rfl) (Or.inl (by kernel_rfl)) (je_c C_common (hr.mono (by decide)) passF (by kernel_rfl) (ja_cons (jv 0) (ja_cons (jv 1) ja_nil)))) (jb_one (js_ret (je_tup (ja_cons (je_op jp_div (jv 0) (jv 2)) (ja_cons (je_op jp_div (jv 1) (jv 2)) ja_nil)))))))), hm, F.kp, hb⟩

/-! ### lessened -/
noncomputable abbrev s_lessened : Stmt := top 16
noncomputable def b_lessened : Sv := (sRet (eCall m_lowest (aCons (eOp (i2 subI) (eOp (i2 mulI) (eOp ixD (eVar 0) (eC (.int 0))) (eOp ixD (eVar 1) (eC (.int 1)))) (eOp (i2 mulI) (eOp ixD (eVar 1) (eC (.int 0))) (eOp ixD (eVar 0) (eC (.int 1))))) (aCons (eOp (i2 mulI) (eOp ixD (eVar 0) (eC (.int 1))) (eOp ixD (eVar 1) (eC (.int 1)))) aNil))))
noncomputable def m_lessened : List D → Option Out := fnSem 2 0 b_lessened
theorem sc_lessened : FnScope ["one", "other"] ["one", "other"] (defScope s_lessened) := ⟨rfl, rfl, rfl, by decide +kernel, rfl, by decide +kernel, by decide +kernel⟩
theorem ok_lessened (Z : Txt K mg) (Y : Txe K mg T) (C_lowest : Cl P w K mg base (CXf P w) T "lowest" ["top", "bottom"] 2 m_lowest) {f : Addr} {fd : FuncData} (F : FunD K "lessened" "lessened" s_lessened .none f fd) (hm : mg "lessened" = some (.ref f)) (hb : Binds K fd ["one", "other"] []) : Cl P w K mg base (CXf P w) T "lessened" ["one", "other"] 3 m_lessened :=
  ⟨f, fd, fnx_okJ (fb := b_lessened) (k := 2) F sc_lessened (by kernel_rfl) (by kernel_rfl) (fun cdv A outer s H E hr =>
    (jb_one (js_ret (je_c C_lowest (hr.mono (by decide)) passF (by kernel_rfl) (ja_cons (je_op jp_sub (je_op jp_mul (je_ix (jv 0) je_int) (je_ix (jv 1) je_int)) (je_op jp_mul (je_ix (jv 1) je_int) (je_ix (jv 0) je_int))) (ja_cons (je_op jp_mul (je_ix (jv 0) je_int) (je_ix (jv 1) je_int)) ja_nil)))))), hm, F.kp, hb⟩

/-! ### parted -/
noncomputable abbrev s_parted : Stmt := top 18
noncomputable def b_parted : Sv := (sRet (eCall m_lowest (aCons (eOp (i2 mulI) (eOp ixD (eVar 0) (eC (.int 0))) (eOp ixD (eVar 1) (eC (.int 1)))) (aCons (eOp (i2 mulI) (eOp ixD (eVar 0) (eC (.int 1))) (eOp ixD (eVar 1) (eC (.int 0)))) aNil))))
noncomputable def m_parted : List D → Option Out := fnSem 2 0 b_parted
theorem sc_parted : FnScope ["one", "other"] ["one", "other"] (defScope s_parted) := ⟨rfl, rfl, rfl, by decide +kernel, rfl, by decide +kernel, by decide +kernel⟩
theorem ok_parted (Z : Txt K mg) (Y : Txe K mg T) (C_lowest : Cl P w K mg base (CXf P w) T "lowest" ["top", "bottom"] 2 m_lowest) {f : Addr} {fd : FuncData} (F : FunD K "parted" "parted" s_parted .none f fd) (hm : mg "parted" = some (.ref f)) (hb : Binds K fd ["one", "other"] []) : Cl P w K mg base (CXf P w) T "parted" ["one", "other"] 3 m_parted :=
  ⟨f, fd, fnx_okJ (fb := b_parted) (k := 2) F sc_parted (by kernel_rfl) (by kernel_rfl) (fun cdv A outer s H E hr =>
    (jb_one (js_ret (je_c C_lowest (hr.mono (by decide)) passF (by kernel_rfl) (ja_cons (je_op jp_mul (je_ix (jv 0) je_int) (je_ix (jv 1) je_int)) (ja_cons (je_op jp_mul (je_ix (jv 0) je_int) (je_ix (jv 1) je_int)) ja_nil)))))), hm, F.kp, hb⟩

/-! ### wait_between -/
noncomputable abbrev s_wait_between : Stmt := top 53
noncomputable def b_wait_between : Sv := (sSeq (sAsg (eVar 0) (gTp (gsCons (gNm 3) (gsCons (gNm 4) (gsCons (gNm 5) (gsCons (gNm 6) gsNil)))))) (sSeq (sAsg (eVar 1) (gTp (gsCons (gNm 7) (gsCons (gNm 8) (gsCons (gNm 9) (gsCons (gNm 10) gsNil)))))) (sSeq (sAsg (eCall m_lessened (aCons (eVar 6) (aCons (eVar 10) aNil))) (gNm 2)) (sSeq (sIf (eOp (i2 leI) (eOp ixD (eVar 2) (eC (.int 0))) (eC (.int 0))) (sRet (eC .non)) sNext) (sRet (eCall m_parted (aCons (eCall m_lessened (aCons (eVar 9) (aCons (eVar 5) aNil))) (aCons (eVar 2) aNil))))))))
noncomputable def m_wait_between : List D → Option Out := fnSem 2 9 b_wait_between
theorem sc_wait_between : FnScope ["one", "other", "closing", "first", "last", "place", "speed", "other_first", "other_last", "other_place", "other_speed"] ["one", "other"] (defScope s_wait_between) := ⟨rfl, rfl, rfl, by decide +kernel, rfl, by decide +kernel, by decide +kernel⟩
theorem ok_wait_between (Z : Txt K mg) (Y : Txe K mg T) (C_lessened : Cl P w K mg base (CXf P w) T "lessened" ["one", "other"] 3 m_lessened) (C_parted : Cl P w K mg base (CXf P w) T "parted" ["one", "other"] 3 m_parted) {f : Addr} {fd : FuncData} (F : FunD K "wait_between" "wait_between" s_wait_between .none f fd) (hm : mg "wait_between" = some (.ref f)) (hb : Binds K fd ["one", "other"] []) : Cl P w K mg base (CXf P w) T "wait_between" ["one", "other"] 4 m_wait_between :=
  ⟨f, fd, fnx_okJ (fb := b_wait_between) (k := 3) F sc_wait_between (by kernel_rfl) (by kernel_rfl) (fun cdv A outer s H E hr =>
    (jb_cons (js_asg (jv 0) (jg_tup (by kernel_rfl) (jgs_cons (jg_name (i := 3) sc_wait_between.nd (by kernel_rfl) (Or.inl (by kernel_rfl))) (jgs_cons (jg_name (i := 4) sc_wait_between.nd (by kernel_rfl) (Or.inl (by kernel_rfl))) (jgs_cons (jg_name (i := 5) sc_wait_between.nd (by kernel_rfl) (Or.inl (by kernel_rfl))) (jgs_cons (jg_name (i := 6) sc_wait_between.nd (by kernel_rfl) (Or.inl (by kernel_rfl))) jgs_nil)))) (gl_cons (gl_cons (gl_cons (gl_cons gl_nil)))))) (jb_cons (js_asg (jv 1) (jg_tup (by kernel_rfl) (jgs_cons (jg_name (i := 7) sc_wait_between.nd (by kernel_rfl) (Or.inl (by kernel_rfl))) (jgs_cons (jg_name (i := 8) sc_wait_between.nd (by kernel_rfl) (Or.inl (by kernel_rfl))) (jgs_cons (jg_name (i := 9) sc_wait_between.nd (by kernel_rfl) (Or.inl (by kernel_rfl))) (jgs_cons (jg_name (i := 10) sc_wait_between.nd (by kernel_rfl) (Or.inl (by kernel_rfl))) jgs_nil)))) (gl_cons (gl_cons (gl_cons (gl_cons gl_nil)))))) (jb_cons (js_set (i := 2) sc_wait_between.nd (by kernel_rfl) (Or.inl (by kernel_rfl)) (je_c C_lessened (hr.mono (by decide)) passF (by kernel_rfl) (ja_cons (jv 6) (ja_cons (jv 10) ja_nil)))) (jb_cons (js_if (jt_cmp jp_le (je_ix (jv 2) je_int) je_int (nobehind _ (by decide) (by decide))) (jb_one (js_ret je_non)) jb_nil) (jb_one (js_ret (je_c C_parted (hr.mono (by decide)) passF (by kernel_rfl) (ja_cons (je_c C_lessened (hr.mono (by decide)) passF (by kernel_rfl) (ja_cons (jv 9) (ja_cons (jv 5) ja_nil))) (ja_cons (jv 2) ja_nil)))))))))), hm, F.kp, hb⟩

/-! ### Never.shows -/
noncomputable abbrev s_Never_shows : Stmt := inClass (top 77) 0
noncomputable def b_Never_shows : Sv := (sSeq (sAsg (eCall m_runs_of (aCons (eVar 1) aNil)) (gNm 3)) (sRet (eOp isD (eCall m_wait_between (aCons (eOp ixD (eVar 3) (eVar 2)) (aCons (eOp ixD (eVar 3) (eOp (i2 addI) (eVar 2) (eC (.int 1)))) aNil))) (eC .non))))
noncomputable def m_Never_shows : List D → Option Out := fnSem 3 1 b_Never_shows
theorem sc_Never_shows : FnScope ["self", "row", "bead", "runs"] ["self", "row", "bead"] (defScope s_Never_shows) := ⟨rfl, rfl, rfl, by decide +kernel, rfl, by decide +kernel, by decide +kernel⟩
theorem ok_Never_shows (Z : Txt K mg) (Y : Txe K mg T) (C_runs_of : Cl P w K mg base (CXf P w) T "runs_of" ["row"] 1 m_runs_of) (C_wait_between : Cl P w K mg base (CXf P w) T "wait_between" ["one", "other"] 4 m_wait_between) {f : Addr} {fd : FuncData} (F : FunD K "shows" "Never.shows" s_Never_shows .none f fd) (hm : Meth K (oA T 4) "shows" f) (hb : Binds K fd ["self", "row", "bead"] []) : ClM P w K mg base (CXf P w) T (oA T 4) "shows" ["self", "row", "bead"] 5 m_Never_shows :=
  ⟨⟨f, fd, fnx_okJ (fb := b_Never_shows) (k := 4) F sc_Never_shows (by kernel_rfl) (by kernel_rfl) (fun cdv A outer s H E hr =>
    (jb_cons (js_set (i := 3) sc_Never_shows.nd (by kernel_rfl) (Or.inl (by kernel_rfl)) (je_c C_runs_of (hr.mono (by decide)) passF (by kernel_rfl) (ja_cons (jv 1) ja_nil))) (jb_one (js_ret (je_cmp jp_is (je_c C_wait_between (hr.mono (by decide)) passF (by kernel_rfl) (ja_cons (je_ix (jv 3) (jv 2)) (ja_cons (je_ix (jv 3) (je_op jp_add (jv 2) je_int)) ja_nil))) je_non (nobehind _ (by decide) (by decide))))))), hm, hb⟩⟩

/-! ### is_whole -/
noncomputable abbrev s_is_whole : Stmt := top 11
noncomputable def b_is_whole : Sv := (sRet (qAnd (eIsi "int" (eVar 0)) (qNot (eIsi "bool" (eVar 0)))))
noncomputable def m_is_whole : List D → Option Out := fnSem 1 0 b_is_whole
theorem sc_is_whole : FnScope ["value"] ["value"] (defScope s_is_whole) := ⟨rfl, rfl, rfl, by decide +kernel, rfl, by decide +kernel, by decide +kernel⟩
theorem ok_is_whole (Z : Txt K mg) (Y : Txe K mg T) {f : Addr} {fd : FuncData} (F : FunD K "is_whole" "is_whole" s_is_whole .none f fd) (hm : mg "is_whole" = some (.ref f)) (hb : Binds K fd ["value"] []) : Cl P w K mg base (CXf P w) T "is_whole" ["value"] 1 m_is_whole :=
  ⟨f, fd, fnx_okJ (fb := b_is_whole) (k := 0) F sc_is_whole (by kernel_rfl) (by kernel_rfl) (fun cdv A outer s H E hr =>
    (jb_one (js_ret (je_and (je_isi (jv 0) (by kernel_rfl) Z.n_isinstance (by kernel_rfl) Z.n_int (by decide +kernel)) (je_one (je_not (je_isi (jv 0) (by kernel_rfl) Z.n_isinstance (by kernel_rfl) Z.n_bool (by decide +kernel)))))))), hm, F.kp, hb⟩

/-! ### is_share -/
noncomputable abbrev s_is_share : Stmt := top 14
noncomputable def b_is_share : Sv := (sSeq (sIf (qOr (qNot (qV (eIsi "tuple" (eVar 0)))) (eOp neD (eB lenB (aCons (eVar 0) aNil)) (eC (.int 2)))) (sRet (eC (.bl false))) sNext) (sSeq (sAsg (eVar 0) (gTp (gsCons (gNm 1) (gsCons (gNm 2) gsNil)))) (sRet (qAnd (eCall m_is_whole (aCons (eVar 1) aNil)) (qAnd (eCall m_is_whole (aCons (eVar 2) aNil)) (qAnd (eOp (i2 geI) (eVar 2) (eC (.int 1))) (eOp eqD (eCall m_common (aCons (eVar 1) (aCons (eVar 2) aNil))) (eC (.int 1)))))))))
noncomputable def m_is_share : List D → Option Out := fnSem 1 2 b_is_share
theorem sc_is_share : FnScope ["value", "top", "bottom"] ["value"] (defScope s_is_share) := ⟨rfl, rfl, rfl, by decide +kernel, rfl, by decide +kernel, by decide +kernel⟩
theorem ok_is_share (Z : Txt K mg) (Y : Txe K mg T) (C_is_whole : Cl P w K mg base (CXf P w) T "is_whole" ["value"] 1 m_is_whole) (C_common : Cl P w K mg base (CXf P w) T "common" ["one", "other"] 1 m_common) {f : Addr} {fd : FuncData} (F : FunD K "is_share" "is_share" s_is_share .none f fd) (hm : mg "is_share" = some (.ref f)) (hb : Binds K fd ["value"] []) : Cl P w K mg base (CXf P w) T "is_share" ["value"] 2 m_is_share :=
  ⟨f, fd, fnx_okJ (fb := b_is_share) (k := 1) F sc_is_share (by kernel_rfl) (by kernel_rfl) (fun cdv A outer s H E hr =>
    (jb_cons (js_if (JW.pt (jw_or (jt_not (jt_val (je_isi (jv 0) (by kernel_rfl) Z.n_isinstance (by kernel_rfl) Z.n_tuple (by decide +kernel)))) (jw_or1 (jt_cmp (jp_ne hr.units) (je_callB jc_len (by kernel_rfl) Z.n_len (by decide +kernel) (ja_cons (jv 0) ja_nil)) je_int (nobehind _ (by decide) (by decide)))))) (jb_one (js_ret je_bl)) jb_nil) (jb_cons (js_asg (jv 0) (jg_tup (by kernel_rfl) (jgs_cons (jg_name (i := 1) sc_is_share.nd (by kernel_rfl) (Or.inl (by kernel_rfl))) (jgs_cons (jg_name (i := 2) sc_is_share.nd (by kernel_rfl) (Or.inl (by kernel_rfl))) jgs_nil)) (gl_cons (gl_cons gl_nil)))) (jb_one (js_ret (je_and (je_c C_is_whole (hr.mono (by decide)) passF (by kernel_rfl) (ja_cons (jv 1) ja_nil)) (je_and (je_c C_is_whole (hr.mono (by decide)) passF (by kernel_rfl) (ja_cons (jv 2) ja_nil)) (je_and (je_cmp jp_ge (jv 2) je_int (nobehind _ (by decide) (by decide))) (je_one (je_cmp (jp_eq hr.units) (je_c C_common (hr.mono (by decide)) passF (by kernel_rfl) (ja_cons (jv 1) (ja_cons (jv 2) ja_nil))) je_int (nobehind _ (by decide) (by decide)))))))))))), hm, F.kp, hb⟩

/-! ### Meet.shows -/
noncomputable abbrev s_Meet_shows : Stmt := inClass (top 76) 1
noncomputable def b_Meet_shows : Sv := (sSeq (sAsg (eCall m_runs_of (aCons (eVar 1) aNil)) (gNm 3)) (sRet (qAnd (eCall m_is_share (aCons (eFld 3 0 (eVar 0)) aNil)) (eOp eqD (eFld 3 0 (eVar 0)) (eCall m_wait_between (aCons (eOp ixD (eVar 3) (eVar 2)) (aCons (eOp ixD (eVar 3) (eOp (i2 addI) (eVar 2) (eC (.int 1)))) aNil)))))))
noncomputable def m_Meet_shows : List D → Option Out := fnSem 3 1 b_Meet_shows
theorem sc_Meet_shows : FnScope ["self", "row", "bead", "runs"] ["self", "row", "bead"] (defScope s_Meet_shows) := ⟨rfl, rfl, rfl, by decide +kernel, rfl, by decide +kernel, by decide +kernel⟩
theorem ok_Meet_shows (Z : Txt K mg) (Y : Txe K mg T) (C_runs_of : Cl P w K mg base (CXf P w) T "runs_of" ["row"] 1 m_runs_of) (C_is_share : Cl P w K mg base (CXf P w) T "is_share" ["value"] 2 m_is_share) (C_wait_between : Cl P w K mg base (CXf P w) T "wait_between" ["one", "other"] 4 m_wait_between) {f : Addr} {fd : FuncData} (F : FunD K "shows" "Meet.shows" s_Meet_shows .none f fd) (hm : Meth K (oA T 3) "shows" f) (hb : Binds K fd ["self", "row", "bead"] []) : ClM P w K mg base (CXf P w) T (oA T 3) "shows" ["self", "row", "bead"] 5 m_Meet_shows :=
  ⟨⟨f, fd, fnx_okJ (fb := b_Meet_shows) (k := 4) F sc_Meet_shows (by kernel_rfl) (by kernel_rfl) (fun cdv A outer s H E hr =>
    (jb_cons (js_set (i := 3) sc_Meet_shows.nd (by kernel_rfl) (Or.inl (by kernel_rfl)) (je_c C_runs_of (hr.mono (by decide)) passF (by kernel_rfl) (ja_cons (jv 1) ja_nil))) (jb_one (js_ret (je_and (je_c C_is_share (hr.mono (by decide)) passF (by kernel_rfl) (ja_cons (je_fld Y.o_Meet (jv 0) (i := 0) (by kernel_rfl)) ja_nil)) (je_one (je_cmp (jp_eq hr.units) (je_fld Y.o_Meet (jv 0) (i := 0) (by kernel_rfl)) (je_c C_wait_between (hr.mono (by decide)) passF (by kernel_rfl) (ja_cons (je_ix (jv 3) (jv 2)) (ja_cons (je_ix (jv 3) (je_op jp_add (jv 2) je_int)) ja_nil))) (nobehind _ (by decide) (by decide))))))))), hm, hb⟩⟩

/-! ### _law_far -/
noncomputable abbrev s_q_far : Stmt := top 89
noncomputable def b_q_far : Sv := (sRet (eOp (i2 subI) (eOp (i2 mulI) (eOp ixD (eVar 0) (eC (.int 0))) (eOp ixD (eVar 1) (eC (.int 1)))) (eOp (i2 mulI) (eOp ixD (eVar 1) (eC (.int 0))) (eOp ixD (eVar 0) (eC (.int 1))))))
noncomputable def m_q_far : List D → Option Out := fnSem 2 0 b_q_far
theorem sc_q_far : FnScope ["_law_one", "_law_other"] ["_law_one", "_law_other"] (defScope s_q_far) := ⟨rfl, rfl, rfl, by decide +kernel, rfl, by decide +kernel, by decide +kernel⟩
theorem ok_q_far (Z : Txt K mg) (Y : Txe K mg T) {f : Addr} {fd : FuncData} (F : FunD K "_law_far" "_law_far" s_q_far .none f fd) (hm : mg "_law_far" = some (.ref f)) (hb : Binds K fd ["_law_one", "_law_other"] []) : Cl P w K mg base (CXf P w) T "_law_far" ["_law_one", "_law_other"] 1 m_q_far :=
  ⟨f, fd, fnx_okJ (fb := b_q_far) (k := 0) F sc_q_far (by kernel_rfl) (by kernel_rfl) (fun cdv A outer s H E hr =>
    (jb_one (js_ret (je_op jp_sub (je_op jp_mul (je_ix (jv 0) je_int) (je_ix (jv 1) je_int)) (je_op jp_mul (je_ix (jv 1) je_int) (je_ix (jv 0) je_int)))))), hm, F.kp, hb⟩

/-! ### is_weight -/
noncomputable abbrev s_is_weight : Stmt := top 29
noncomputable def b_is_weight : Sv := (sRet (qAnd (eCall m_is_whole (aCons (eVar 0) aNil)) (eChain (i2 leI) (i2 leI) (eC (.int 1)) (eVar 0) (eC (.int 60)))))
noncomputable def m_is_weight : List D → Option Out := fnSem 1 0 b_is_weight
theorem sc_is_weight : FnScope ["value"] ["value"] (defScope s_is_weight) := ⟨rfl, rfl, rfl, by decide +kernel, rfl, by decide +kernel, by decide +kernel⟩
theorem ok_is_weight (Z : Txt K mg) (Y : Txe K mg T) (C_is_whole : Cl P w K mg base (CXf P w) T "is_whole" ["value"] 1 m_is_whole) {f : Addr} {fd : FuncData} (F : FunD K "is_weight" "is_weight" s_is_weight .none f fd) (hm : mg "is_weight" = some (.ref f)) (hb : Binds K fd ["value"] []) : Cl P w K mg base (CXf P w) T "is_weight" ["value"] 2 m_is_weight :=
  ⟨f, fd, fnx_okJ (fb := b_is_weight) (k := 1) F sc_is_weight (by kernel_rfl) (by kernel_rfl) (fun cdv A outer s H E hr =>
    (jb_one (js_ret (je_and (je_c C_is_whole (hr.mono (by decide)) passF (by kernel_rfl) (ja_cons (jv 0) ja_nil)) (je_one (je_chain jp_le jp_le je_int (jv 0) (je_gi (by kernel_rfl) Z.g_MOST_WEIGHT))))))), hm, F.kp, hb⟩

/-! ### is_row_share -/
noncomputable abbrev s_is_row_share : Stmt := top 30
noncomputable def b_is_row_share : Sv := (sRet (qAnd (eCall m_is_share (aCons (eVar 0) aNil)) (qAnd (eChain (i2 leI) (i2 leI) (eNeg (eC (.int 1000000))) (eOp ixD (eVar 0) (eC (.int 0))) (eC (.int 1000000))) (eOp (i2 leI) (eOp ixD (eVar 0) (eC (.int 1))) (eC (.int 60))))))
noncomputable def m_is_row_share : List D → Option Out := fnSem 1 0 b_is_row_share
theorem sc_is_row_share : FnScope ["value"] ["value"] (defScope s_is_row_share) := ⟨rfl, rfl, rfl, by decide +kernel, rfl, by decide +kernel, by decide +kernel⟩
theorem ok_is_row_share (Z : Txt K mg) (Y : Txe K mg T) (C_is_share : Cl P w K mg base (CXf P w) T "is_share" ["value"] 2 m_is_share) {f : Addr} {fd : FuncData} (F : FunD K "is_row_share" "is_row_share" s_is_row_share .none f fd) (hm : mg "is_row_share" = some (.ref f)) (hb : Binds K fd ["value"] []) : Cl P w K mg base (CXf P w) T "is_row_share" ["value"] 3 m_is_row_share :=
  ⟨f, fd, fnx_okJ (fb := b_is_row_share) (k := 2) F sc_is_row_share (by kernel_rfl) (by kernel_rfl) (fun cdv A outer s H E hr =>
    (jb_one (js_ret (je_and (je_c C_is_share (hr.mono (by decide)) passF (by kernel_rfl) (ja_cons (jv 0) ja_nil)) (je_and (je_chain jp_le jp_le (je_neg (je_gi (by kernel_rfl) Z.g_MOST_TOP)) (je_ix (jv 0) je_int) (je_gi (by kernel_rfl) Z.g_MOST_TOP)) (je_one (je_cmp jp_le (je_ix (jv 0) je_int) (je_gi (by kernel_rfl) Z.g_MOST_BOTTOM) (nobehind _ (by decide) (by decide))))))))), hm, F.kp, hb⟩

/-! ### is_bead -/
noncomputable abbrev s_is_bead : Stmt := top 31
noncomputable def b_is_bead : Sv := (sSeq (sIf (qOr (qNot (qV (eIsi "tuple" (eVar 0)))) (eOp neD (eB lenB (aCons (eVar 0) aNil)) (eC (.int 3)))) (sRet (eC (.bl false))) sNext) (sSeq (sAsg (eVar 0) (gTp (gsCons (gNm 1) (gsCons (gNm 2) (gsCons (gNm 3) gsNil))))) (sRet (qAnd (eCall m_is_weight (aCons (eVar 1) aNil)) (qAnd (eCall m_is_row_share (aCons (eVar 2) aNil)) (eCall m_is_row_share (aCons (eVar 3) aNil)))))))
noncomputable def m_is_bead : List D → Option Out := fnSem 1 3 b_is_bead
theorem sc_is_bead : FnScope ["value", "weight", "place", "speed"] ["value"] (defScope s_is_bead) := ⟨rfl, rfl, rfl, by decide +kernel, rfl, by decide +kernel, by decide +kernel⟩
theorem ok_is_bead (Z : Txt K mg) (Y : Txe K mg T) (C_is_weight : Cl P w K mg base (CXf P w) T "is_weight" ["value"] 2 m_is_weight) (C_is_row_share : Cl P w K mg base (CXf P w) T "is_row_share" ["value"] 3 m_is_row_share) {f : Addr} {fd : FuncData} (F : FunD K "is_bead" "is_bead" s_is_bead .none f fd) (hm : mg "is_bead" = some (.ref f)) (hb : Binds K fd ["value"] []) : Cl P w K mg base (CXf P w) T "is_bead" ["value"] 4 m_is_bead :=
  ⟨f, fd, fnx_okJ (fb := b_is_bead) (k := 3) F sc_is_bead (by kernel_rfl) (by kernel_rfl) (fun cdv A outer s H E hr =>
    (jb_cons (js_if (JW.pt (jw_or (jt_not (jt_val (je_isi (jv 0) (by kernel_rfl) Z.n_isinstance (by kernel_rfl) Z.n_tuple (by decide +kernel)))) (jw_or1 (jt_cmp (jp_ne hr.units) (je_callB jc_len (by kernel_rfl) Z.n_len (by decide +kernel) (ja_cons (jv 0) ja_nil)) je_int (nobehind _ (by decide) (by decide)))))) (jb_one (js_ret je_bl)) jb_nil) (jb_cons (js_asg (jv 0) (jg_tup (by kernel_rfl) (jgs_cons (jg_name (i := 1) sc_is_bead.nd (by kernel_rfl) (Or.inl (by kernel_rfl))) (jgs_cons (jg_name (i := 2) sc_is_bead.nd (by kernel_rfl) (Or.inl (by kernel_rfl))) (jgs_cons (jg_name (i := 3) sc_is_bead.nd (by kernel_rfl) (Or.inl (by kernel_rfl))) jgs_nil))) (gl_cons (gl_cons (gl_cons gl_nil))))) (jb_one (js_ret (je_and (je_c C_is_weight (hr.mono (by decide)) passF (by kernel_rfl) (ja_cons (jv 1) ja_nil)) (je_and (je_c C_is_row_share (hr.mono (by decide)) passF (by kernel_rfl) (ja_cons (jv 2) ja_nil)) (je_one (je_c C_is_row_share (hr.mono (by decide)) passF (by kernel_rfl) (ja_cons (jv 3) ja_nil)))))))))), hm, F.kp, hb⟩

/-! ### compared -/
noncomputable abbrev s_compared : Stmt := top 19
noncomputable def b_compared : Sv := (sSeq (sAsg (eOp (i2 mulI) (eOp ixD (eVar 0) (eC (.int 0))) (eOp ixD (eVar 1) (eC (.int 1)))) (gNm 2)) (sSeq (sAsg (eOp (i2 mulI) (eOp ixD (eVar 1) (eC (.int 0))) (eOp ixD (eVar 0) (eC (.int 1)))) (gNm 3)) (sSeq (sIf (eOp (i2 gtI) (eVar 2) (eVar 3)) (sRet (eC (.int 1))) sNext) (sSeq (sIf (eOp (i2 ltI) (eVar 2) (eVar 3)) (sRet (eNeg (eC (.int 1)))) sNext) (sRet (eC (.int 0)))))))
noncomputable def m_compared : List D → Option Out := fnSem 2 2 b_compared
theorem sc_compared : FnScope ["one", "other", "left", "right"] ["one", "other"] (defScope s_compared) := ⟨rfl, rfl, rfl, by decide +kernel, rfl, by decide +kernel, by decide +kernel⟩
theorem ok_compared (Z : Txt K mg) (Y : Txe K mg T) {f : Addr} {fd : FuncData} (F : FunD K "compared" "compared" s_compared .none f fd) (hm : mg "compared" = some (.ref f)) (hb : Binds K fd ["one", "other"] []) : Cl P w K mg base (CXf P w) T "compared" ["one", "other"] 1 m_compared :=
  ⟨f, fd, fnx_okJ (fb := b_compared) (k := 0) F sc_compared (by kernel_rfl) (by kernel_rfl) (fun cdv A outer s H E hr =>
    (jb_cons (js_set (i := 2) sc_compared.nd (by kernel_rfl) (Or.inl (by kernel_rfl)) (je_op jp_mul (je_ix (jv 0) je_int) (je_ix (jv 1) je_int))) (jb_cons (js_set (i := 3) sc_compared.nd (by kernel_rfl) (Or.inl (by kernel_rfl)) (je_op jp_mul (je_ix (jv 1) je_int) (je_ix (jv 0) je_int))) (jb_cons (js_if (jt_cmp jp_gt (jv 2) (jv 3) (nobehind _ (by decide) (by decide))) (jb_one (js_ret je_int)) jb_nil) (jb_cons (js_if (jt_cmp jp_lt (jv 2) (jv 3) (nobehind _ (by decide) (by decide))) (jb_one (js_ret (je_neg je_int))) jb_nil) (jb_one (js_ret je_int))))))), hm, F.kp, hb⟩

/-! ### places_rise -/
noncomputable abbrev s_places_rise : Stmt := top 32
noncomputable def b_places_rise : Sv := (sRet (eB allB (aCons (eFr (lComp (wRng2 (aCons (eC (.int 1)) (aCons (eB lenB (aCons (eVar 0) aNil)) aNil))) (gNm 1) qYes (eOp (i2 ltI) (eCall m_compared (aCons (eOp ixD (eOp ixD (eVar 0) (eOp (i2 subI) (eVar 1) (eC (.int 1)))) (eC (.int 1))) (aCons (eOp ixD (eOp ixD (eVar 0) (eVar 1)) (eC (.int 1))) aNil))) (eC (.int 0))) [1])) aNil)))
noncomputable def m_places_rise : List D → Option Out := fnSem 1 1 b_places_rise
theorem sc_places_rise : FnScope ["beads", "at"] ["beads"] (defScope s_places_rise) := ⟨rfl, rfl, rfl, by decide +kernel, rfl, by decide +kernel, by decide +kernel⟩
theorem ok_places_rise (Z : Txt K mg) (Y : Txe K mg T) (C_compared : Cl P w K mg base (CXf P w) T "compared" ["one", "other"] 1 m_compared) {f : Addr} {fd : FuncData} (F : FunD K "places_rise" "places_rise" s_places_rise .none f fd) (hm : mg "places_rise" = some (.ref f)) (hb : Binds K fd ["beads"] []) : Cl P w K mg base (CXf P w) T "places_rise" ["beads"] 2 m_places_rise :=
  ⟨f, fd, fnx_okJ (fb := b_places_rise) (k := 1) F sc_places_rise (by kernel_rfl) (by kernel_rfl) (fun cdv A outer s H E hr =>
    (jb_one (js_ret (je_callB (jc_all (by kernel_rfl)) (by kernel_rfl) Z.n_all (by decide +kernel) (ja_cons (je_fr (jf_lc (own := [("at", 1)]) (by kernel_rfl) sc_places_rise.nd (ji_range2 (by kernel_rfl) Z.n_range (ja_cons je_int (ja_cons (je_callB jc_len (by kernel_rfl) Z.n_len (by decide +kernel) (ja_cons (jv 0 (hv := Or.inr (Or.inl (by kernel_rfl)))) ja_nil)) ja_nil))) (blkOk_by (by kernel_rfl)) (fun _ _ _ _ _ => (jg_name (i := 1) sc_places_rise.nd (by kernel_rfl) (Or.inl (by kernel_rfl)) (hf := Or.inr (by kernel_rfl)))) (fun _ _ _ _ _ => jts_nil) (fun _ _ _ _ _ => (je_cmp jp_lt (je_c C_compared (hr.mono (by decide)) passN (by kernel_rfl) (ja_cons (je_ix (je_ix (jv 0 (hv := Or.inr (Or.inl (by kernel_rfl)))) (je_op jp_sub (jv 1) je_int)) je_int) (ja_cons (je_ix (je_ix (jv 0 (hv := Or.inr (Or.inl (by kernel_rfl)))) (jv 1)) je_int) ja_nil))) je_int (nobehind _ (by decide) (by decide)))) (by decide))) ja_nil))))), hm, F.kp, hb⟩

/-! ### is_row -/
noncomputable abbrev s_is_row : Stmt := top 33
noncomputable def b_is_row : Sv := (sSeq (sIf (qOr (qNot (qV (eIsi "list" (eVar 0)))) (qNot (eChain (i2 leI) (i2 leI) (eC (.int 1)) (eB lenB (aCons (eVar 0) aNil)) (eC (.int 10))))) (sRet (eC (.bl false))) sNext) (sRet (qAnd (eB allB (aCons (eFr (lComp (wSeq (eVar 0)) (gNm 1) qYes (eCall m_is_bead (aCons (eVar 1) aNil)) [1])) aNil)) (eCall m_places_rise (aCons (eVar 0) aNil)))))
noncomputable def m_is_row : List D → Option Out := fnSem 1 1 b_is_row
theorem sc_is_row : FnScope ["value", "bead"] ["value"] (defScope s_is_row) := ⟨rfl, rfl, rfl, by decide +kernel, rfl, by decide +kernel, by decide +kernel⟩
theorem ok_is_row (Z : Txt K mg) (Y : Txe K mg T) (C_is_bead : Cl P w K mg base (CXf P w) T "is_bead" ["value"] 4 m_is_bead) (C_places_rise : Cl P w K mg base (CXf P w) T "places_rise" ["beads"] 2 m_places_rise) {f : Addr} {fd : FuncData} (F : FunD K "is_row" "is_row" s_is_row .none f fd) (hm : mg "is_row" = some (.ref f)) (hb : Binds K fd ["value"] []) : Cl P w K mg base (CXf P w) T "is_row" ["value"] 5 m_is_row :=
  ⟨f, fd, fnx_okJ (fb := b_is_row) (k := 4) F sc_is_row (by kernel_rfl) (by kernel_rfl) (fun cdv A outer s H E hr =>
    (jb_cons (js_if (JW.pt (jw_or (jt_not (jt_val (je_isi (jv 0) (by kernel_rfl) Z.n_isinstance (by kernel_rfl) Z.n_list (by decide +kernel)))) (jw_or1 (jt_not (jt_chain jp_le jp_le je_int (je_callB jc_len (by kernel_rfl) Z.n_len (by decide +kernel) (ja_cons (jv 0) ja_nil)) (je_gi (by kernel_rfl) Z.g_MOST_BEADS)))))) (jb_one (js_ret je_bl)) jb_nil) (jb_one (js_ret (je_and (je_callB (jc_all (by kernel_rfl)) (by kernel_rfl) Z.n_all (by decide +kernel) (ja_cons (je_fr (jf_lc (own := [("bead", 1)]) (by kernel_rfl) sc_is_row.nd (ji_list (jv 0)) (blkOk_by (by kernel_rfl)) (fun _ _ _ _ _ => (jg_name (i := 1) sc_is_row.nd (by kernel_rfl) (Or.inl (by kernel_rfl)) (hf := Or.inr (by kernel_rfl)))) (fun _ _ _ _ _ => jts_nil) (fun _ _ _ _ _ => (je_c C_is_bead (hr.mono (by decide)) passN (by kernel_rfl) (ja_cons (jv 1) ja_nil))) (by decide))) ja_nil)) (je_one (je_c C_places_rise (hr.mono (by decide)) passF (by kernel_rfl) (ja_cons (jv 0) ja_nil)))))))), hm, F.kp, hb⟩

/-! ### need_row -/
noncomputable abbrev s_need_row : Stmt := top 35
noncomputable def b_need_row : Sv := (sIf (qNot (qV (eCall m_is_row (aCons (eVar 0) aNil)))) sNever sNext)
noncomputable def m_need_row : List D → Option Out := fnSem 1 0 b_need_row
theorem sc_need_row : FnScope ["row"] ["row"] (defScope s_need_row) := ⟨rfl, rfl, rfl, by decide +kernel, rfl, by decide +kernel, by decide +kernel⟩
theorem ok_need_row (Z : Txt K mg) (Y : Txe K mg T) (C_is_row : Cl P w K mg base (CXf P w) T "is_row" ["value"] 5 m_is_row) {f : Addr} {fd : FuncData} (F : FunD K "need_row" "need_row" s_need_row .none f fd) (hm : mg "need_row" = some (.ref f)) (hb : Binds K fd ["row"] []) : Cl P w K mg base (CXf P w) T "need_row" ["row"] 6 m_need_row :=
  ⟨f, fd, fnx_okJ (fb := b_need_row) (k := 5) F sc_need_row (by kernel_rfl) (by kernel_rfl) (fun cdv A outer s H E hr =>
    (jb_one (js_if (jt_not (jt_val (je_c C_is_row (hr.mono (by decide)) passF (by kernel_rfl) (ja_cons (jv 0) ja_nil)))) (jb_one js_never) jb_nil))), hm, F.kp, hb⟩

/-! ### is_bead_of -/
noncomputable abbrev s_is_bead_of : Stmt := top 34
noncomputable def b_is_bead_of : Sv := (sRet (qAnd (eCall m_is_whole (aCons (eVar 1) aNil)) (eChain (i2 leI) (i2 ltI) (eC (.int 0)) (eVar 1) (eB lenB (aCons (eVar 0) aNil)))))
noncomputable def m_is_bead_of : List D → Option Out := fnSem 2 0 b_is_bead_of
theorem sc_is_bead_of : FnScope ["row", "bead"] ["row", "bead"] (defScope s_is_bead_of) := ⟨rfl, rfl, rfl, by decide +kernel, rfl, by decide +kernel, by decide +kernel⟩
theorem ok_is_bead_of (Z : Txt K mg) (Y : Txe K mg T) (C_is_whole : Cl P w K mg base (CXf P w) T "is_whole" ["value"] 1 m_is_whole) {f : Addr} {fd : FuncData} (F : FunD K "is_bead_of" "is_bead_of" s_is_bead_of .none f fd) (hm : mg "is_bead_of" = some (.ref f)) (hb : Binds K fd ["row", "bead"] []) : Cl P w K mg base (CXf P w) T "is_bead_of" ["row", "bead"] 2 m_is_bead_of :=
  ⟨f, fd, fnx_okJ (fb := b_is_bead_of) (k := 1) F sc_is_bead_of (by kernel_rfl) (by kernel_rfl) (fun cdv A outer s H E hr =>
    (jb_one (js_ret (je_and (je_c C_is_whole (hr.mono (by decide)) passF (by kernel_rfl) (ja_cons (jv 1) ja_nil)) (je_one (je_chain jp_le jp_lt je_int (jv 1) (je_callB jc_len (by kernel_rfl) Z.n_len (by decide +kernel) (ja_cons (jv 0) ja_nil)))))))), hm, F.kp, hb⟩

/-! ### need_bead -/
noncomputable abbrev s_need_bead : Stmt := top 36
noncomputable def b_need_bead : Sv := (sIf (qNot (qV (eCall m_is_bead_of (aCons (eVar 0) (aCons (eVar 1) aNil))))) sNever sNext)
noncomputable def m_need_bead : List D → Option Out := fnSem 2 0 b_need_bead
theorem sc_need_bead : FnScope ["row", "bead"] ["row", "bead"] (defScope s_need_bead) := ⟨rfl, rfl, rfl, by decide +kernel, rfl, by decide +kernel, by decide +kernel⟩
theorem ok_need_bead (Z : Txt K mg) (Y : Txe K mg T) (C_is_bead_of : Cl P w K mg base (CXf P w) T "is_bead_of" ["row", "bead"] 2 m_is_bead_of) {f : Addr} {fd : FuncData} (F : FunD K "need_bead" "need_bead" s_need_bead .none f fd) (hm : mg "need_bead" = some (.ref f)) (hb : Binds K fd ["row", "bead"] []) : Cl P w K mg base (CXf P w) T "need_bead" ["row", "bead"] 3 m_need_bead :=
  ⟨f, fd, fnx_okJ (fb := b_need_bead) (k := 2) F sc_need_bead (by kernel_rfl) (by kernel_rfl) (fun cdv A outer s H E hr =>
    (jb_one (js_if (jt_not (jt_val (je_c C_is_bead_of (hr.mono (by decide)) passF (by kernel_rfl) (ja_cons (jv 0) (ja_cons (jv 1) ja_nil))))) (jb_one js_never) jb_nil))), hm, F.kp, hb⟩

/-! ### Meet.__init__ -/
noncomputable abbrev s_Meet___init__ : Stmt := inClass (top 76) 0
theorem sc_Meet___init__ : FnScope ["self", "moment"] ["self", "moment"] (defScope s_Meet___init__) := ⟨rfl, rfl, rfl, by decide +kernel, rfl, by decide +kernel, by decide +kernel⟩
theorem ok_Meet___init__ (Z : Txt K mg) (Y : Txe K mg T) {f : Addr} {fd : FuncData} (F : FunD K "__init__" "Meet.__init__" s_Meet___init__ .none f fd) (hm : Mk K (oA T 3) f) (hb : Binds K fd ["self", "moment"] []) : ClI P w K mg base (CXf P w) (oA T 3) ["self", "moment"] 1 ["moment"] :=
  ⟨f, fd, init1_ok (k := 0) F sc_Meet___init__ (fun cdv A outer s H E => (pss_cons (ps_fld (pe_var (i := 0) (by kernel_rfl) (Or.inl (by kernel_rfl)) (by kernel_rfl) (by kernel_rfl)) (pe_var (i := 1) (by kernel_rfl) (Or.inl (by kernel_rfl)) (by kernel_rfl) (by kernel_rfl)) (by kernel_rfl)) pss_nil)), hm, hb⟩

/-! ### pair_meets -/
noncomputable abbrev s_pair_meets : Stmt := top 83
noncomputable def b_pair_meets : Sv := (sSeq (sExpr (eCall m_need_row (aCons (eVar 0) aNil))) (sSeq (sExpr (eCall m_need_bead (aCons (eVar 0) (aCons (eVar 1) aNil)))) (sSeq (sIf (eOp eqD (eVar 1) (eOp (i2 subI) (eB lenB (aCons (eVar 0) aNil)) (eC (.int 1)))) sNever sNext) (sSeq (sAsg (eCall m_runs_of (aCons (eVar 0) aNil)) (gNm 2)) (sSeq (sAsg (eCall m_wait_between (aCons (eOp ixD (eVar 2) (eVar 1)) (aCons (eOp ixD (eVar 2) (eOp (i2 addI) (eVar 1) (eC (.int 1)))) aNil))) (gNm 3)) (sSeq (sIf (eOp isD (eVar 3) (eC .non)) (sRet (eC (.obj 4 []))) sNext) (sRet (eMake 3 1 (aCons (eVar 3) aNil)))))))))
noncomputable def m_pair_meets : List D → Option Out := fnSem 2 2 b_pair_meets
theorem sc_pair_meets : FnScope ["row", "bead", "runs", "wait"] ["row", "bead"] (defScope s_pair_meets) := ⟨rfl, rfl, rfl, by decide +kernel, rfl, by decide +kernel, by decide +kernel⟩
theorem ok_pair_meets (Z : Txt K mg) (Y : Txe K mg T) (C_need_row : Cl P w K mg base (CXf P w) T "need_row" ["row"] 6 m_need_row) (C_need_bead : Cl P w K mg base (CXf P w) T "need_bead" ["row", "bead"] 3 m_need_bead) (C_runs_of : Cl P w K mg base (CXf P w) T "runs_of" ["row"] 1 m_runs_of) (C_wait_between : Cl P w K mg base (CXf P w) T "wait_between" ["one", "other"] 4 m_wait_between) (C_Meet___init__ : ClI P w K mg base (CXf P w) (oA T 3) ["self", "moment"] 1 ["moment"]) {f : Addr} {fd : FuncData} (F : FunD K "pair_meets" "pair_meets" s_pair_meets .none f fd) (hm : mg "pair_meets" = some (.ref f)) (hb : Binds K fd ["row", "bead"] []) : Cl P w K mg base (CXf P w) T "pair_meets" ["row", "bead"] 7 m_pair_meets :=
  ⟨f, fd, fnx_okJ (fb := b_pair_meets) (k := 6) F sc_pair_meets (by kernel_rfl) (by kernel_rfl) (fun cdv A outer s H E hr =>
    (jb_cons (js_expr (je_c C_need_row (hr.mono (by decide)) passF (by kernel_rfl) (ja_cons (jv 0) ja_nil))) (jb_cons (js_expr (je_c C_need_bead (hr.mono (by decide)) passF (by kernel_rfl) (ja_cons (jv 0) (ja_cons (jv 1) ja_nil)))) (jb_cons (js_if (jt_cmp (jp_eq hr.units) (jv 1) (je_op jp_sub (je_callB jc_len (by kernel_rfl) Z.n_len (by decide +kernel) (ja_cons (jv 0) ja_nil)) je_int) (nobehind _ (by decide) (by decide))) (jb_one js_never) jb_nil) (jb_cons (js_set (i := 2) sc_pair_meets.nd (by kernel_rfl) (Or.inl (by kernel_rfl)) (je_c C_runs_of (hr.mono (by decide)) passF (by kernel_rfl) (ja_cons (jv 0) ja_nil))) (jb_cons (js_set (i := 3) sc_pair_meets.nd (by kernel_rfl) (Or.inl (by kernel_rfl)) (je_c C_wait_between (hr.mono (by decide)) passF (by kernel_rfl) (ja_cons (je_ix (jv 2) (jv 1)) (ja_cons (je_ix (jv 2) (je_op jp_add (jv 1) je_int)) ja_nil)))) (jb_cons (js_if (jt_cmp jp_is (jv 3) je_non (nobehind _ (by decide) (by decide))) (jb_one (js_ret (je_mk0 Y.o_Never Y.mk_Never (by kernel_rfl)))) jb_nil) (jb_one (js_ret (je_mk Y.o_Meet C_Meet___init__ (hr.mono (by decide)) (by kernel_rfl) passF (ja_cons (jv 3) ja_nil))))))))))), hm, F.kp, hb⟩

/-! ### _law_whole -/
noncomputable abbrev s_q_whole : Stmt := top 92
noncomputable def b_q_whole : Sv := (sRet (qAnd (eIsi "int" (eVar 0)) (qNot (eIsi "bool" (eVar 0)))))
noncomputable def m_q_whole : List D → Option Out := fnSem 1 0 b_q_whole
theorem sc_q_whole : FnScope ["_law_found"] ["_law_found"] (defScope s_q_whole) := ⟨rfl, rfl, rfl, by decide +kernel, rfl, by decide +kernel, by decide +kernel⟩
theorem ok_q_whole (Z : Txt K mg) (Y : Txe K mg T) {f : Addr} {fd : FuncData} (F : FunD K "_law_whole" "_law_whole" s_q_whole .none f fd) (hm : mg "_law_whole" = some (.ref f)) (hb : Binds K fd ["_law_found"] []) : Cl P w K mg base (CXf P w) T "_law_whole" ["_law_found"] 1 m_q_whole :=
  ⟨f, fd, fnx_okJ (fb := b_q_whole) (k := 0) F sc_q_whole (by kernel_rfl) (by kernel_rfl) (fun cdv A outer s H E hr =>
    (jb_one (js_ret (je_and (je_isi (jv 0) (by kernel_rfl) Z.n_isinstance (by kernel_rfl) Z.n_int (by decide +kernel)) (je_one (je_not (je_isi (jv 0) (by kernel_rfl) Z.n_isinstance (by kernel_rfl) Z.n_bool (by decide +kernel)))))))), hm, F.kp, hb⟩

/-! ### _law_is_share -/
noncomputable abbrev s_q_is_share : Stmt := top 93
noncomputable def b_q_is_share : Sv := (sSeq (sIf (qOr (qNot (qV (eIsi "tuple" (eVar 0)))) (qOr (eOp neD (eB lenB (aCons (eVar 0) aNil)) (eC (.int 2))) (qOr (qNot (qV (eCall m_q_whole (aCons (eOp ixD (eVar 0) (eC (.int 0))) aNil)))) (qNot (qV (eCall m_q_whole (aCons (eOp ixD (eVar 0) (eC (.int 1))) aNil))))))) (sRet (eC (.bl false))) sNext) (sRet (qAnd (eOp (i2 gtI) (eOp ixD (eVar 0) (eC (.int 1))) (eC (.int 0))) (eOp eqD (eCall m_q_low (aCons (eOp ixD (eVar 0) (eC (.int 0))) (aCons (eOp ixD (eVar 0) (eC (.int 1))) aNil))) (eVar 0)))))
noncomputable def m_q_is_share : List D → Option Out := fnSem 1 0 b_q_is_share
theorem sc_q_is_share : FnScope ["_law_found"] ["_law_found"] (defScope s_q_is_share) := ⟨rfl, rfl, rfl, by decide +kernel, rfl, by decide +kernel, by decide +kernel⟩
theorem ok_q_is_share (Z : Txt K mg) (Y : Txe K mg T) (C_q_whole : Cl P w K mg base (CXf P w) T "_law_whole" ["_law_found"] 1 m_q_whole) (C_q_low : Cl P w K mg base (CXf P w) T "_law_low" ["_law_top", "_law_bottom"] 1 m_q_low) {f : Addr} {fd : FuncData} (F : FunD K "_law_is_share" "_law_is_share" s_q_is_share .none f fd) (hm : mg "_law_is_share" = some (.ref f)) (hb : Binds K fd ["_law_found"] []) : Cl P w K mg base (CXf P w) T "_law_is_share" ["_law_found"] 2 m_q_is_share :=
  ⟨f, fd, fnx_okJ (fb := b_q_is_share) (k := 1) F sc_q_is_share (by kernel_rfl) (by kernel_rfl) (fun cdv A outer s H E hr =>
    (jb_cons (js_if (JW.pt (jw_or (jt_not (jt_val (je_isi (jv 0) (by kernel_rfl) Z.n_isinstance (by kernel_rfl) Z.n_tuple (by decide +kernel)))) (jw_or (jt_cmp (jp_ne hr.units) (je_callB jc_len (by kernel_rfl) Z.n_len (by decide +kernel) (ja_cons (jv 0) ja_nil)) je_int (nobehind _ (by decide) (by decide))) (jw_or (jt_not (jt_val (je_c C_q_whole (hr.mono (by decide)) passF (by kernel_rfl) (ja_cons (je_ix (jv 0) je_int) ja_nil)))) (jw_or1 (jt_not (jt_val (je_c C_q_whole (hr.mono (by decide)) passF (by kernel_rfl) (ja_cons (je_ix (jv 0) je_int) ja_nil))))))))) (jb_one (js_ret je_bl)) jb_nil) (jb_one (js_ret (je_and (je_cmp jp_gt (je_ix (jv 0) je_int) je_int (nobehind _ (by decide) (by decide))) (je_one (je_cmp (jp_eq hr.units) (je_c C_q_low (hr.mono (by decide)) passF (by kernel_rfl) (ja_cons (je_ix (jv 0) je_int) (ja_cons (je_ix (jv 0) je_int) ja_nil))) (jv 0) (nobehind _ (by decide) (by decide))))))))), hm, F.kp, hb⟩

/-! ### _law_by -/
noncomputable abbrev s_q_by : Stmt := top 88
noncomputable def b_q_by : Sv := (sRet (eCall m_q_low (aCons (eOp (i2 mulI) (eOp ixD (eVar 0) (eC (.int 0))) (eOp ixD (eVar 1) (eC (.int 0)))) (aCons (eOp (i2 mulI) (eOp ixD (eVar 0) (eC (.int 1))) (eOp ixD (eVar 1) (eC (.int 1)))) aNil))))
noncomputable def m_q_by : List D → Option Out := fnSem 2 0 b_q_by
theorem sc_q_by : FnScope ["_law_one", "_law_other"] ["_law_one", "_law_other"] (defScope s_q_by) := ⟨rfl, rfl, rfl, by decide +kernel, rfl, by decide +kernel, by decide +kernel⟩
theorem ok_q_by (Z : Txt K mg) (Y : Txe K mg T) (C_q_low : Cl P w K mg base (CXf P w) T "_law_low" ["_law_top", "_law_bottom"] 1 m_q_low) {f : Addr} {fd : FuncData} (F : FunD K "_law_by" "_law_by" s_q_by .none f fd) (hm : mg "_law_by" = some (.ref f)) (hb : Binds K fd ["_law_one", "_law_other"] []) : Cl P w K mg base (CXf P w) T "_law_by" ["_law_one", "_law_other"] 2 m_q_by :=
  ⟨f, fd, fnx_okJ (fb := b_q_by) (k := 1) F sc_q_by (by kernel_rfl) (by kernel_rfl) (fun cdv A outer s H E hr =>
    (jb_one (js_ret (je_c C_q_low (hr.mono (by decide)) passF (by kernel_rfl) (ja_cons (je_op jp_mul (je_ix (jv 0) je_int) (je_ix (jv 1) je_int)) (ja_cons (je_op jp_mul (je_ix (jv 0) je_int) (je_ix (jv 1) je_int)) ja_nil)))))), hm, F.kp, hb⟩

/-! ### _law_there -/
noncomputable abbrev s_q_there : Stmt := top 90
noncomputable def b_q_there : Sv := (sRet (eCall m_q_sum (aCons (eOp ixD (eVar 0) (eC (.int 0))) (aCons (eCall m_q_by (aCons (eOp ixD (eVar 0) (eC (.int 1))) (aCons (eVar 1) aNil))) aNil))))
noncomputable def m_q_there : List D → Option Out := fnSem 2 0 b_q_there
theorem sc_q_there : FnScope ["_law_line", "_law_moment"] ["_law_line", "_law_moment"] (defScope s_q_there) := ⟨rfl, rfl, rfl, by decide +kernel, rfl, by decide +kernel, by decide +kernel⟩
theorem ok_q_there (Z : Txt K mg) (Y : Txe K mg T) (C_q_sum : Cl P w K mg base (CXf P w) T "_law_sum" ["_law_one", "_law_other"] 2 m_q_sum) (C_q_by : Cl P w K mg base (CXf P w) T "_law_by" ["_law_one", "_law_other"] 2 m_q_by) {f : Addr} {fd : FuncData} (F : FunD K "_law_there" "_law_there" s_q_there .none f fd) (hm : mg "_law_there" = some (.ref f)) (hb : Binds K fd ["_law_line", "_law_moment"] []) : Cl P w K mg base (CXf P w) T "_law_there" ["_law_line", "_law_moment"] 3 m_q_there :=
  ⟨f, fd, fnx_okJ (fb := b_q_there) (k := 2) F sc_q_there (by kernel_rfl) (by kernel_rfl) (fun cdv A outer s H E hr =>
    (jb_one (js_ret (je_c C_q_sum (hr.mono (by decide)) passF (by kernel_rfl) (ja_cons (je_ix (jv 0) je_int) (ja_cons (je_c C_q_by (hr.mono (by decide)) passF (by kernel_rfl) (ja_cons (je_ix (jv 0) je_int) (ja_cons (jv 1) ja_nil))) ja_nil)))))), hm, F.kp, hb⟩

/-! ### _law_due -/
noncomputable abbrev s_q_due : Stmt := top 94
noncomputable def b_q_due : Sv := (sSeq (sPar 3 4 (eSlT (eOp ixD (eVar 0) (eVar 1)) (oSome (eC (.int 1))) oNone) (eSlT (eOp ixD (eVar 0) (eOp (i2 addI) (eVar 1) (eC (.int 1)))) (oSome (eC (.int 1))) oNone)) (sSeq (sIf (qV (eIso (tbL [(3, false), (4, true)]) (eVar 2))) (sRet (eOp (i2 leI) (eCall m_q_far (aCons (eOp ixD (eVar 3) (eC (.int 1))) (aCons (eOp ixD (eVar 4) (eC (.int 1))) aNil))) (eC (.int 0)))) sNext) (sSeq (sIf (qOr (eOp (i2 leI) (eCall m_q_far (aCons (eOp ixD (eVar 3) (eC (.int 1))) (aCons (eOp ixD (eVar 4) (eC (.int 1))) aNil))) (eC (.int 0))) (qNot (qV (eCall m_q_is_share (aCons (eFld 3 0 (eVar 2)) aNil))))) (sRet (eC (.bl false))) sNext) (sRet (eOp eqD (eCall m_q_there (aCons (eVar 3) (aCons (eFld 3 0 (eVar 2)) aNil))) (eCall m_q_there (aCons (eVar 4) (aCons (eFld 3 0 (eVar 2)) aNil))))))))
noncomputable def m_q_due : List D → Option Out := fnSem 3 2 b_q_due
theorem sc_q_due : FnScope ["_law_row_here", "_law_bead", "_law_found", "_law_near", "_law_far_here"] ["_law_row_here", "_law_bead", "_law_found"] (defScope s_q_due) := ⟨rfl, rfl, rfl, by decide +kernel, rfl, by decide +kernel, by decide +kernel⟩
theorem ok_q_due (Z : Txt K mg) (Y : Txe K mg T) (C_q_far : Cl P w K mg base (CXf P w) T "_law_far" ["_law_one", "_law_other"] 1 m_q_far) (C_q_is_share : Cl P w K mg base (CXf P w) T "_law_is_share" ["_law_found"] 2 m_q_is_share) (C_q_there : Cl P w K mg base (CXf P w) T "_law_there" ["_law_line", "_law_moment"] 3 m_q_there) {f : Addr} {fd : FuncData} (F : FunD K "_law_due" "_law_due" s_q_due .none f fd) (hm : mg "_law_due" = some (.ref f)) (hb : Binds K fd ["_law_row_here", "_law_bead", "_law_found"] []) : Cl P w K mg base (CXf P w) T "_law_due" ["_law_row_here", "_law_bead", "_law_found"] 4 m_q_due :=
  ⟨f, fd, fnx_okJ (fb := b_q_due) (k := 3) F sc_q_due (by kernel_rfl) (by kernel_rfl) (fun cdv A outer s H E hr =>
    (jb_cons (js_par (i := 3) (j := 4) (by kernel_rfl) sc_q_due.nd (by kernel_rfl) (by kernel_rfl) (by decide) (by kernel_rfl) (by kernel_rfl) (je_slT (je_ix (jv 0) (jv 1)) (jo_some je_int) jo_none) (je_slT (je_ix (jv 0) (je_op jp_add (jv 1) je_int)) (jo_some je_int) jo_none)) (jb_cons (js_if (jt_val (je_iso Y.q_Never (jv 2) (by kernel_rfl) Z.n_isinstance (by kernel_rfl))) (jb_one (js_ret (je_cmp jp_le (je_c C_q_far (hr.mono (by decide)) passF (by kernel_rfl) (ja_cons (je_ix (jv 3) je_int) (ja_cons (je_ix (jv 4) je_int) ja_nil))) je_int (nobehind _ (by decide) (by decide))))) jb_nil) (jb_cons (js_if (JW.pt (jw_or (jt_cmp jp_le (je_c C_q_far (hr.mono (by decide)) passF (by kernel_rfl) (ja_cons (je_ix (jv 3) je_int) (ja_cons (je_ix (jv 4) je_int) ja_nil))) je_int (nobehind _ (by decide) (by decide))) (jw_or1 (jt_not (jt_val (je_c C_q_is_share (hr.mono (by decide)) passF (by kernel_rfl) (ja_cons (je_fld Y.o_Meet (jv 2) (i := 0) (by kernel_rfl)) ja_nil))))))) (jb_one (js_ret je_bl)) jb_nil) (jb_one (js_ret (je_cmp (jp_eq hr.units) (je_c C_q_there (hr.mono (by decide)) passF (by kernel_rfl) (ja_cons (jv 3) (ja_cons (je_fld Y.o_Meet (jv 2) (i := 0) (by kernel_rfl)) ja_nil))) (je_c C_q_there (hr.mono (by decide)) passF (by kernel_rfl) (ja_cons (jv 4) (ja_cons (je_fld Y.o_Meet (jv 2) (i := 0) (by kernel_rfl)) ja_nil))) (nobehind _ (by decide) (by decide))))))))), hm, F.kp, hb⟩

/-! ### _law_right -/
noncomputable abbrev s_q_right : Stmt := top 95
noncomputable def l1_q_right : Sv := (sIf (eOp neD (eMethU [(3, m_Meet_shows), (4, m_Never_shows)] (eVar 10) (aCons (eVar 6) (aCons (eVar 1) aNil))) (eCall m_q_due (aCons (eVar 6) (aCons (eVar 1) (aCons (eVar 10) aNil))))) (sRet (eC (.bl false))) sNext)
noncomputable def l2_q_right : Sv := (sSeq (sAsg (eIf (qV (eVar 3)) (eCall m_q_by (aCons (eFld 3 0 (eVar 10)) (aCons (eVar 7) aNil))) (eVar 7)) (gNm 12)) (sSeq (sAsg (eCall m_q_far (aCons (eCall m_q_there (aCons (eVar 8) (aCons (eVar 12) aNil))) (aCons (eCall m_q_there (aCons (eVar 9) (aCons (eVar 12) aNil))) aNil))) (gNm 13)) (sIf (qOr (qAnd (eOp (i2 geI) (eVar 13) (eC (.int 0))) (qOr (qNot (qV (eVar 3))) (eOp (i2 ltI) (eOp ixD (eVar 7) (eC (.int 0))) (eOp ixD (eVar 7) (eC (.int 1)))))) (qAnd (eOp (i2 leI) (eVar 13) (eC (.int 0))) (qAnd (qV (eVar 3)) (eOp (i2 gtI) (eOp ixD (eVar 7) (eC (.int 0))) (eOp ixD (eVar 7) (eC (.int 1))))))) (sRet (eC (.bl false))) sNext)))
noncomputable def b_q_right : Sv := (sSeq (sPar 8 9 (eSlT (eOp ixD (eVar 0) (eVar 1)) (oSome (eC (.int 1))) oNone) (eSlT (eOp ixD (eVar 0) (eOp (i2 addI) (eVar 1) (eC (.int 1)))) (oSome (eC (.int 1))) oNone)) (sSeq (sAsg (eOp (i2 gtI) (eCall m_q_far (aCons (eOp ixD (eVar 8) (eC (.int 1))) (aCons (eOp ixD (eVar 9) (eC (.int 1))) aNil))) (eC (.int 0))) (gNm 3)) (sSeq (sPar 10 11 (eCall m_pair_meets (aCons (eVar 0) (aCons (eVar 1) aNil))) (eCall m_pair_meets (aCons (eVar 0) (aCons (eVar 1) aNil)))) (sSeq (sAsg (eFr (lLst (aCons (eIso (tbL [(3, true), (4, false)]) (eVar 10)) (aCons (eIso (tbL [(3, false), (4, true)]) (eVar 10)) aNil)))) (gNm 4)) (sSeq (sAsg (eFr (lLst (aCons (eIso (tbL [(3, false), (4, false)]) (eVar 10)) (aCons (eIso (tbL [(3, false), (4, false)]) (eVar 10)) (aCons (eIso (tbL [(3, false), (4, false)]) (eVar 10)) (aCons (eIso (tbL [(3, false), (4, false)]) (eVar 10)) aNil)))))) (gNm 5)) (sSeq (sIf (qOr (qNot (qV (eIso (tbL [(3, true), (4, true)]) (eVar 10)))) (qOr (eOp neD (eVar 4) (eFr (lLst (aCons (eVar 3) (aCons (qNot (eVar 3)) aNil))))) (qV (eB anyB (aCons (eVar 5) aNil))))) (sRet (eC (.bl false))) sNext) (sSeq (sIf (qOr (qNot (qV (eCall m_q_due (aCons (eVar 0) (aCons (eVar 1) (aCons (eVar 10) aNil)))))) (qOr (qNot (qV (eCall m_q_due (aCons (eVar 0) (aCons (eVar 1) (aCons (eVar 11) aNil)))))) (eOp isntD (eMethU [(3, m_Meet_shows), (4, m_Never_shows)] (eVar 10) (aCons (eVar 0) (aCons (eVar 1) aNil))) (eC (.bl true))))) (sRet (eC (.bl false))) sNext) (sSeq (sFor (wSeq (eVar 2)) (gNm 6) l1_q_right) (sSeq (sIf (qAnd (qV (eVar 3)) (eOp (i2 leI) (eOp ixD (eFld 3 0 (eVar 10)) (eC (.int 0))) (eC (.int 0)))) (sRet (eC (.bl false))) sNext) (sSeq (sFor (wSeq (eFr (lLst (aCons (eTup (aCons (eC (.int 1)) (aCons (eC (.int 2)) aNil))) (aCons (eTup (aCons (eC (.int 0)) (aCons (eC (.int 1)) aNil))) (aCons (eTup (aCons (eC (.int 3)) (aCons (eC (.int 2)) aNil))) (aCons (eTup (aCons (eC (.int 7)) (aCons (eC (.int 1)) aNil))) aNil))))))) (gNm 7) l2_q_right) (sRet (eC (.bl true)))))))))))))
noncomputable def m_q_right : List D → Option Out := fnSem 3 11 b_q_right
theorem sc_q_right : FnScope ["_law_row_here", "_law_bead", "_law_others", "_law_faster", "_law_kinds", "_law_wrong", "_law_other", "_law_much", "_law_near", "_law_far_here", "_law_found", "_law_again", "_law_moment", "_law_gap"] ["_law_row_here", "_law_bead", "_law_others"] (defScope s_q_right) := ⟨rfl, rfl, rfl, by decide +kernel, rfl, by decide +kernel, by decide +kernel⟩
theorem ok_q_right (Z : Txt K mg) (Y : Txe K mg T) (C_q_far : Cl P w K mg base (CXf P w) T "_law_far" ["_law_one", "_law_other"] 1 m_q_far) (C_pair_meets : Cl P w K mg base (CXf P w) T "pair_meets" ["row", "bead"] 7 m_pair_meets) (C_q_due : Cl P w K mg base (CXf P w) T "_law_due" ["_law_row_here", "_law_bead", "_law_found"] 4 m_q_due) (C_Meet_shows : ClM P w K mg base (CXf P w) T (oA T 3) "shows" ["self", "row", "bead"] 5 m_Meet_shows) (C_Never_shows : ClM P w K mg base (CXf P w) T (oA T 4) "shows" ["self", "row", "bead"] 5 m_Never_shows) (C_q_by : Cl P w K mg base (CXf P w) T "_law_by" ["_law_one", "_law_other"] 2 m_q_by) (C_q_there : Cl P w K mg base (CXf P w) T "_law_there" ["_law_line", "_law_moment"] 3 m_q_there) {f : Addr} {fd : FuncData} (F : FunD K "_law_right" "_law_right" s_q_right .none f fd) (hm : mg "_law_right" = some (.ref f)) (hb : Binds K fd ["_law_row_here", "_law_bead", "_law_others"] []) : Cl P w K mg base (CXf P w) T "_law_right" ["_law_row_here", "_law_bead", "_law_others"] 8 m_q_right :=
  ⟨f, fd, fnx_okJ (fb := b_q_right) (k := 7) F sc_q_right (by kernel_rfl) (by kernel_rfl) (fun cdv A outer s H E hr =>
    (jb_cons (js_par (i := 8) (j := 9) (by kernel_rfl) sc_q_right.nd (by kernel_rfl) (by kernel_rfl) (by decide) (by kernel_rfl) (by kernel_rfl) (je_slT (je_ix (jv 0) (jv 1)) (jo_some je_int) jo_none) (je_slT (je_ix (jv 0) (je_op jp_add (jv 1) je_int)) (jo_some je_int) jo_none)) (jb_cons (js_set (i := 3) sc_q_right.nd (by kernel_rfl) (Or.inl (by kernel_rfl)) (je_cmp jp_gt (je_c C_q_far (hr.mono (by decide)) passF (by kernel_rfl) (ja_cons (je_ix (jv 8) je_int) (ja_cons (je_ix (jv 9) je_int) ja_nil))) je_int (nobehind _ (by decide) (by decide)))) (jb_cons (js_par (i := 10) (j := 11) (by kernel_rfl) sc_q_right.nd (by kernel_rfl) (by kernel_rfl) (by decide) (by kernel_rfl) (by kernel_rfl) (je_c C_pair_meets (hr.mono (by decide)) passF (by kernel_rfl) (ja_cons (jv 0) (ja_cons (jv 1) ja_nil))) (je_c C_pair_meets (hr.mono (by decide)) passF (by kernel_rfl) (ja_cons (jv 0) (ja_cons (jv 1) ja_nil)))) (jb_cons (js_set (i := 4) sc_q_right.nd (by kernel_rfl) (Or.inl (by kernel_rfl)) (je_fr (jf_lst (ja_cons (je_iso Y.q_Meet (jv 10) (by kernel_rfl) Z.n_isinstance (by kernel_rfl)) (ja_cons (je_iso Y.q_Never (jv 10) (by kernel_rfl) Z.n_isinstance (by kernel_rfl)) ja_nil))))) (jb_cons (js_set (i := 5) sc_q_right.nd (by kernel_rfl) (Or.inl (by kernel_rfl)) (je_fr (jf_lst (ja_cons (je_iso Y.q_One (jv 10) (by kernel_rfl) Z.n_isinstance (by kernel_rfl)) (ja_cons (je_iso Y.q_Parted (jv 10) (by kernel_rfl) Z.n_isinstance (by kernel_rfl)) (ja_cons (je_iso Y.q_Right (jv 10) (by kernel_rfl) Z.n_isinstance (by kernel_rfl)) (ja_cons (je_iso Y.q_Wrong (jv 10) (by kernel_rfl) Z.n_isinstance (by kernel_rfl)) ja_nil))))))) (jb_cons (js_if (JW.pt (jw_or (jt_not (jt_val (je_iso Y.q_Answer (jv 10) (by kernel_rfl) Z.n_isinstance (by kernel_rfl)))) (jw_or (jt_cmp (jp_ne hr.units) (jv 4) (je_fr (jf_lst (ja_cons (jv 3) (ja_cons (je_not (jv 3)) ja_nil)))) (nobehind _ (by decide) (by decide))) (jw_or1 (jt_val (je_callB (jc_any (by kernel_rfl)) (by kernel_rfl) Z.n_any (by decide +kernel) (ja_cons (jv 5) ja_nil))))))) (jb_one (js_ret je_bl)) jb_nil) (jb_cons (js_if (JW.pt (jw_or (jt_not (jt_val (je_c C_q_due (hr.mono (by decide)) passF (by kernel_rfl) (ja_cons (jv 0) (ja_cons (jv 1) (ja_cons (jv 10) ja_nil)))))) (jw_or (jt_not (jt_val (je_c C_q_due (hr.mono (by decide)) passF (by kernel_rfl) (ja_cons (jv 0) (ja_cons (jv 1) (ja_cons (jv 11) ja_nil)))))) (jw_or1 (jt_cmp jp_isnt (je_methU (k := 5) (jv 10) (mt_cons Y.o_Meet C_Meet_shows (by decide) (by decide) (mt_cons Y.o_Never C_Never_shows (by decide) (by decide) mt_nil)) (hr.mono (by decide)) passF (ja_cons (jv 0) (ja_cons (jv 1) ja_nil))) je_bl (nobehind _ (by decide) (by decide))))))) (jb_one (js_ret je_bl)) jb_nil) (jb_cons (js_for passL (by kernel_rfl) (ji_list (jv 2)) (jg_name (i := 6) sc_q_right.nd (by kernel_rfl) (Or.inl (by kernel_rfl))) (jb_one (js_if (jt_cmp (jp_ne hr.units) (je_methU (k := 5) (jv 10) (mt_cons Y.o_Meet C_Meet_shows (by decide) (by decide) (mt_cons Y.o_Never C_Never_shows (by decide) (by decide) mt_nil)) (hr.mono (by decide)) passF (ja_cons (jv 6) (ja_cons (jv 1) ja_nil))) (je_c C_q_due (hr.mono (by decide)) passF (by kernel_rfl) (ja_cons (jv 6) (ja_cons (jv 1) (ja_cons (jv 10) ja_nil)))) (nobehind _ (by decide) (by decide))) (jb_one (js_ret je_bl)) jb_nil))) (jb_cons (js_if (JW.pt (jw_and (jt_val (jv 3)) (jw_and1 (jt_cmp jp_le (je_ix (je_fld Y.o_Meet (jv 10) (i := 0) (by kernel_rfl)) je_int) je_int (nobehind _ (by decide) (by decide)))))) (jb_one (js_ret je_bl)) jb_nil) (jb_cons (js_for passL (by kernel_rfl) (ji_list (je_fr (jf_lst (ja_cons (je_tup (ja_cons je_int (ja_cons je_int ja_nil))) (ja_cons (je_tup (ja_cons je_int (ja_cons je_int ja_nil))) (ja_cons (je_tup (ja_cons je_int (ja_cons je_int ja_nil))) (ja_cons (je_tup (ja_cons je_int (ja_cons je_int ja_nil))) ja_nil))))))) (jg_name (i := 7) sc_q_right.nd (by kernel_rfl) (Or.inl (by kernel_rfl))) (jb_cons (js_set (i := 12) sc_q_right.nd (by kernel_rfl) (Or.inl (by kernel_rfl)) (je_if (jt_val (jv 3)) (je_c C_q_by (hr.mono (by decide)) passF (by kernel_rfl) (ja_cons (je_fld Y.o_Meet (jv 10) (i := 0) (by kernel_rfl)) (ja_cons (jv 7) ja_nil))) (jv 7))) (jb_cons (js_set (i := 13) sc_q_right.nd (by kernel_rfl) (Or.inl (by kernel_rfl)) (je_c C_q_far (hr.mono (by decide)) passF (by kernel_rfl) (ja_cons (je_c C_q_there (hr.mono (by decide)) passF (by kernel_rfl) (ja_cons (jv 8) (ja_cons (jv 12) ja_nil))) (ja_cons (je_c C_q_there (hr.mono (by decide)) passF (by kernel_rfl) (ja_cons (jv 9) (ja_cons (jv 12) ja_nil))) ja_nil)))) (jb_one (js_if (JW.pt (jw_or (JW.pt (jw_and (jt_cmp jp_ge (jv 13) je_int (nobehind _ (by decide) (by decide))) (jw_and1 (JW.pt (jw_or (jt_not (jt_val (jv 3))) (jw_or1 (jt_cmp jp_lt (je_ix (jv 7) je_int) (je_ix (jv 7) je_int) (nobehind _ (by decide) (by decide))))))))) (jw_or1 (JW.pt (jw_and (jt_cmp jp_le (jv 13) je_int (nobehind _ (by decide) (by decide))) (jw_and (jt_val (jv 3)) (jw_and1 (jt_cmp jp_gt (je_ix (jv 7) je_int) (je_ix (jv 7) je_int) (nobehind _ (by decide) (by decide)))))))))) (jb_one (js_ret je_bl)) jb_nil))))) (jb_one (js_ret je_bl))))))))))))), hm, F.kp, hb⟩

/-! ### law -/
noncomputable abbrev s_law : Stmt := top 96
noncomputable def l1_law : Sv := (sIf (qOr (qNot (qV (eCall m_q_right (aCons (eVar 2) (aCons (eVar 5) (aCons (eIf (qV (eVar 4)) (eFr (lLst (aCons (eVar 3) aNil))) (eFr (lLst aNil))) aNil)))))) (qAnd (qV (eVar 4)) (qNot (qV (eCall m_q_right (aCons (eVar 3) (aCons (eVar 5) (aCons (eFr (lLst (aCons (eVar 2) aNil))) aNil)))))))) (sRet (eC (.bl false))) sNext)
noncomputable def l2_law : Sv := (sSeq (sAsg (eCall m_q_number (aCons (eVar 8) (aCons (eOp (i2 addI) (eVar 7) (eC (.int 5))) (aCons (eVar 1) aNil)))) (gNm 9)) (sSeq (sAsg (eTup (aCons (eC (.int 1)) (aCons (eTup (aCons (eC (.int 0)) (aCons (eC (.int 1)) aNil))) (aCons (eCall m_q_low (aCons (eOp (i2 subI) (eOp (i2 modI) (eVar 9) (eC (.int 9))) (eC (.int 4))) (aCons (eOp (i2 addI) (eC (.int 1)) (eOp (i2 modI) (eOp (i2 divI) (eVar 9) (eC (.int 9))) (eC (.int 3)))) aNil))) aNil)))) (gNm 10)) (sSeq (sAsg (eCall m_q_low (aCons (eOp (i2 addI) (eC (.int 1)) (eOp (i2 modI) (eOp (i2 divI) (eVar 9) (eC (.int 27))) (eC (.int 50)))) (aCons (eOp (i2 addI) (eC (.int 1)) (eOp (i2 modI) (eOp (i2 divI) (eVar 9) (eC (.int 7))) (eC (.int 5)))) aNil))) (gNm 11)) (sSeq (sAsg (eTup (aCons (eC (.int 2)) (aCons (eVar 11) (aCons (eCall m_q_low (aCons (eOp (i2 subI) (eOp (i2 modI) (eOp (i2 divI) (eVar 9) (eC (.int 11))) (eC (.int 9))) (eC (.int 4))) (aCons (eOp (i2 addI) (eC (.int 1)) (eOp (i2 modI) (eOp (i2 divI) (eVar 9) (eC (.int 99))) (eC (.int 3)))) aNil))) aNil)))) (gNm 12)) (sIf (qNot (qV (eCall m_q_right (aCons (eFr (lLst (aCons (eVar 10) (aCons (eVar 12) aNil)))) (aCons (eC (.int 0)) (aCons (eFr (lLst (aCons (eFr (lLst (aCons (eVar 10) (aCons (eTup (aCons (eC (.int 2)) (aCons (eOp ixD (eVar 12) (eC (.int 1))) (aCons (eOp ixD (eVar 10) (eC (.int 2))) aNil)))) aNil)))) aNil))) aNil)))))) (sRet (eC (.bl false))) sNext)))))
noncomputable def b_law : Sv := (sSeq (sAsg (eB sumB (aCons (eFr (lSlice (eVar 0) oNone (oSome (eC (.int 63))))) aNil)) (gNm 1)) (sSeq (sAsg (eCall (withD 10 m_q_row) (aCons (eVar 0) (aCons (eC (.int 0)) (aCons (eC (.bl false)) aNil)))) (gNm 2)) (sSeq (sOwn (lComp (wEnum (aCons (eVar 2) aNil)) (gTp (gsCons (gNm 7) (gsCons (gTp (gsCons (gNm 13) (gsCons (gNm 11) (gsCons (gNm 14) gsNil)))) gsNil))) qYes (eTup (aCons (eVar 13) (aCons (eVar 11) (aCons (eCall m_q_sum (aCons (eVar 14) (aCons (eTup (aCons (eOp (i2 modI) (eVar 7) (eC (.int 3))) (aCons (eC (.int 1)) aNil))) aNil))) aNil)))) [7, 13, 11, 14]) 3) (sFrz 3 (sSeq (sAsg (eB allB (aCons (eFr (lComp (wSeq (eVar 3)) (gNm 5) qYes (eOp (i2 leI) (eB absB (aCons (eOp ixD (eOp ixD (eVar 5) (eC (.int 2))) (eC (.int 0))) aNil)) (eC (.int 1000000))) [5])) aNil)) (gNm 4)) (sSeq (sFor (wRng1 (aCons (eOp (i2 subI) (eB lenB (aCons (eVar 2) aNil)) (eC (.int 1))) aNil)) (gNm 5) l1_law) (sSeq (sFor (wEnum (aCons (eFr (lSlice (eVar 0) oNone (oSome (eC (.int 20))))) aNil)) (gTp (gsCons (gNm 7) (gsCons (gNm 8) gsNil))) l2_law) (sSeq (sAsg (eFr (lLst (aCons (eTup (aCons (eC (.int 1)) (aCons (eTup (aCons (eC (.int 0)) (aCons (eC (.int 1)) aNil))) (aCons (eTup (aCons (eC (.int 1)) (aCons (eC (.int 1)) aNil))) aNil)))) (aCons (eTup (aCons (eC (.int 1)) (aCons (eTup (aCons (eC (.int 3)) (aCons (eC (.int 1)) aNil))) (aCons (eTup (aCons (eNeg (eC (.int 1))) (aCons (eC (.int 2)) aNil))) aNil)))) aNil)))) (gNm 6)) (sRet (qAnd (eOp eqD (eFld 3 0 (eCall m_pair_meets (aCons (eVar 6) (aCons (eC (.int 0)) aNil)))) (eTup (aCons (eC (.int 2)) (aCons (eC (.int 1)) aNil)))) (eIso (tbL [(3, false), (4, true)]) (eCall m_pair_meets (aCons (eFr (lLst (aCons (eOp ixD (eVar 6) (eC (.int 0))) (aCons (eTup (aCons (eC (.int 9)) (aCons (eTup (aCons (eC (.int 1)) (aCons (eC (.int 2)) aNil))) (aCons (eTup (aCons (eC (.int 1)) (aCons (eC (.int 1)) aNil))) aNil)))) aNil)))) (aCons (eC (.int 0)) aNil))))))))))))))
noncomputable def m_law : List D → Option Out := fnSem 1 14 b_law
theorem sc_law : FnScope ["_law_script", "_law_whole_here", "_law_row_here", "_law_other", "_law_mild", "_law_bead", "_law_two", "_law_at", "_law_cell", "_law_number_here", "_law_first", "_law_place", "_law_second", "_law_weight", "_law_speed"] ["_law_script"] (defScope s_law) := ⟨rfl, rfl, rfl, by decide +kernel, rfl, by decide +kernel, by decide +kernel⟩
theorem ok_law_fn (Z : Txt K mg) (Y : Txe K mg T) (C_q_row : ClD P w K mg base (CXf P w) T "_law_row" ["_law_script", "_law_by_here", "_law_alike", "_law_most"] 2 m_q_row 10) (C_q_sum : Cl P w K mg base (CXf P w) T "_law_sum" ["_law_one", "_law_other"] 2 m_q_sum) (C_q_right : Cl P w K mg base (CXf P w) T "_law_right" ["_law_row_here", "_law_bead", "_law_others"] 8 m_q_right) (C_q_number : Cl P w K mg base (CXf P w) T "_law_number" ["_law_cell", "_law_at", "_law_whole_here"] 1 m_q_number) (C_q_low : Cl P w K mg base (CXf P w) T "_law_low" ["_law_top", "_law_bottom"] 1 m_q_low) (C_pair_meets : Cl P w K mg base (CXf P w) T "pair_meets" ["row", "bead"] 7 m_pair_meets) {f : Addr} {fd : FuncData} (F : FunD K "law" "law" s_law .none f fd) : FnOk P w K mg base (CXf P w) 9 f fd ["_law_script"] (spD T K m_law) :=
  fnx_okJ (fb := b_law) (k := 8) F sc_law (by kernel_rfl) (by kernel_rfl) (fun cdv A outer s H E hr =>
    (jb_cons (js_set (i := 1) sc_law.nd (by kernel_rfl) (Or.inl (by kernel_rfl)) (je_callB (jc_sum (by kernel_rfl)) (by kernel_rfl) Z.n_sum (by decide +kernel) (ja_cons (je_fr (jf_slice (jv 0) jo_none (jo_some je_int))) ja_nil))) (jb_cons (js_set (i := 2) sc_law.nd (by kernel_rfl) (Or.inl (by kernel_rfl)) (je_cD C_q_row (hr.mono (by decide)) passF (by kernel_rfl) (ja_cons (jv 0) (ja_cons je_int (ja_cons je_bl ja_nil))))) (jb_cons (js_setLc (i := 3) (own := [("_law_at", 7), ("_law_weight", 13), ("_law_place", 11), ("_law_speed", 14)]) (by kernel_rfl) sc_law.nd (by kernel_rfl) (by kernel_rfl) (sw_true (by kernel_rfl) (by kernel_rfl) (by kernel_rfl) (by kernel_rfl)) (ji_enum (by kernel_rfl) Z.n_enumerate (ja_cons (jv 2) ja_nil)) (blkOk_by (by kernel_rfl)) (fun _ _ _ _ _ => (jg_tup (by kernel_rfl) (jgs_cons (jg_name (i := 7) sc_law.nd (by kernel_rfl) (Or.inl (by kernel_rfl)) (hf := Or.inr (by kernel_rfl))) (jgs_cons (jg_tup (by kernel_rfl) (jgs_cons (jg_name (i := 13) sc_law.nd (by kernel_rfl) (Or.inl (by kernel_rfl)) (hf := Or.inr (by kernel_rfl))) (jgs_cons (jg_name (i := 11) sc_law.nd (by kernel_rfl) (Or.inl (by kernel_rfl)) (hf := Or.inr (by kernel_rfl))) (jgs_cons (jg_name (i := 14) sc_law.nd (by kernel_rfl) (Or.inl (by kernel_rfl)) (hf := Or.inr (by kernel_rfl))) jgs_nil))) (gl_cons (gl_cons (gl_cons gl_nil)))) jgs_nil)) (gl_cons (gl_cons gl_nil)))) (fun _ _ _ _ _ => jts_nil) (fun _ _ _ _ _ => (je_tup (ja_cons (jv 13) (ja_cons (jv 11) (ja_cons (je_c C_q_sum (hr.mono (by decide)) passN (by kernel_rfl) (ja_cons (jv 14) (ja_cons (je_tup (ja_cons (je_op jp_mod (jv 7) je_int) (ja_cons je_int ja_nil))) ja_nil))) ja_nil))))) (by decide)) (jb_frz (i := 3) (jb_cons (js_set (i := 4) sc_law.nd (by kernel_rfl) (Or.inl (by kernel_rfl)) (je_callB (jc_all (by kernel_rfl)) (by kernel_rfl) Z.n_all (by decide +kernel) (ja_cons (je_fr (jf_lc (own := [("_law_bead", 5)]) (by kernel_rfl) sc_law.nd (ji_list (jv 3)) (blkOk_by (by kernel_rfl)) (fun _ _ _ _ _ => (jg_name (i := 5) sc_law.nd (by kernel_rfl) (Or.inl (by kernel_rfl)) (hf := Or.inr (by kernel_rfl)))) (fun _ _ _ _ _ => jts_nil) (fun _ _ _ _ _ => (je_cmp jp_le (je_callB jc_abs (by kernel_rfl) Z.n_abs (by decide +kernel) (ja_cons (je_ix (je_ix (jv 5) je_int) je_int) ja_nil)) je_int (nobehind _ (by decide) (by decide)))) (by decide))) ja_nil))) (jb_cons (js_for passL (by kernel_rfl) (ji_range1 (by kernel_rfl) Z.n_range (ja_cons (je_op jp_sub (je_callB jc_len (by kernel_rfl) Z.n_len (by decide +kernel) (ja_cons (jv 2) ja_nil)) je_int) ja_nil)) (jg_name (i := 5) sc_law.nd (by kernel_rfl) (Or.inl (by kernel_rfl))) (jb_one (js_if (JW.pt (jw_or (jt_not (jt_val (je_c C_q_right (hr.mono (by decide)) passF (by kernel_rfl) (ja_cons (jv 2) (ja_cons (jv 5) (ja_cons (je_if (jt_val (jv 4)) (je_fr (jf_lst (ja_cons (jv 3) ja_nil))) (je_fr (jf_lst ja_nil))) ja_nil)))))) (jw_or1 (JW.pt (jw_and (jt_val (jv 4)) (jw_and1 (jt_not (jt_val (je_c C_q_right (hr.mono (by decide)) passF (by kernel_rfl) (ja_cons (jv 3) (ja_cons (jv 5) (ja_cons (je_fr (jf_lst (ja_cons (jv 2) ja_nil))) ja_nil)))))))))))) (jb_one (js_ret je_bl)) jb_nil))) (jb_cons (js_for passL (by kernel_rfl) (ji_enum (by kernel_rfl) Z.n_enumerate (ja_cons (je_fr (jf_slice (jv 0) jo_none (jo_some je_int))) ja_nil)) (jg_tup (by kernel_rfl) (jgs_cons (jg_name (i := 7) sc_law.nd (by kernel_rfl) (Or.inl (by kernel_rfl))) (jgs_cons (jg_name (i := 8) sc_law.nd (by kernel_rfl) (Or.inl (by kernel_rfl))) jgs_nil)) (gl_cons (gl_cons gl_nil))) (jb_cons (js_set (i := 9) sc_law.nd (by kernel_rfl) (Or.inl (by kernel_rfl)) (je_c C_q_number (hr.mono (by decide)) passF (by kernel_rfl) (ja_cons (jv 8) (ja_cons (je_op jp_add (jv 7) je_int) (ja_cons (jv 1) ja_nil))))) (jb_cons (js_set (i := 10) sc_law.nd (by kernel_rfl) (Or.inl (by kernel_rfl)) (je_tup (ja_cons je_int (ja_cons (je_tup (ja_cons je_int (ja_cons je_int ja_nil))) (ja_cons (je_c C_q_low (hr.mono (by decide)) passF (by kernel_rfl) (ja_cons (je_op jp_sub (je_op jp_mod (jv 9) je_int) je_int) (ja_cons (je_op jp_add je_int (je_op jp_mod (je_op jp_div (jv 9) je_int) je_int)) ja_nil))) ja_nil))))) (jb_cons (js_set (i := 11) sc_law.nd (by kernel_rfl) (Or.inl (by kernel_rfl)) (je_c C_q_low (hr.mono (by decide)) passF (by kernel_rfl) (ja_cons (je_op jp_add je_int (je_op jp_mod (je_op jp_div (jv 9) je_int) je_int)) (ja_cons (je_op jp_add je_int (je_op jp_mod (je_op jp_div (jv 9) je_int) je_int)) ja_nil)))) (jb_cons (js_set (i := 12) sc_law.nd (by kernel_rfl) (Or.inl (by kernel_rfl)) (je_tup (ja_cons je_int (ja_cons (jv 11) (ja_cons (je_c C_q_low (hr.mono (by decide)) passF (by kernel_rfl) (ja_cons (je_op jp_sub (je_op jp_mod (je_op jp_div (jv 9) je_int) je_int) je_int) (ja_cons (je_op jp_add je_int (je_op jp_mod (je_op jp_div (jv 9) je_int) je_int)) ja_nil))) ja_nil))))) (jb_one (js_if (jt_not (jt_val (je_c C_q_right (hr.mono (by decide)) passF (by kernel_rfl) (ja_cons (je_fr (jf_lst (ja_cons (jv 10) (ja_cons (jv 12) ja_nil)))) (ja_cons je_int (ja_cons (je_fr (jf_lst (ja_cons (je_fr (jf_lst (ja_cons (jv 10) (ja_cons (je_tup (ja_cons je_int (ja_cons (je_ix (jv 12) je_int) (ja_cons (je_ix (jv 10) je_int) ja_nil)))) ja_nil)))) ja_nil))) ja_nil)))))) (jb_one (js_ret je_bl)) jb_nil))))))) (jb_cons (js_set (i := 6) sc_law.nd (by kernel_rfl) (Or.inl (by kernel_rfl)) (je_fr (jf_lst (ja_cons (je_tup (ja_cons je_int (ja_cons (je_tup (ja_cons je_int (ja_cons je_int ja_nil))) (ja_cons (je_tup (ja_cons je_int (ja_cons je_int ja_nil))) ja_nil)))) (ja_cons (je_tup (ja_cons je_int (ja_cons (je_tup (ja_cons je_int (ja_cons je_int ja_nil))) (ja_cons (je_tup (ja_cons (je_neg je_int) (ja_cons je_int ja_nil))) ja_nil)))) ja_nil))))) (jb_one (js_ret (je_and (je_cmp (jp_eq hr.units) (je_fld Y.o_Meet (je_c C_pair_meets (hr.mono (by decide)) passF (by kernel_rfl) (ja_cons (jv 6) (ja_cons je_int ja_nil))) (i := 0) (by kernel_rfl)) (je_tup (ja_cons je_int (ja_cons je_int ja_nil))) (nobehind _ (by decide) (by decide))) (je_one (je_iso Y.q_Never (je_c C_pair_meets (hr.mono (by decide)) passF (by kernel_rfl) (ja_cons (je_fr (jf_lst (ja_cons (je_ix (jv 6) je_int) (ja_cons (je_tup (ja_cons je_int (ja_cons (je_tup (ja_cons je_int (ja_cons je_int ja_nil))) (ja_cons (je_tup (ja_cons je_int (ja_cons je_int ja_nil))) ja_nil)))) ja_nil)))) (ja_cons je_int ja_nil))) (by kernel_rfl) Z.n_isinstance (by kernel_rfl)))))))))))))))
end
end BD

namespace BD
open PySem L2
theorem fmod_pos {a b : Int} (h : 0 < b) : a.fmod b = a % b := Int.fmod_eq_emod_of_nonneg a (by omega)
theorem fdiv_pos {a b : Int} (h : 0 < b) : a.fdiv b = a / b := Int.fdiv_eq_ediv_of_nonneg a (by omega)
theorem gcd_step (a b : Int) (h : 0 < b) : Int.gcd b (a % b) = Int.gcd a b := by
  have e : a % b = a - b * (a / b) := Int.emod_def a b
  apply Nat.dvd_antisymm
  · refine Int.natCast_dvd_natCast.mp (Int.dvd_coe_gcd ?_ (Int.gcd_dvd_left ..))
    have h1 : (Int.gcd b (a % b) : Int) ∣ b := Int.gcd_dvd_left ..
    have h2 : (Int.gcd b (a % b) : Int) ∣ a % b := Int.gcd_dvd_right ..
    have h3 := Int.dvd_add h2 (Int.dvd_trans h1 (Int.dvd_mul_right b (a / b)))
    rwa [e, Int.sub_add_cancel, ← e] at h3
  · refine Int.natCast_dvd_natCast.mp (Int.dvd_coe_gcd (Int.gcd_dvd_right ..) ?_)
    rw [e]
    exact Int.dvd_sub (Int.gcd_dvd_left ..) (Int.dvd_trans (Int.gcd_dvd_right ..) (Int.dvd_mul_right b (a / b)))
theorem is_whole_int (a : Int) : m_is_whole [.int a] = some (.val (.bl true)) := by
  simp [m_is_whole, b_is_whole, fnSem, sRet, sbnd, qAnd, obnd, eIsi, eVar, ov, isiB, tyD, isiN, qNot]
theorem common_loop (n : Nat) : ∀ (a b : Int), 0 ≤ a → 0 ≤ b → b.natAbs < n →
    whileS (qV (eVar 1)) (sPar 0 1 (eVar 1) (eOp (i2 modI) (eVar 0) (eVar 1))) n [some (.sh (.int a)), some (.sh (.int b))] = some (.nx [some (.sh (.int (Int.gcd a b))), some (.sh (.int 0))]) := by
  induction n with
  | zero => intro a b _ _ h; omega
  | succ n ih =>
    intro a b ha hb hn
    by_cases h0 : b = 0
    · subst h0
      have : (a.natAbs : Int) = a := by omega
      simp [whileS, sbnd, qV, obnd, eVar, truthD, ov, this]
    · have hb' : 0 < b := by omega
      have h1 := Int.emod_nonneg a h0
      have h2 := Int.emod_lt_of_pos a hb'
      have e := ih b (a % b) hb h1 (by omega)
      rw [gcd_step a b hb'] at e
      have hne : (b != 0) = true := by simp [h0]
      simp [whileS, sbnd, qV, obnd, eVar, truthD, ov, h0, hne, sPar, eOp, i2, modI, fmod_pos hb']
      exact e
theorem common_pos (a b : Int) (h : 0 < b) : m_common [.int a, .int b] = some (.val (.int (Int.gcd a b))) := by
  have h0 : b ≠ 0 := by omega
  have h1 := Int.emod_nonneg a h0
  have h2 := Int.emod_lt_of_pos a h
  have e := common_loop (a.natAbs + (b.natAbs + 1)) b (a % b) (by omega) h1 (by omega)
  rw [gcd_step a b h] at e
  have hf : fuelR [some (.sh (.int a)), some (.sh (.int b))] = (a.natAbs + (b.natAbs + 1)) + 1 := by simp [fuelR]; omega
  have e2 : whileS (qV (eVar 1)) (sPar 0 1 (eVar 1) (eOp (i2 modI) (eVar 0) (eVar 1))) ((a.natAbs + (b.natAbs + 1)) + 1) [some (.sh (.int a)), some (.sh (.int b))] = some (.nx [some (.sh (.int (Int.gcd a b))), some (.sh (.int 0))]) := by
    rw [whileS]
    have hne : (b != 0) = true := by simp [h0]
    simp [sbnd, qV, obnd, eVar, truthD, ov, h0, hne, sPar, eOp, i2, modI, fmod_pos h]
    exact e
  simp [m_common, b_common, fnSem, sSeq, sWhile, hf, e2, sRet, sbnd, eVar]
theorem low_loop (t u : D) (n : Nat) : ∀ (a b : Int), 0 ≤ a → 0 ≤ b → b.natAbs < n →
    whileS (eOp (i2 gtI) (eVar 3) (eC (.int 0))) (sPar 2 3 (eVar 3) (eOp (i2 modI) (eVar 2) (eVar 3))) n [some (.sh t), some (.sh u), some (.sh (.int a)), some (.sh (.int b))] = some (.nx [some (.sh t), some (.sh u), some (.sh (.int (Int.gcd a b))), some (.sh (.int 0))]) := by
  induction n with
  | zero => intro a b _ _ h; omega
  | succ n ih =>
    intro a b ha hb hn
    by_cases h0 : b = 0
    · subst h0
      have : (a.natAbs : Int) = a := by omega
      simp [whileS, sbnd, eOp, obnd, eVar, eC, i2, gtI, ov, this]
    · have hb' : 0 < b := by omega
      have h1 := Int.emod_nonneg a h0
      have h2 := Int.emod_lt_of_pos a hb'
      have e := ih b (a % b) hb h1 (by omega)
      rw [gcd_step a b hb'] at e
      simp [whileS, sbnd, obnd, eVar, eC, gtI, ov, h0, hb', sPar, eOp, i2, modI, fmod_pos hb']
      exact e
noncomputable def shr (a b : Int) : D := .tup [.int (a / Int.gcd a b), .int (b / Int.gcd a b)]
theorem gcd_pos {a b : Int} (h : 0 < b) : (0 : Int) < Int.gcd a b := by
  have : 0 < Int.gcd a b := Int.gcd_pos_of_ne_zero_right a (by omega)
  omega
theorem low_pos (a b : Int) (h : 0 < b) (hs : (Int.gcd a b).log2 < 9000) : m_q_low [.int a, .int b] = some (.val (shr a b)) := by
  have h0 : b ≠ 0 := by omega
  have ha : (if a < 0 then -a else a) = (a.natAbs : Int) := by split <;> omega
  have e := low_loop (.int a) (.int b) (fuelR [some (.sh (.int a)), some (.sh (.int b)), some (.sh (.int a.natAbs)), some (.sh (.int b))]) a.natAbs b (by omega) (by omega) (by simp [fuelR]; omega)
  have hg : Int.gcd a.natAbs b = Int.gcd a b := by simp [Int.gcd]
  rw [hg] at e
  have gp := gcd_pos (a := a) h
  have g0 : ¬ Int.gcd a b = 0 := by omega
  simp [m_q_low, b_q_low, fnSem, sSeq, sWhile, sPar, sbnd, eB, lbnd, aCons, aNil, obndL, lbndL, eVar, absB, ov, ha, e, sRet, eTup, eOp, obnd, i2, divI, g0, hs, smallL, shr, fdiv_pos gp]
end BD
namespace BD
open PySem L2
structure Sh (a b : Int) : Prop where
  pos : 0 < b
  one : Int.gcd a b = 1
noncomputable def sh (a b : Int) : D := .tup [.int a, .int b]
theorem gcd_div {a b : Int} (h : 0 < b) : Int.gcd (a / Int.gcd a b) (b / Int.gcd a b) = 1 :=
  Int.gcd_ediv_gcd_ediv_gcd (Int.gcd_pos_of_ne_zero_right a (by omega))
theorem div_mul {a b : Int} : a / Int.gcd a b * Int.gcd a b = a := Int.ediv_mul_cancel (Int.gcd_dvd_left ..)
theorem div_mul' {a b : Int} : b / Int.gcd a b * Int.gcd a b = b := Int.ediv_mul_cancel (Int.gcd_dvd_right ..)
theorem shr_sh {a b : Int} (h : 0 < b) : ∃ p q k, shr a b = sh p q ∧ Sh p q ∧ 0 < k ∧ p * k = a ∧ q * k = b := by
  refine ⟨a / Int.gcd a b, b / Int.gcd a b, Int.gcd a b, rfl, ⟨?_, gcd_div h⟩, gcd_pos h, div_mul, div_mul'⟩
  have g := gcd_pos (a := a) h
  have e : b / Int.gcd a b * Int.gcd a b = b := div_mul'
  exact Int.pos_of_mul_pos_left (by rw [e]; exact h) g
end BD
namespace BD
open PySem L2
noncomputable def Bd (n : Nat) (i : Int) : Prop := i.natAbs < 2 ^ n
theorem Bd.mono {m n : Nat} {i : Int} (h : Bd m i) (l : m ≤ n) : Bd n i := Nat.lt_of_lt_of_le h (Nat.pow_le_pow_right (by decide) l)
theorem Bd.mul {m n : Nat} {i j : Int} (h : Bd m i) (k : Bd n j) : Bd (m + n) (i * j) := by
  unfold Bd at *
  rw [Int.natAbs_mul, Nat.pow_add]
  exact Nat.mul_lt_mul'' h k
theorem Bd.add {n : Nat} {i j : Int} (h : Bd n i) (k : Bd n j) : Bd (n + 1) (i + j) := by
  unfold Bd at *
  rw [Nat.pow_succ]
  omega
theorem Bd.neg {n : Nat} {i : Int} (h : Bd n i) : Bd n (-i) := by unfold Bd at *; omega
theorem Bd.sub {n : Nat} {i j : Int} (h : Bd n i) (k : Bd n j) : Bd (n + 1) (i - j) := by
  unfold Bd at *
  rw [Nat.pow_succ]
  omega
theorem Bd.log {n : Nat} {i : Int} (h : Bd n i) (hn : 0 < n) : i.natAbs.log2 < n := by
  by_cases h0 : i.natAbs = 0
  · rw [h0]; have : Nat.log2 0 = 0 := by decide
    omega
  · exact (Nat.log2_lt h0).mpr h
theorem Bd.small {n : Nat} {i : Int} (h : Bd n i) (hn : n ≤ 50000000) : smallI i = true := by
  refine decide_eq_true ?_
  have := (h.mono (Nat.le_succ n)).log (Nat.succ_pos n)
  omega
theorem Bd.of_log {n : Nat} {i : Int} (h : i.natAbs.log2 < n) : Bd n i := by
  unfold Bd
  by_cases h0 : i.natAbs = 0
  · rw [h0]; exact Nat.two_pow_pos n
  · exact (Nat.log2_lt h0).mp h
theorem Bd.gcd {n : Nat} {a b : Int} (h : Bd n b) (hb : 0 < b) : Bd n (Int.gcd a b) := by
  unfold Bd at *
  have : Int.gcd a b ∣ b.natAbs := by
    have := Int.natAbs_dvd_natAbs.mpr (Int.gcd_dvd_right a b)
    simpa using this
  have := Nat.le_of_dvd (by omega) this
  omega
structure Shn (n : Nat) (a b : Int) : Prop where
  s : Sh a b
  ba : Bd n a
  bb : Bd n b
theorem abs_le_of_mul {p k a : Int} (h : p * k = a) (hk : 0 < k) : p.natAbs ≤ a.natAbs := by
  rw [← h, Int.natAbs_mul]
  exact Nat.le_mul_of_pos_right _ (by omega)
theorem shr_shn {n : Nat} {a b : Int} (h : 0 < b) (ha : Bd n a) (hb : Bd n b) : ∃ p q k, shr a b = sh p q ∧ Shn n p q ∧ 0 < k ∧ p * k = a ∧ q * k = b := by
  obtain ⟨p, q, k, e, s, hk, e1, e2⟩ := shr_sh (a := a) h
  refine ⟨p, q, k, e, ⟨s, ?_, ?_⟩, hk, e1, e2⟩
  · exact Nat.lt_of_le_of_lt (abs_le_of_mul e1 hk) ha
  · exact Nat.lt_of_le_of_lt (abs_le_of_mul e2 hk) hb
theorem ix_sh0 (a b : Int) : ixD (sh a b) (.int 0) = some (.int a) := rfl
theorem ix_sh1 (a b : Int) : ixD (sh a b) (.int 1) = some (.int b) := rfl
theorem is_share_sh {a b : Int} (h : Sh a b) : m_is_share [sh a b] = some (.val (.bl true)) := by
  have h1 : 1 ≤ b := by have := h.pos; omega
  have hg : (Int.gcd a b : Int) = 1 := by rw [h.one]; rfl
  have e : neD (.int 2) (.int 2) = some (.bl false) := by kernel_rfl
  have e2 : eqD (.int 1) (.int 1) = some (.bl true) := by kernel_rfl
  simp [m_is_share, b_is_share, fnSem, sSeq, sIf, sbnd, qOr, qNot, qV, obnd, eIsi, eVar, ov, isiB, tyD, isiN, sh, truthD, eOp, eB, lbnd, aCons, aNil, obndL, lbndL, lenB, eC, e, sNext, sAsg, gTp, gsCons, gNm, gsNil, sRet, qAnd, eCall, is_whole_int, i2, geI, h1, common_pos a b h.pos, hg, e2]
theorem lowest_pos {n : Nat} {a b : Int} (hb : 0 < b) (h : Bd n b) (hn : n ≤ 8000) : m_lowest [.int a, .int b] = some (.val (shr a b)) := by
  have h0 : ¬ b < 0 := by omega
  have gp := gcd_pos (a := a) hb
  have g0 : ¬ Int.gcd a b = 0 := by omega
  have lg : (Int.gcd a b).log2 < 9000 := by
    have := ((Bd.gcd (a := a) h hb).mono (Nat.le_succ n)).log (Nat.succ_pos n)
    simp at this
    omega
  simp [m_lowest, b_lowest, fnSem, sSeq, sIf, sbnd, eOp, obnd, eVar, eC, i2, ltI, ov, h0, sNext, sAsg, eCall, lbnd, aCons, aNil, obndL, lbndL, common_pos a b hb, gNm, sRet, eTup, divI, g0, lg, smallL, shr, fdiv_pos gp]
end BD
namespace BD
open PySem L2
theorem q_number {n : Nat} {cell at' whole : Int} (hc : Bd n cell) (hw : Bd n whole) (h0 : 0 ≤ at') (h1 : at' ≤ 2000) (hn : n ≤ 20000000) (hn0 : 40 ≤ n) : ∃ N, m_q_number [.int cell, .int at', .int whole] = some (.val (.int N)) := by
  have b977 : Bd 10 977 := by unfold Bd; decide
  have bat : Bd 11 at' := by unfold Bd; omega
  have b31 : Bd 5 31 := by unfold Bd; decide
  have b7 : Bd 3 7 := by unfold Bd; decide
  have b48 : Bd 16 48271 := by unfold Bd; decide
  have k1 : Bd 21 (977 * at') := b977.mul bat
  have k2 : Bd (n + 1) (cell + 977 * at') := hc.add (k1.mono (by omega))
  have hm : 0 ≤ ((cell + 977 * at') * 48271 + whole).fmod 2147483647 ∧ ((cell + 977 * at') * 48271 + whole).fmod 2147483647 < 2147483647 := by
    rw [fmod_pos (by decide)]
    exact ⟨Int.emod_nonneg _ (by decide), Int.emod_lt_of_pos _ (by decide)⟩
  generalize hM : ((cell + 977 * at') * 48271 + whole).fmod 2147483647 = M at hm
  have bM : Bd 31 M := by unfold Bd; omega
  have k3 : Bd 32 (M + 31 * at' + 7) := by unfold Bd; omega
  have k4 : Bd 63 (M * (M + 31 * at' + 7)) := bM.mul k3
  have k5 : Bd (n + 2) (M + cell + 5) := ((bM.mono (by omega : 31 ≤ n)).add hc).add ((by unfold Bd; decide : Bd 3 5).mono (by omega))
  have k6 : Bd (63 + (n + 2)) (M * (M + 31 * at' + 7) * (M + cell + 5)) := k4.mul k5
  have k7 : Bd (63 + (n + 2) + 1) (M * (M + 31 * at' + 7) * (M + cell + 5) + 48271) := k6.add (b48.mono (by omega))
  have z1 := b977.small (by omega)
  have z2 := bat.small (by omega)
  have z3 := k2.small (by omega)
  have z4 := b48.small (by omega)
  have z5 := b31.small (by omega)
  have z6 := bM.small (by omega)
  have z7 := k3.small (by omega)
  have z8 := k4.small (by omega)
  have z9 := k5.small (by omega)
  have z10 := k6.small (by omega)
  have z11 := k7.small (by omega)
  have lg : Nat.log2 1009 < 9000 := by decide
  by_cases hb : (1000000000000000000 : Int) ≤ cell
  · exact ⟨cell, by simp [m_q_number, b_q_number, fnSem, sSeq, sIf, sbnd, eOp, obnd, eVar, eC, i2, geI, powI, ov, sRet, hb]⟩
  · refine ⟨(M * (M + 31 * at' + 7) * (M + cell + 5) * (M * (M + 31 * at' + 7) * (M + cell + 5) + 48271)).fdiv 1009, ?_⟩
    simp [m_q_number, b_q_number, fnSem, sSeq, sIf, sbnd, eOp, obnd, eVar, eC, i2, geI, powI, ov, sRet, hb, sNext, sAsg, gNm, mulI, addI, modI, divI, z1, z2, z3, z4, z5, hM, z6, z7, z8, z9, z10, z11, lg]
theorem q_whole_int (a : Int) : m_q_whole [.int a] = some (.val (.bl true)) := by
  simp [m_q_whole, b_q_whole, fnSem, sRet, sbnd, qAnd, obnd, eIsi, eVar, ov, isiB, tyD, isiN, qNot]
end BD
namespace BD
open PySem L2
theorem eqD_int (i j : Int) : eqD (.int i) (.int j) = some (.bl (i == j)) := by
  simp [eqD, eqvD, pyO, SeqAt.shaped, PyData.canLay0, PyData.depth, PyData.eqv]
theorem ix_ints {ns : List Int} {i : Int} (h0 : -(ns.length : Int) ≤ i) (h1 : i < ns.length) : ∃ c ∈ ns, ixD (.lst (ns.map .int)) (.int i) = some (.int c) := by
  have key : ∀ j : Nat, j < ns.length → ∃ c ∈ ns, (ns.map D.int)[j]? = some (.int c) := fun j hj => ⟨ns[j], List.getElem_mem hj, by simp [hj]⟩
  show ∃ c ∈ ns, atI (ns.map D.int) i = some (.int c)
  unfold atI ixN
  rw [List.length_map]
  by_cases h : 0 ≤ i
  · obtain ⟨c, hc, e⟩ := key i.toNat (by omega)
    exact ⟨c, hc, by rw [if_pos h, if_pos h1]; exact e⟩
  · obtain ⟨c, hc, e⟩ := key (i + ns.length).toNat (by omega)
    exact ⟨c, hc, by rw [if_neg h, if_pos h0]; exact e⟩
theorem mod4 (m : Int) : m.fmod 4 = 0 ∨ m.fmod 4 = 1 ∨ m.fmod 4 = 2 ∨ m.fmod 4 = 3 := by
  rw [fmod_pos (by decide)]; omega
theorem low_draw {N wd : Int} (k1 k2 : Int) (hw : 0 < wd) (hb : Bd 100 wd) : ∃ a b, Shn 101 a b ∧ m_q_low [.int ((N.fdiv k1).fmod (2 * wd) - wd), .int (1 + (N.fdiv k2).fmod wd)] = some (.val (sh a b)) := by
  rw [fmod_pos (by omega), fmod_pos hw]
  have h1 := Int.emod_nonneg (N.fdiv k1) (show 2 * wd ≠ 0 by omega)
  have h2 := Int.emod_lt_of_pos (N.fdiv k1) (show 0 < 2 * wd by omega)
  have h3 := Int.emod_nonneg (N.fdiv k2) (show wd ≠ 0 by omega)
  have h4 := Int.emod_lt_of_pos (N.fdiv k2) hw
  generalize (N.fdiv k1) % (2 * wd) = x at *
  generalize (N.fdiv k2) % wd = y at *
  have bx : Bd 101 (x - wd) := by unfold Bd at *; omega
  have by' : Bd 101 (1 + y) := by unfold Bd at *; omega
  have hp : 0 < 1 + y := by omega
  have lg : (Int.gcd (x - wd) (1 + y)).log2 < 9000 := by
    have := (Bd.gcd (a := x - wd) by' hp).log (by decide)
    simp at this
    omega
  obtain ⟨p, q, k, e, s, _⟩ := shr_shn hp bx by'
  exact ⟨p, q, s, by rw [low_pos _ _ hp lg, e]⟩
theorem intsO_map : ∀ ns : List Int, intsO (ns.map D.int) = some ns
  | [] => rfl
  | n :: ns => by simp [intsO, intsO_map ns]
theorem Bd.sum {n : Nat} : ∀ {ns : List Int}, (∀ i ∈ ns, Bd n i) → ns.length ≤ 64 → Bd (n + ns.length) ns.sum
  | [], _, _ => by unfold Bd; simp [Nat.two_pow_pos]
  | a :: ns, h, hl => by
    have h1 := h a (List.mem_cons_self ..)
    have h2 := Bd.sum (ns := ns) (fun i hi => h i (List.mem_cons_of_mem _ hi)) (by simp at hl; omega)
    have := (h1.mono (by omega : n ≤ n + ns.length)).add h2
    simpa [Nat.add_assoc] using this
theorem cut63 {ns : List Int} (h : ns.length ≤ 63) : cutD (ns.map D.int) none (some 63) = ns.map D.int := by
  unfold cutD HT.sIx
  simp [h]
  exact List.take_of_length_le (by simp)
end BD
namespace BD
open PySem L2
theorem eqD_sh (a b c d : Int) : eqD (sh a b) (sh c d) = some (.bl (a == c && b == d)) := by
  simp [eqD, eqvD, pyO, pyOs, sh, SeqAt.shaped, PyData.canLay0, PyData.canLayAll0, PyData.depth, PyData.depthAll, PyData.eqv, PyData.eqvAll]
theorem dvd_one {p q s : Int} (h : Int.gcd p q = 1) (d : q ∣ p * s) : q ∣ s := by
  have d' : q.natAbs ∣ p.natAbs * s.natAbs := by rw [← Int.natAbs_mul]; exact Int.natAbs_dvd_natAbs.mpr d
  have c : Nat.Coprime q.natAbs p.natAbs := by
    show Nat.gcd q.natAbs p.natAbs = 1
    rw [Nat.gcd_comm]; exact h
  exact Int.natAbs_dvd_natAbs.mp (c.dvd_of_dvd_mul_left d')
theorem uniq {p q r s : Int} (h : Sh p q) (h' : Sh r s) (e : p * s = r * q) : p = r ∧ q = s := by
  have d1 : q ∣ s := dvd_one h.one ⟨r, by rw [e, Int.mul_comm]⟩
  have d2 : s ∣ q := dvd_one h'.one ⟨p, by rw [← e, Int.mul_comm]⟩
  have hq : q = s := Int.dvd_antisymm (by have := h.pos; omega) (by have := h'.pos; omega) d1 d2
  subst hq
  exact ⟨Int.eq_of_mul_eq_mul_right (by have := h.pos; omega) e, rfl⟩
theorem shr_self {p q : Int} (h : Sh p q) : shr p q = sh p q := by
  unfold shr sh
  rw [h.one]
  simp
noncomputable def Wo (n : Nat) (x : Option Out) (t b : Int) : Prop := ∃ p q, x = some (.val (sh p q)) ∧ Shn n p q ∧ p * b = q * t
theorem lowest_any {n : Nat} {t b : Int} (h0 : b ≠ 0) (ht : Bd n t) (hb : Bd n b) (hn : n ≤ 8000) : Wo n (m_lowest [.int t, .int b]) t b := by
  by_cases hp : 0 < b
  · obtain ⟨p, q, k, e, s, hk, e1, e2⟩ := shr_shn hp ht hb
    refine ⟨p, q, by rw [lowest_pos hp hb hn, e], s, ?_⟩
    rw [← e1, ← e2]; grind
  · have hp' : 0 < -b := by omega
    have hl : b < 0 := by omega
    obtain ⟨p, q, k, e, s, hk, e1, e2⟩ := shr_shn hp' ht.neg hb.neg
    have gp := gcd_pos (a := -t) hp'
    have g0 : ¬ Int.gcd (-t) (-b) = 0 := by omega
    have lg : (Int.gcd (-t) (-b)).log2 < 9000 := by
      have := ((Bd.gcd (a := -t) hb.neg hp').mono (Nat.le_succ n)).log (Nat.succ_pos n)
      simp only [Int.natAbs_natCast] at this
      omega
    have cm := common_pos (-t) (-b) hp'
    refine ⟨p, q, ?_, s, ?_⟩
    · rw [← e]
      generalize hG : Int.gcd (-t) (-b) = G at *
      have f1 := fdiv_pos (a := -t) gp
      have f2 := fdiv_pos (a := -b) gp
      have gg : ¬ (G : Int) = 0 := by omega
      simp [m_lowest, b_lowest, fnSem, sSeq, sIf, sbnd, eOp, obnd, eVar, eC, i2, ltI, ov, hl, sPar, eNeg, sNext, sAsg, eCall, lbnd, aCons, aNil, obndL, lbndL, cm, gNm, sRet, eTup, divI, g0, lg, smallL, shr, hG, f1, f2]
    · have e3 : t = -(p * k) := by omega
      have e4 : b = -(q * k) := by omega
      rw [e3, e4]; grind
end BD
namespace BD
open PySem L2
noncomputable def shR (x : Rat) : D := sh x.num x.den
theorem shR_sh (x : Rat) : Sh x.num x.den := by
  refine ⟨?_, ?_⟩
  · have := x.den_nz; omega
  · have := x.reduced
    show Nat.gcd x.num.natAbs (x.den : Int).natAbs = 1
    rw [Int.natAbs_natCast]
    exact this
theorem rat_eq (x : Rat) : (x.num : Rat) / ((x.den : Int) : Rat) = x := by
  rw [← Rat.divInt_eq_div]
  exact Rat.num_divInt_den x
theorem den_ne (x : Rat) : ((x.den : Int) : Rat) ≠ 0 := by
  intro h
  have h2 : ((x.den : Int) : Rat) = ((0 : Int) : Rat) := h
  have := Rat.intCast_inj.mp h2
  have := x.den_nz
  omega
theorem cast_ne {b : Int} (h : b ≠ 0) : (b : Rat) ≠ 0 := by
  intro z
  have h2 : (b : Rat) = ((0 : Int) : Rat) := z
  exact h (Rat.intCast_inj.mp h2)
theorem rat_inj {p q : Int} {x : Rat} (hq : q ≠ 0) (h : (p : Rat) / q = x) : p * x.den = x.num * q := by
  have e := rat_eq x
  have d := den_ne x
  have d2 := cast_ne hq
  apply Rat.intCast_inj.mp
  rw [Rat.intCast_mul, Rat.intCast_mul]
  generalize ((x.den : Int) : Rat) = D at *
  generalize (x.num : Rat) = N at *
  generalize (p : Rat) = P at *
  generalize (q : Rat) = Q at *
  grind
theorem sh_shR {p q : Int} {x : Rat} (s : Sh p q) (h : (p : Rat) / q = x) : sh p q = shR x := by
  have hp := s.pos
  obtain ⟨h1, h2⟩ := uniq s (shR_sh x) (rat_inj (by omega) h)
  unfold shR
  rw [← h1, ← h2]
structure BdR (n : Nat) (x : Rat) : Prop where
  t : Bd n x.num
  b : Bd n x.den
theorem BdR.mono {m n : Nat} {x : Rat} (h : BdR m x) (l : m ≤ n) : BdR n x := ⟨h.t.mono l, h.b.mono l⟩
theorem BdR.shn {n : Nat} {x : Rat} (h : BdR n x) : Shn n x.num x.den := ⟨shR_sh x, h.t, h.b⟩
theorem bdR_of {n : Nat} {p q : Int} {x : Rat} (s : Shn n p q) (h : (p : Rat) / q = x) : BdR n x := by
  have hp := s.s.pos
  obtain ⟨h1, h2⟩ := uniq s.s (shR_sh x) (rat_inj (by omega) h)
  exact ⟨by rw [← h1]; exact s.ba, by rw [← h2]; exact s.bb⟩
theorem cross {p q t b : Int} (hq : q ≠ 0) (hb : b ≠ 0) (h : p * b = q * t) : (p : Rat) / q = (t : Rat) / b := by
  have d1 := cast_ne hq
  have d2 := cast_ne hb
  have e : (p : Rat) * b = q * t := by rw [← Rat.intCast_mul, ← Rat.intCast_mul, h]
  generalize (p : Rat) = P at *
  generalize (q : Rat) = Q at *
  generalize (t : Rat) = T at *
  generalize (b : Rat) = B at *
  grind
theorem BdR.div {n : Nat} {t b : Int} {x : Rat} (h0 : b ≠ 0) (ht : Bd n t) (hb : Bd n b) (e : (t : Rat) / b = x) : BdR n x := by
  by_cases hp : 0 < b
  · obtain ⟨p, q, k, _, s, hk, e1, e2⟩ := shr_shn hp ht hb
    have hq := s.s.pos
    refine bdR_of s ((cross (by omega) h0 ?_).trans e)
    rw [← e1, ← e2]; grind
  · obtain ⟨p, q, k, _, s, hk, e1, e2⟩ := shr_shn (show 0 < -b by omega) ht.neg hb.neg
    have hq := s.s.pos
    refine bdR_of s ((cross (by omega) h0 ?_).trans e)
    have e3 : t = -(p * k) := by omega
    have e4 : b = -(q * k) := by omega
    rw [e3, e4]; grind
theorem lowest_R {n : Nat} {t b : Int} {x : Rat} (h0 : b ≠ 0) (ht : Bd n t) (hb : Bd n b) (hn : n ≤ 8000) (e : (t : Rat) / b = x) : m_lowest [.int t, .int b] = some (.val (shR x)) := by
  obtain ⟨p, q, e1, s, k⟩ := lowest_any h0 ht hb hn
  have hq := s.s.pos
  rw [e1, sh_shR s.s ((cross (by omega) h0 k).trans e)]
theorem low_R {n : Nat} {t b : Int} {x : Rat} (h0 : 0 < b) (hb : Bd n b) (hn : n ≤ 8000) (e : (t : Rat) / b = x) : m_q_low [.int t, .int b] = some (.val (shR x)) := by
  have lg : (Int.gcd t b).log2 < 9000 := by
    have := ((Bd.gcd (a := t) hb h0).mono (Nat.le_succ n)).log (Nat.succ_pos n)
    simp only [Int.natAbs_natCast] at this
    omega
  obtain ⟨p, q, k, e1, s, hk, e2, e3⟩ := shr_sh (a := t) h0
  have hq := s.pos
  rw [low_pos t b h0 lg, e1, sh_shR s ((cross (by omega) (by omega) ?_).trans e)]
  rw [← e2, ← e3]; grind
theorem ix_R0 (x : Rat) : ixD (shR x) (.int 0) = some (.int x.num) := rfl
theorem ix_R1 (x : Rat) : ixD (shR x) (.int 1) = some (.int x.den) := rfl
theorem eqD_R (x y : Rat) : eqD (shR x) (shR y) = some (.bl (decide (x = y))) := by
  unfold shR
  rw [eqD_sh]
  by_cases h : x = y
  · subst h; simp
  · have : ¬ (x.num = y.num ∧ (x.den : Int) = y.den) := fun z => h (Rat.ext z.1 (by omega))
    simp [h]
    intro z
    intro z2
    exact h (Rat.ext z (by omega))
section
variable {n m : Nat} {x y : Rat}
theorem add_val (x y : Rat) : ((x.num * y.den + y.num * x.den : Int) : Rat) / ((x.den * y.den : Int) : Rat) = x + y := by
  have ex := rat_eq x
  have ey := rat_eq y
  have dx := den_ne x
  have dy := den_ne y
  rw [Rat.intCast_add, Rat.intCast_mul, Rat.intCast_mul, Rat.intCast_mul]
  generalize ((x.den : Int) : Rat) = D at *
  generalize (x.num : Rat) = N at *
  generalize ((y.den : Int) : Rat) = D2 at *
  generalize (y.num : Rat) = N2 at *
  subst ex ey
  grind
theorem sub_val (x y : Rat) : ((x.num * y.den - y.num * x.den : Int) : Rat) / ((x.den * y.den : Int) : Rat) = x - y := by
  have ex := rat_eq x
  have ey := rat_eq y
  have dx := den_ne x
  have dy := den_ne y
  rw [Rat.intCast_sub, Rat.intCast_mul, Rat.intCast_mul, Rat.intCast_mul]
  generalize ((x.den : Int) : Rat) = D at *
  generalize (x.num : Rat) = N at *
  generalize ((y.den : Int) : Rat) = D2 at *
  generalize (y.num : Rat) = N2 at *
  subst ex ey
  grind
theorem mul_val (x y : Rat) : ((x.num * y.num : Int) : Rat) / ((x.den * y.den : Int) : Rat) = x * y := by
  have ex := rat_eq x
  have ey := rat_eq y
  have dx := den_ne x
  have dy := den_ne y
  rw [Rat.intCast_mul, Rat.intCast_mul]
  generalize ((x.den : Int) : Rat) = D at *
  generalize (x.num : Rat) = N at *
  generalize ((y.den : Int) : Rat) = D2 at *
  generalize (y.num : Rat) = N2 at *
  subst ex ey
  grind
theorem div_val (x y : Rat) (hy : y.num ≠ 0) : ((x.num * y.den : Int) : Rat) / ((x.den * y.num : Int) : Rat) = x / y := by
  have ex := rat_eq x
  have ey := rat_eq y
  have dx := den_ne x
  have dy := den_ne y
  have ny := cast_ne hy
  rw [Rat.intCast_mul, Rat.intCast_mul]
  generalize ((x.den : Int) : Rat) = D at *
  generalize (x.num : Rat) = N at *
  generalize ((y.den : Int) : Rat) = D2 at *
  generalize (y.num : Rat) = N2 at *
  subst ex ey
  grind
theorem den_pos (x : Rat) : (0 : Int) < x.den := (shR_sh x).pos
theorem dd_pos (x y : Rat) : (0 : Int) < x.den * y.den := Int.mul_pos (den_pos x) (den_pos y)
theorem BdR.add (hx : BdR n x) (hy : BdR m y) : BdR (n + m + 1) (x + y) := by
  have := dd_pos x y
  exact BdR.div (by omega) ((hx.t.mul hy.b).add ((hy.t.mul hx.b).mono (by omega))) ((hx.b.mul hy.b).mono (by omega)) (add_val x y)
theorem BdR.sub (hx : BdR n x) (hy : BdR m y) : BdR (n + m + 1) (x - y) := by
  have := dd_pos x y
  exact BdR.div (by omega) ((hx.t.mul hy.b).sub ((hy.t.mul hx.b).mono (by omega))) ((hx.b.mul hy.b).mono (by omega)) (sub_val x y)
theorem BdR.mul (hx : BdR n x) (hy : BdR m y) : BdR (n + m) (x * y) := by
  have := dd_pos x y
  exact BdR.div (by omega) (hx.t.mul hy.t) (hx.b.mul hy.b) (mul_val x y)
theorem BdR.quot (hx : BdR n x) (hy : BdR m y) (h0 : y.num ≠ 0) : BdR (n + m) (x / y) := by
  have := den_pos x
  exact BdR.div (Int.mul_ne_zero (by omega) h0) (hx.t.mul hy.b) (hx.b.mul hy.t) (div_val x y h0)
theorem BdR.small (hx : BdR n x) (hn : n ≤ 8000) : smallI x.num = true ∧ smallI x.den = true := ⟨hx.t.small (by omega), hx.b.small (by omega)⟩
end
theorem shR_int (w : Int) : D.tup [.int w, .int 1] = shR w := rfl
theorem bdR_int {n : Nat} {w : Int} (h : Bd n w) (hn : 1 ≤ n) : BdR n (w : Rat) := ⟨h, by
  show Bd n ((1 : Nat) : Int)
  exact (by unfold Bd; decide : Bd 1 1).mono hn⟩
theorem is_share_R (x : Rat) : m_is_share [shR x] = some (.val (.bl true)) := is_share_sh (shR_sh x)
end BD
namespace BD
open PySem L2
section
variable {n m : Nat} {x y : Rat}
theorem lessened_R (hx : BdR n x) (hy : BdR m y) (h : n + m ≤ 7900) : m_lessened [shR x, shR y] = some (.val (shR (x - y))) := by
  obtain ⟨s1, s2⟩ := hx.small (by omega)
  obtain ⟨s3, s4⟩ := hy.small (by omega)
  have hp := dd_pos x y
  have e := lowest_R (by omega) ((hx.t.mul hy.b).sub ((hy.t.mul hx.b).mono (by omega))) ((hx.b.mul hy.b).mono (by omega)) (by omega) (sub_val x y)
  simp [m_lessened, b_lessened, fnSem, sRet, sbnd, eCall, lbnd, aCons, aNil, obndL, lbndL, eOp, obnd, eVar, eC, ix_R0, ix_R1, ov, i2, mulI, subI, s1, s2, s3, s4, e]
theorem parted_R (hx : BdR n x) (hy : BdR m y) (h0 : y.num ≠ 0) (h : n + m ≤ 7900) : m_parted [shR x, shR y] = some (.val (shR (x / y))) := by
  obtain ⟨s1, s2⟩ := hx.small (by omega)
  obtain ⟨s3, s4⟩ := hy.small (by omega)
  have hp := den_pos x
  have e := lowest_R (Int.mul_ne_zero (by omega) h0) (hx.t.mul hy.b) (hx.b.mul hy.t) (by omega) (div_val x y h0)
  simp [m_parted, b_parted, fnSem, sRet, sbnd, eCall, lbnd, aCons, aNil, obndL, lbndL, eOp, obnd, eVar, eC, ix_R0, ix_R1, ov, i2, mulI, s1, s2, s3, s4, e]
theorem q_sum_R (hx : BdR n x) (hy : BdR m y) (h : n + m ≤ 7900) : m_q_sum [shR x, shR y] = some (.val (shR (x + y))) := by
  obtain ⟨s1, s2⟩ := hx.small (by omega)
  obtain ⟨s3, s4⟩ := hy.small (by omega)
  have e := low_R (dd_pos x y) (hx.b.mul hy.b) (by omega) (add_val x y)
  simp [m_q_sum, b_q_sum, fnSem, sRet, sbnd, eCall, lbnd, aCons, aNil, obndL, lbndL, eOp, obnd, eVar, eC, ix_R0, ix_R1, ov, i2, mulI, addI, s1, s2, s3, s4, e]
theorem q_by_R (hx : BdR n x) (hy : BdR m y) (h : n + m ≤ 7900) : m_q_by [shR x, shR y] = some (.val (shR (x * y))) := by
  obtain ⟨s1, s2⟩ := hx.small (by omega)
  obtain ⟨s3, s4⟩ := hy.small (by omega)
  have e := low_R (dd_pos x y) (hx.b.mul hy.b) (by omega) (mul_val x y)
  simp [m_q_by, b_q_by, fnSem, sRet, sbnd, eCall, lbnd, aCons, aNil, obndL, lbndL, eOp, obnd, eVar, eC, ix_R0, ix_R1, ov, i2, mulI, s1, s2, s3, s4, e]
theorem q_is_share_R (hx : BdR n x) (hn : n ≤ 8000) : m_q_is_share [shR x] = some (.val (.bl true)) := by
  have h := hx.shn
  have hp := h.s.pos
  have lg : (Int.gcd x.num x.den).log2 < 9000 := by rw [h.s.one]; decide
  have l := low_pos x.num x.den hp lg
  rw [shr_self h.s] at l
  have e2 : neD (.int 2) (.int 2) = some (.bl false) := by kernel_rfl
  have ln : lenB [shR x] = some (.int 2) := rfl
  have it : isiB "tuple" (shR x) = some (.bl true) := rfl
  have hp2 : 0 < x.den := by omega
  have e3 : eqD (sh x.num x.den) (shR x) = some (.bl true) := by rw [show sh x.num x.den = shR x from rfl, eqD_R]; simp
  simp [m_q_is_share, b_q_is_share, fnSem, sSeq, sIf, sbnd, qOr, qNot, qV, obnd, eIsi, eVar, ov, it, truthD, eOp, eB, lbnd, aCons, aNil, obndL, lbndL, ln, eC, e2, eCall, ix_R0, ix_R1, q_whole_int, sNext, sRet, qAnd, i2, gtI, hp, hp2, l, e3]
end
end BD
namespace BD
open PySem L2
theorem is_weight_ok {w : Int} (h1 : 1 ≤ w) (h2 : w ≤ 60) : m_is_weight [.int w] = some (.val (.bl true)) := by
  simp [m_is_weight, b_is_weight, fnSem, sRet, sbnd, qAnd, obnd, eCall, lbnd, aCons, aNil, obndL, lbndL, eVar, is_whole_int, eChain, eC, ov, i2, leI, h1, h2]
theorem blsO_true {α : Type} : ∀ (xs : List α), blsO (xs.map fun _ => D.bl true) = some (xs.map fun _ => true)
  | [] => rfl
  | x :: xs => by simp [blsO, blsO_true xs]
theorem all_true {α : Type} (xs : List α) : (xs.map fun _ => true).all id = true := by
  induction xs with
  | nil => rfl
  | cons x xs ih => simpa using ih
noncomputable def wsum : List Int → List Rat → Rat → Rat
  | w :: ws, x :: xs, t => wsum ws xs (t + (w : Rat) * x)
  | _, _, t => t
end BD
namespace BD
open PySem L2
structure Bead where
  w : Int
  x : Rat
  v : Rat
noncomputable def bD (b : Bead) : D := .tup [.int b.w, shR b.x, shR b.v]
structure RS (x : Rat) : Prop where
  lo : -1000000 ≤ x.num
  hi : x.num ≤ 1000000
  den : x.den ≤ 60
structure GB (b : Bead) : Prop where
  w1 : 1 ≤ b.w
  w2 : b.w ≤ 60
  x : RS b.x
  v : RS b.v
theorem RS.bd {x : Rat} (h : RS x) : BdR 20 x := by
  have h1 := h.lo
  have h2 := h.hi
  have h3 := h.den
  exact ⟨by unfold Bd; omega, by unfold Bd; omega⟩
theorem is_row_share_ok {x : Rat} (h : RS x) : m_is_row_share [shR x] = some (.val (.bl true)) := by
  have h1 := h.lo
  have h2 := h.hi
  have h3 := h.den
  have h4 : (x.den : Int) ≤ 60 := by omega
  simp [m_is_row_share, b_is_row_share, fnSem, sRet, sbnd, qAnd, obnd, eCall, lbnd, aCons, aNil, obndL, lbndL, eVar, is_share_R, eChain, eC, eNeg, eOp, ix_R0, ix_R1, ov, i2, leI, h1, h2, h3, h4]
theorem is_bead_ok {b : Bead} (h : GB b) : m_is_bead [bD b] = some (.val (.bl true)) := by
  have e : neD (.int 3) (.int 3) = some (.bl false) := by kernel_rfl
  have it : isiB "tuple" (bD b) = some (.bl true) := rfl
  have ln : lenB [bD b] = some (.int 3) := rfl
  have e1 := is_weight_ok h.w1 h.w2
  have e2 := is_row_share_ok h.x
  have e3 := is_row_share_ok h.v
  simp [m_is_bead, b_is_bead, fnSem, sSeq, sIf, sbnd, qOr, qNot, qV, obnd, eIsi, eVar, it, ov, truthD, eOp, eB, lbnd, aCons, aNil, obndL, lbndL, ln, eC, e, sNext, sAsg]
  simp [bD, gTp, gsCons, gNm, gsNil, sRet, sbnd, qAnd, obnd, eCall, lbnd, aCons, aNil, obndL, lbndL, eVar, e1, e2, e3]
theorem compared_lt {x y : Rat} (hx : RS x) (hy : RS y) (h : x < y) : m_compared [shR x, shR y] = some (.val (.int (-1))) := by
  obtain ⟨s1, s2⟩ := hx.bd.small (by decide)
  obtain ⟨s3, s4⟩ := hy.bd.small (by decide)
  have hl : x.num * y.den < y.num * x.den := (Rat.lt_iff x y).mp h
  have hg : ¬ (y.num * x.den < x.num * y.den) := by omega
  simp [m_compared, b_compared, fnSem, sSeq, sAsg, sbnd, eOp, obnd, eVar, eC, ix_R0, ix_R1, ov, i2, mulI, s1, s2, s3, s4, gNm, sIf, gtI, ltI, hg, hl, sNext, sRet, eNeg]
theorem compS_map {α : Type} {f h : α → D} {g : Gv} {q e : Ev} {ρ : Rho} : ∀ {xs : List α}, (∀ x ∈ xs, ∃ ρ', g (f x) ρ = some ρ' ∧ q ρ' = some (.val (.bl true)) ∧ e ρ' = some (.val (h x))) → compS g q e ρ (xs.map f) = some (xs.map h)
  | [], _ => rfl
  | x :: xs, H => by
    obtain ⟨ρ', e1, e2, e3⟩ := H x (List.mem_cons_self ..)
    have ih := compS_map (xs := xs) fun y hy => H y (List.mem_cons_of_mem _ hy)
    simp [compS, e1, e2, e3, ih]
structure GR (r : List Bead) : Prop where
  one : 1 ≤ r.length
  ten : r.length ≤ 10
  good : ∀ b ∈ r, GB b
  rise : ∀ (i : Nat) (a b : Bead), r[i]? = some a → r[i + 1]? = some b → a.x < b.x
theorem ix_map {α : Type} {f : α → D} {xs : List α} {i : Nat} {x : α} (h : xs[i]? = some x) : ixD (.lst (xs.map f)) (.int (i : Int)) = some (f x) := by
  obtain ⟨hl, e⟩ := List.getElem?_eq_some_iff.mp h
  show atI (xs.map f) (i : Int) = some (f x)
  unfold atI ixN
  rw [List.length_map, if_pos (by omega), if_pos (by omega)]
  simp [hl, e]
theorem bD0 (b : Bead) : ixD (bD b) (.int 0) = some (.int b.w) := rfl
theorem bD1 (b : Bead) : ixD (bD b) (.int 1) = some (shR b.x) := rfl
theorem bD2 (b : Bead) : ixD (bD b) (.int 2) = some (shR b.v) := rfl
theorem get_lt {α : Type} {xs : List α} {i : Nat} (h : i < xs.length) : ∃ x, xs[i]? = some x ∧ x ∈ xs := ⟨xs[i], by simp [h], List.getElem_mem h⟩
theorem lComp_map {α : Type} {f : EvL} {g : Gv} {q e : Ev} {vs : List Nat} {ρ : Rho} {xs : List α} {F h : α → D} (hf : f ρ = some (.vals (xs.map F))) (hl : xs.length ≤ 1000)
    (H : ∀ x ∈ xs, ∃ ρ', g (F x) (wipeR ρ vs) = some ρ' ∧ q ρ' = some (.val (.bl true)) ∧ e ρ' = some (.val (h x))) : lComp f g q e vs ρ = some (.vals (xs.map h)) := by
  have sl : smallL (xs.map F) = true := decide_eq_true (by rw [List.length_map]; omega)
  unfold lComp lbndL
  rw [hf]
  dsimp only
  rw [if_pos sl, compS_map H]
  rfl
theorem eFr_of {f : EvL} {ρ : Rho} {ds : List D} (h : f ρ = some (.vals ds)) : eFr f ρ = some (.val (.lst ds)) := by
  unfold eFr lbnd
  rw [h]
theorem all_comp {α : Type} {f : EvL} {g : Gv} {q e : Ev} {vs : List Nat} {ρ : Rho} {xs : List α} {F : α → D} (hf : f ρ = some (.vals (xs.map F))) (hl : xs.length ≤ 1000)
    (H : ∀ x ∈ xs, ∃ ρ', g (F x) (wipeR ρ vs) = some ρ' ∧ q ρ' = some (.val (.bl true)) ∧ e ρ' = some (.val (.bl true))) : eB allB (aCons (eFr (lComp f g q e vs)) aNil) ρ = some (.val (.bl true)) := by
  have e1 := eFr_of (lComp_map (h := fun _ => D.bl true) hf hl H)
  have a : allB [.lst (xs.map fun _ => D.bl true)] = some (.bl true) := by
    simp only [allB, blsO_true, Option.map_some, all_true]
  unfold eB aCons lbnd obndL
  rw [e1]
  simp only [aNil, lbndL, a]
  rfl
theorem fn_rt {n m : Nat} {body : Sv} {ds : List D} {d : D} {ρ : Rho} (hl : ds.length = n) (hρ : ds.map (fun d => some (Sl.sh d)) ++ List.replicate m none = ρ) (h : body ρ = some (.rt d)) : fnSem n m body ds = some (.val d) := by
  subst hρ
  unfold fnSem
  rw [if_pos hl, h]
theorem ret_of {f : Ev} {ρ : Rho} {d : D} (h : f ρ = some (.val d)) : sRet f ρ = some (.rt d) := by
  unfold sRet sbnd
  rw [h]
theorem seq_nx {f g : Sv} {ρ ρ' : Rho} {x : Option Fl} (h : f ρ = some (.nx ρ')) (k : g ρ' = x) : sSeq f g ρ = x := by unfold sSeq; rw [h]; exact k
theorem if_no {q : Ev} {f : Sv} {ρ : Rho} (h : q ρ = some (.val (.bl false))) : sIf q f sNext ρ = some (.nx ρ) := by
  unfold sIf sbnd
  rw [h]
  rfl
theorem expr_of {f : Ev} {ρ : Rho} {d : D} (h : f ρ = some (.val d)) : sExpr f ρ = some (.nx ρ) := by
  unfold sExpr sbnd
  rw [h]
theorem set_of {f : Ev} {ρ : Rho} {d : D} {i : Nat} (h : f ρ = some (.val d)) : sAsg f (gNm i) ρ = some (.nx (ρ.set i (some (.sh d)))) := by
  unfold sAsg sbnd
  rw [h]
  rfl
theorem call1 {g : List D → Option Out} {f : Ev} {ρ : Rho} {d : D} {o : Option Out} (h : f ρ = some (.val d)) (k : g [d] = o) : eCall g (aCons f aNil) ρ = o := by
  unfold eCall lbnd aCons obndL
  rw [h]
  exact k
theorem call2 {g : List D → Option Out} {f f2 : Ev} {ρ : Rho} {d d2 : D} {o : Option Out} (h : f ρ = some (.val d)) (h2 : f2 ρ = some (.val d2)) (k : g [d, d2] = o) : eCall g (aCons f (aCons f2 aNil)) ρ = o := by
  unfold eCall lbnd aCons obndL lbndL
  rw [h]
  dsimp only
  rw [h2]
  exact k
theorem call3 {g : List D → Option Out} {f f2 f3 : Ev} {ρ : Rho} {d d2 d3 : D} {o : Option Out} (h : f ρ = some (.val d)) (h2 : f2 ρ = some (.val d2)) (h3 : f3 ρ = some (.val d3)) (k : g [d, d2, d3] = o) : eCall g (aCons f (aCons f2 (aCons f3 aNil))) ρ = o := by
  unfold eCall lbnd aCons obndL lbndL
  rw [h]
  dsimp only
  rw [h2]
  dsimp only
  rw [h3]
  exact k
theorem and_of {f g : Ev} {ρ : Rho} {o : Option Out} (h : f ρ = some (.val (.bl true))) (k : g ρ = o) : qAnd f g ρ = o := by
  unfold qAnd obnd
  rw [h]
  exact k
theorem or_of {f g : Ev} {ρ : Rho} {o : Option Out} (h : f ρ = some (.val (.bl false))) (k : g ρ = o) : qOr f g ρ = o := by
  unfold qOr obnd
  rw [h]
  exact k
theorem not_of {f : Ev} {ρ : Rho} {b : Bool} (h : f ρ = some (.val (.bl b))) : qNot f ρ = some (.val (.bl (!b))) := by
  unfold qNot obnd
  rw [h]
theorem not_yes {f : Ev} {ρ : Rho} (h : f ρ = some (.val (.bl true))) : qNot (qV f) ρ = some (.val (.bl false)) := not_of (b := true) (by unfold qV obnd; rw [h]; rfl)
theorem op_of {g : D → D → Option D} {f f2 : Ev} {ρ : Rho} {d d2 d3 : D} (h : f ρ = some (.val d)) (h2 : f2 ρ = some (.val d2)) (k : g d d2 = some d3) : eOp g f f2 ρ = some (.val d3) := by
  unfold eOp obnd
  rw [h]
  dsimp only
  rw [h2]
  dsimp only
  rw [k]
  rfl
theorem wRng2_of {fa fb : Ev} {ρ : Rho} {i j : Int} (h1 : fa ρ = some (.val (.int i))) (h2 : fb ρ = some (.val (.int j))) (b1 : big62 i = true) (b2 : big62 j = true) : wRng2 (aCons fa (aCons fb aNil)) ρ = some (.vals (rngD i 1 (j - i).toNat)) := by
  simp only [wRng2, lbndL, aCons, aNil, obndL, h1, h2, b1, b2, Bool.and_self, if_true]
theorem len_of {f : Ev} {ρ : Rho} {ds : List D} (h : f ρ = some (.val (.lst ds))) : eB lenB (aCons f aNil) ρ = some (.val (.int (ds.length : Int))) := by
  unfold eB lbnd aCons obndL
  rw [h]
  rfl
theorem tup2_of {f f2 : Ev} {ρ : Rho} {d d2 : D} (h : f ρ = some (.val d)) (h2 : f2 ρ = some (.val d2)) : eTup (aCons f (aCons f2 aNil)) ρ = some (.val (.tup [d, d2])) := by
  simp [eTup, lbnd, aCons, aNil, obndL, lbndL, h, h2, smallL]
theorem big_few {n : Nat} (h : n ≤ 1000) : big62 (n : Int) = true := by simp [big62]; omega
theorem places_rise_ok {r : List Bead} (h : GR r) : m_places_rise [.lst (r.map bD)] = some (.val (.bl true)) := by
  have h1 := h.one
  have h10 := h.ten
  have rg : rngD 1 1 ((r.length : Int) - 1).toNat = (List.range (r.length - 1)).map fun k : Nat => D.int (((k + 1 : Nat)) : Int) := by
    rw [show ((r.length : Int) - 1).toNat = r.length - 1 by omega]
    unfold rngD
    congr 1
    funext k
    congr 1
    omega
  have hw : wRng2 (aCons (eC (.int 1)) (aCons (eB lenB (aCons (eVar 0) aNil)) aNil)) [some (.sh (.lst (r.map bD))), none] = some (.vals ((List.range (r.length - 1)).map fun k : Nat => D.int (((k + 1 : Nat)) : Int))) := by
    have l := len_of (f := eVar 0) (ρ := [some (.sh (.lst (r.map bD))), none]) (ds := r.map bD) rfl
    rw [List.length_map] at l
    rw [← rg]
    exact wRng2_of rfl l (by decide) (big_few (by omega))
  have al := all_comp (g := gNm 1) (q := qYes) (e := eOp (i2 ltI) (eCall m_compared (aCons (eOp ixD (eOp ixD (eVar 0) (eOp (i2 subI) (eVar 1) (eC (.int 1)))) (eC (.int 1))) (aCons (eOp ixD (eOp ixD (eVar 0) (eVar 1)) (eC (.int 1))) aNil))) (eC (.int 0))) (vs := [1]) hw (by simp; omega) fun k hk => by
    have hk := List.mem_range.mp hk
    obtain ⟨a, ea, ma⟩ := get_lt (xs := r) (i := k) (by omega)
    obtain ⟨b, eb, mb⟩ := get_lt (xs := r) (i := k + 1) (by omega)
    have cl := compared_lt (h.good a ma).x (h.good b mb).x (h.rise k a b ea eb)
    have i1 := ix_map (f := bD) ea
    have i2' := ix_map (f := bD) eb
    have ek : (((k + 1 : Nat)) : Int) - 1 = (k : Int) := by omega
    refine ⟨[some (.sh (.lst (r.map bD))), some (.sh (.int (((k + 1 : Nat)) : Int)))], rfl, rfl, ?_⟩
    generalize (((k + 1 : Nat)) : Int) = K at *
    simp [eOp, obnd, eCall, lbnd, aCons, aNil, obndL, lbndL, eVar, eC, ov, i2, subI, ek, i1, i2', bD1, cl, ltI]
  unfold m_places_rise b_places_rise
  exact fn_rt rfl rfl (ret_of al)
theorem is_row_ok {r : List Bead} (h : GR r) : m_is_row [.lst (r.map bD)] = some (.val (.bl true)) := by
  have h1 : (1 : Int) ≤ r.length := by have := h.one; omega
  have h10 : (r.length : Int) ≤ 10 := by have := h.ten; omega
  have h10' := h.ten
  have it : isiB "list" (.lst (r.map bD)) = some (.bl true) := rfl
  have a1 : decide ((1 : Int) ≤ r.length) = true := decide_eq_true h1
  have a2 : decide ((r.length : Int) ≤ 10) = true := decide_eq_true h10
  have hA : sIf (qOr (qNot (qV (eIsi "list" (eVar 0)))) (qNot (eChain (i2 leI) (i2 leI) (eC (.int 1)) (eB lenB (aCons (eVar 0) aNil)) (eC (.int 10))))) (sRet (eC (.bl false))) sNext [some (.sh (.lst (r.map bD))), none] = some (.nx [some (.sh (.lst (r.map bD))), none]) := by
    simp only [sIf, sbnd, qOr, qNot, qV, obnd, eIsi, eVar, List.getElem?_cons_zero, it, ov, Option.map, truthD, eChain, eC, eB, lbnd, aCons, aNil, obndL, lbndL, lenB, List.length_map, i2, leI, a1, a2, Bool.not_true, sNext]
  have al := all_comp (f := wSeq (eVar 0)) (g := gNm 1) (q := qYes) (e := eCall m_is_bead (aCons (eVar 1) aNil)) (vs := [1]) (ρ := [some (.sh (.lst (r.map bD))), none]) (xs := r) (F := bD) rfl (by omega) fun b hb => by
    refine ⟨[some (.sh (.lst (r.map bD))), some (.sh (bD b))], rfl, rfl, ?_⟩
    simp [eCall, lbnd, aCons, aNil, obndL, lbndL, eVar, is_bead_ok (h.good b hb)]
  have pr := places_rise_ok h
  unfold m_is_row b_is_row
  exact fn_rt rfl rfl (seq_nx hA (ret_of (and_of al (call1 rfl pr))))
theorem need_row_ok {r : List Bead} (h : GR r) : m_need_row [.lst (r.map bD)] = some (.val .non) := by
  simp [m_need_row, b_need_row, fnSem, sIf, sbnd, qNot, qV, obnd, eCall, lbnd, aCons, aNil, obndL, lbndL, eVar, is_row_ok h, ov, truthD, sNext]
theorem is_bead_of_ok {r : List Bead} {i : Nat} (h : i < r.length) : m_is_bead_of [.lst (r.map bD), .int (i : Int)] = some (.val (.bl true)) := by
  simp [m_is_bead_of, b_is_bead_of, fnSem, sRet, sbnd, qAnd, obnd, eCall, lbnd, aCons, aNil, obndL, lbndL, eVar, is_whole_int, eChain, eC, ov, i2, leI, ltI, eB, lenB, h]
theorem need_bead_ok {r : List Bead} {i : Nat} (h : i < r.length) : m_need_bead [.lst (r.map bD), .int (i : Int)] = some (.val .non) := by
  simp [m_need_bead, b_need_bead, fnSem, sIf, sbnd, qNot, qV, obnd, eCall, lbnd, aCons, aNil, obndL, lbndL, eVar, is_bead_of_ok h, ov, truthD, sNext]
noncomputable def str (r : List Bead) (a b : Nat) : List Bead := (r.drop a).take (b + 1 - a)
end BD
namespace BD
open PySem L2
theorem own_of {f : EvL} {ρ : Rho} {ds : List D} {i : Nat} (h : f ρ = some (.vals ds)) : sOwn f i ρ = some (.nx (ρ.set i (some (.own ds)))) := by
  unfold sOwn lbndS
  rw [h]
theorem frz_of {g : Sv} {ρ : Rho} {ds : List D} {i : Nat} {o : Option Fl} (h : ρ[i]? = some (some (.own ds))) (k : g (ρ.set i (some (.sh (.lst ds)))) = o) : sFrz i g ρ = o := by
  unfold sFrz
  rw [h]
  exact k
theorem sum_of {f : Ev} {ρ : Rho} {ns : List Int} (h : f ρ = some (.val (.lst (ns.map .int)))) : eB sumB (aCons f aNil) ρ = some (.val (.int ns.sum)) := by
  unfold eB lbnd aCons obndL
  rw [h]
  simp [aNil, lbndL, sumB, intsO_map, ov]
noncomputable def Bead.at (m : Rat) (b : Bead) : Rat := b.x + b.v * m
noncomputable def tog (bs : List Bead) (f : Bead → Rat) : Rat := wsum (bs.map Bead.w) (bs.map f) 0
noncomputable def wts (bs : List Bead) : Int := (bs.map Bead.w).sum
structure St (r : List Bead) (a b : Nat) : Prop where
  g : GR r
  lt : b < r.length
  le : a ≤ b
section
variable {r : List Bead} {a b : Nat} {m : Rat}
end
end BD
namespace BD
open PySem L2
theorem for_cons {g : Gv} {body : Sv} {d : D} {ds : List D} {ρ ρ1 ρ2 : Rho} {x : Option Fl} (h1 : g d ρ = some ρ1) (h2 : body ρ1 = some (.nx ρ2)) (h3 : forS g body ds ρ2 = x) : forS g body (d :: ds) ρ = x := by
  rw [forS, h1]
  simp only [Option.bind]
  rw [h2]
  exact h3
theorem for_of {f : EvL} {g : Gv} {body : Sv} {ρ : Rho} {ds : List D} {x : Option Fl} (h : f ρ = some (.vals ds)) (k : forS g body ds ρ = x) : sFor f g body ρ = x := by
  unfold sFor lbndS
  rw [h]
  exact k
theorem one_of {f : Ev} {ρ : Rho} {d : D} (h : f ρ = some (.val d)) : aCons f aNil ρ = some (.vals [d]) := by
  unfold aCons obndL
  rw [h]
  rfl
theorem wRng1_of {f : Ev} {ρ : Rho} {n : Nat} (h : f ρ = some (.val (.int (n : Int)))) (hn : n ≤ 1000) : wRng1 (aCons f aNil) ρ = some (.vals ((List.range' 0 n).map fun k : Nat => D.int ((k : Nat) : Int))) := by
  have b := big_few hn
  have r : rngD 0 1 n = (List.range' 0 n).map fun k : Nat => D.int ((k : Nat) : Int) := by
    simp [rngD, List.range_eq_range']
  unfold wRng1 lbndL
  rw [one_of h]
  dsimp only
  rw [if_pos b, Int.toNat_natCast, r]
theorem if_yes {q : Ev} {f g : Sv} {ρ : Rho} {x : Option Fl} (h : q ρ = some (.val (.bl true))) (k : f ρ = x) : sIf q f g ρ = x := by
  unfold sIf sbnd
  rw [h]
  exact k
theorem par_of {f g : Ev} {ρ : Rho} {x y : D} {i j : Nat} (h : f ρ = some (.val x)) (h2 : g ρ = some (.val y)) : sPar i j f g ρ = some (.nx ((ρ.set i (some (.sh x))).set j (some (.sh y)))) := by
  unfold sPar sbnd
  rw [h]
  dsimp only
  rw [h2]
theorem lst1_of {f : Ev} {ρ : Rho} {d : D} (h : f ρ = some (.val d)) : eFr (lLst (aCons f aNil)) ρ = some (.val (.lst [d])) := by
  simp [eFr, lLst, lbnd, aCons, aNil, obndL, lbndL, h, smallL]
theorem lst2_of {f f2 : Ev} {ρ : Rho} {d d2 : D} (h : f ρ = some (.val d)) (h2 : f2 ρ = some (.val d2)) : eFr (lLst (aCons f (aCons f2 aNil))) ρ = some (.val (.lst [d, d2])) := by
  simp [eFr, lLst, lbnd, aCons, aNil, obndL, lbndL, h, h2, smallL]
theorem seq_rt {f g : Sv} {ρ : Rho} {d : D} (h : f ρ = some (.rt d)) : sSeq f g ρ = some (.rt d) := by unfold sSeq; rw [h]
theorem eif_yes {q f g : Ev} {ρ : Rho} {x : Option Out} (h : q ρ = some (.val (.bl true))) (k : f ρ = x) : eIf q f g ρ = x := by
  unfold eIf obnd; rw [h]; exact k
theorem eif_no {q f g : Ev} {ρ : Rho} {x : Option Out} (h : q ρ = some (.val (.bl false))) (k : g ρ = x) : eIf q f g ρ = x := by
  unfold eIf obnd; rw [h]; exact k
theorem or_yes {f g : Ev} {ρ : Rho} (h : f ρ = some (.val (.bl true))) : qOr f g ρ = some (.val (.bl true)) := by
  unfold qOr obnd; rw [h]
theorem and_no {f g : Ev} {ρ : Rho} (h : f ρ = some (.val (.bl false))) : qAnd f g ρ = some (.val (.bl false)) := by
  unfold qAnd obnd; rw [h]
theorem two_of {f f2 : Ev} {ρ : Rho} {d d2 : D} (h : f ρ = some (.val d)) (h2 : f2 ρ = some (.val d2)) : aCons f (aCons f2 aNil) ρ = some (.vals [d, d2]) := by
  simp [aCons, aNil, obndL, lbndL, h, h2]
theorem for_inv {g : Gv} {body : Sv} {P : Rho → Prop} : ∀ {ds : List D} {ρ : Rho}, P ρ → (∀ d ∈ ds, ∀ ρ, P ρ → ∃ ρ1 ρ2, g d ρ = some ρ1 ∧ body ρ1 = some (.nx ρ2) ∧ P ρ2) → ∃ ρ', forS g body ds ρ = some (.nx ρ') ∧ P ρ'
  | [], ρ, h, _ => ⟨ρ, rfl, h⟩
  | d :: ds, ρ, h, H => by
    obtain ⟨ρ1, ρ2, e1, e2, e3⟩ := H d (List.mem_cons_self ..) ρ h
    obtain ⟨ρ3, e4, e5⟩ := for_inv e3 fun x hx => H x (List.mem_cons_of_mem _ hx)
    exact ⟨ρ3, for_cons e1 e2 e4, e5⟩
end BD
namespace BD
open PySem L2
theorem RS.of {t b : Int} {x : Rat} (h : 0 < b) (hb : b ≤ 60) (lo : -1000000 ≤ t) (hi : t ≤ 1000000) (e : (t : Rat) / b = x) : RS x := by
  obtain ⟨p, q, k, _, s, hk, e1, e2⟩ := shr_sh (a := t) h
  have hq := s.pos
  have hx : (p : Rat) / q = x := (cross (by omega) (by omega) (by rw [← e1, ← e2]; grind)).trans e
  obtain ⟨h1, h2⟩ := uniq s (shR_sh x) (rat_inj (by omega) hx)
  have a1 := abs_le_of_mul e1 hk
  have a2 := abs_le_of_mul e2 hk
  refine ⟨?_, ?_, ?_⟩ <;> omega
theorem pick6 (a b c d e f m : Int) : ∃ x, (x = a ∨ x = b ∨ x = c ∨ x = d ∨ x = e ∨ x = f) ∧ ixD (.tup [.int a, .int b, .int c, .int d, .int e, .int f]) (.int (m.fmod 6)) = some (.int x) := by
  have : m.fmod 6 = 0 ∨ m.fmod 6 = 1 ∨ m.fmod 6 = 2 ∨ m.fmod 6 = 3 ∨ m.fmod 6 = 4 ∨ m.fmod 6 = 5 := by rw [fmod_pos (by decide)]; omega
  rcases this with h | h | h | h | h | h <;> rw [h]
  · exact ⟨a, .inl rfl, rfl⟩
  · exact ⟨b, .inr (.inl rfl), rfl⟩
  · exact ⟨c, .inr (.inr (.inl rfl)), rfl⟩
  · exact ⟨d, .inr (.inr (.inr (.inl rfl))), rfl⟩
  · exact ⟨e, .inr (.inr (.inr (.inr (.inl rfl)))), rfl⟩
  · exact ⟨f, .inr (.inr (.inr (.inr (.inr rfl)))), rfl⟩
theorem pick3' (a b c m : Int) : ∃ x, (x = a ∨ x = b ∨ x = c) ∧ ixD (.tup [.int a, .int b, .int c]) (.int (m.fmod 3)) = some (.int x) := by
  have : m.fmod 3 = 0 ∨ m.fmod 3 = 1 ∨ m.fmod 3 = 2 := by rw [fmod_pos (by decide)]; omega
  rcases this with h | h | h <;> rw [h]
  · exact ⟨a, .inl rfl, rfl⟩
  · exact ⟨b, .inr (.inl rfl), rfl⟩
  · exact ⟨c, .inr (.inr rfl), rfl⟩
theorem pick2' (a b m : Int) : ∃ x, (x = a ∨ x = b) ∧ ixD (.tup [.int a, .int b]) (.int (m.fmod 2)) = some (.int x) := by
  have : m.fmod 2 = 0 ∨ m.fmod 2 = 1 := by rw [fmod_pos (by decide)]; omega
  rcases this with h | h <;> rw [h]
  · exact ⟨a, .inl rfl, rfl⟩
  · exact ⟨b, .inr rfl, rfl⟩
theorem modR {m : Int} (N : Int) (h : 0 < m) : 0 ≤ N.fmod m ∧ N.fmod m < m := by
  rw [fmod_pos h]
  exact ⟨Int.emod_nonneg _ (by omega), Int.emod_lt_of_pos _ h⟩
theorem kinds (m : Int) : ∃ A M C : Int, 0 < A ∧ A ≤ 400001 ∧ 0 ≤ M ∧ M ≤ 200000 ∧ 0 < C ∧ C ≤ 60 ∧ ixD (.tup [.int 5, .int 11, .int 41, .int 400001]) (.int (m.fmod 4)) = some (.int A) ∧ ixD (.tup [.int 2, .int 5, .int 20, .int 200000]) (.int (m.fmod 4)) = some (.int M) ∧ ixD (.tup [.int 1, .int 1, .int 4, .int 60]) (.int (m.fmod 4)) = some (.int C) := by
  rcases mod4 m with h | h | h | h <;> rw [h]
  · exact ⟨5, 2, 1, by decide, by decide, by decide, by decide, by decide, by decide, rfl, rfl, rfl⟩
  · exact ⟨11, 5, 1, by decide, by decide, by decide, by decide, by decide, by decide, rfl, rfl, rfl⟩
  · exact ⟨41, 20, 4, by decide, by decide, by decide, by decide, by decide, by decide, rfl, rfl, rfl⟩
  · exact ⟨400001, 200000, 60, by decide, by decide, by decide, by decide, by decide, by decide, rfl, rfl, rfl⟩
structure Cells (n : Nat) (cs : List Int) : Prop where
  ne : 0 < cs.length
  few : cs.length ≤ 63
  bits : ∀ i ∈ cs, Bd n i
structure Plan (B G K Lt : Int) : Prop where
  b1 : 0 < B
  b2 : B ≤ 60
  g1 : 0 < G
  g2 : G ≤ 90000
  k : ∃ m : Int, K = m.fmod 4
  l1 : 0 < Lt
  l2 : Lt ≤ 60
theorem row_step {n : Nat} {cs : List Int} {W B G K L Lt at' : Int} {r : List Bead} (hc : Cells n cs) (hW : Bd n W) (hn : n ≤ 20000000) (hn0 : 40 ≤ n) (p : Plan B G K Lt) (ha : 0 ≤ at' ∧ at' < 10) (hl : r.length ≤ 10) (hL : -450000 ≤ L ∧ L ≤ 90000 * at') (x0 x3 x6 x13 x14 x16 x17 x18 x19 : Option Sl) :
    ∃ (b : Bead) (L' : Int) (y16 y17 y18 y19 : Option Sl), GB b ∧ L < L' ∧ L' ≤ 90000 * (at' + 1) ∧ b.x = (L' : Rat) / (B : Rat) ∧
      l1_q_row [x0, some (.sh (.int 0)), some (.sh (.bl false)), x3, some (.sh (.lst (cs.map .int))), some (.sh (.int W)), x6, some (.sh (.int B)), some (.sh (.int G)), some (.sh (.int K)), some (.sh (.int L)), some (.sh (.int at')), some (.own (r.map bD)), x13, x14, some (.sh (.int Lt)), x16, x17, x18, x19] =
      some (.nx [x0, some (.sh (.int 0)), some (.sh (.bl false)), x3, some (.sh (.lst (cs.map .int))), some (.sh (.int W)), x6, some (.sh (.int B)), some (.sh (.int G)), some (.sh (.int K)), some (.sh (.int L')), some (.sh (.int at')), some (.own ((r ++ [b]).map bD)), x13, x14, some (.sh (.int Lt)), y16, y17, y18, y19]) := by
  obtain ⟨b1, b2, g1, g2, ⟨km, rfl⟩, l1, l2⟩ := p
  have ne := hc.ne
  have cne : ¬ cs.length = 0 := by omega
  have md := modR at' (show (0 : Int) < cs.length by omega)
  obtain ⟨c, mc, ec⟩ := ix_ints (ns := cs) (i := at'.fmod (cs.length : Int)) (by omega) (by omega)
  obtain ⟨N, en⟩ := q_number (hc.bits c mc) hW (at' := at') (by omega) (by omega) hn hn0
  obtain ⟨A, M, C, a1, a2, m1, m2, c1, c2, i1, i2', i3⟩ := kinds km
  have d1 := modR (N.fdiv 3) g1
  have d2 := modR (N.fdiv 270000) l1
  have d3 := modR (N.fdiv 16200000) a1
  have d4 := modR (N.fdiv 6480016200000) c1
  have gne : ¬ G = 0 := by omega
  have lne : ¬ Lt = 0 := by omega
  have ane : ¬ A = 0 := by omega
  have cne2 : ¬ C = 0 := by omega
  have q1 : Nat.log2 3 < 9000 := by decide
  have q2 : Nat.log2 270000 < 9000 := by decide
  have q3 : Nat.log2 16200000 < 9000 := by decide
  have q4 : Nat.log2 6480016200000 < 9000 := by decide
  have z1 : smallI 11 = true := by decide
  have z2 : smallI 0 = true := by decide
  have sl : r.length ≤ 1000000 := by omega
  generalize hX1 : (N.fdiv 3).fmod G = X1 at *
  generalize hX2 : (N.fdiv 270000).fmod Lt = X2 at *
  generalize hX3 : (N.fdiv 16200000).fmod A = X3 at *
  generalize hX4 : (N.fdiv 6480016200000).fmod C = X4 at *
  have lo1 := low_R (t := X3 - M) (b := 1 + X4) (n := 20) (by omega) (by unfold Bd; omega) (by decide) rfl
  have lo2 := low_R (t := L + 1 + X1) (b := B) (n := 20) (by omega) (by unfold Bd; omega) (by decide) rfl
  refine ⟨⟨1 + X2, ((L + 1 + X1 : Int) : Rat) / (B : Rat), ((X3 - M : Int) : Rat) / ((1 + X4 : Int) : Rat)⟩, L + 1 + X1, some (.sh (.int N)), some (.sh (.int (1 + X2))), some (.sh (.int (X3 - M))), some (.sh (shR (((X3 - M : Int) : Rat) / ((1 + X4 : Int) : Rat)))), ⟨by show 1 ≤ 1 + X2; omega, by show 1 + X2 ≤ 60; omega, RS.of (by omega) (by omega) (by omega) (by omega) rfl, RS.of (by omega) (by omega) (by omega) (by omega) rfl⟩, by omega, by omega, rfl, ?_⟩
  generalize ((X3 - M : Int) : Rat) / ((1 + X4 : Int) : Rat) = R1 at *
  generalize ((L + 1 + X1 : Int) : Rat) / (B : Rat) = R2 at *
  simp [l1_q_row, sSeq, sAsg, sbnd, eCall, lbnd, aCons, aNil, obndL, lbndL, eOp, obnd, eVar, i2, addI, modI, eB, lenB, ov, cne, ec, mulI, z1, z2, eC, en, gNm, divI, q1, q2, q3, q4, gne, hX1, eIf, qV, truthD, lne, hX2, eTup, smallL, i1, i2', i3, ane, cne2, hX3, hX4, subI, lo1, lo2, sApp, sl, bD]
theorem row_for {n : Nat} {cs : List Int} {W B G K Lt : Int} (hc : Cells n cs) (hW : Bd n W) (hn : n ≤ 20000000) (hn0 : 40 ≤ n) (p : Plan B G K Lt) (x0 x3 x6 x13 x14 : Option Sl) : ∀ (j i : Nat) (r : List Bead) (L : Int), i + j ≤ 10 → r.length = i → (∀ b ∈ r, GB b) → (∀ (i : Nat) (a b : Bead), r[i]? = some a → r[i + 1]? = some b → a.x < b.x) → (∀ b, r.getLast? = some b → b.x = (L : Rat) / (B : Rat)) → -450000 ≤ L → L ≤ 90000 * (i : Int) → ∀ (x11 x16 x17 x18 x19 : Option Sl),
    ∃ (r' : List Bead) (y10 y11 y16 y17 y18 y19 : Option Sl), r'.length = i + j ∧ (∀ b ∈ r', GB b) ∧ (∀ (i : Nat) (a b : Bead), r'[i]? = some a → r'[i + 1]? = some b → a.x < b.x) ∧
      forS (gNm 11) l1_q_row ((List.range' i j).map fun k : Nat => D.int ((k : Nat) : Int)) [x0, some (.sh (.int 0)), some (.sh (.bl false)), x3, some (.sh (.lst (cs.map .int))), some (.sh (.int W)), x6, some (.sh (.int B)), some (.sh (.int G)), some (.sh (.int K)), some (.sh (.int L)), x11, some (.own (r.map bD)), x13, x14, some (.sh (.int Lt)), x16, x17, x18, x19] =
      some (.nx [x0, some (.sh (.int 0)), some (.sh (.bl false)), x3, some (.sh (.lst (cs.map .int))), some (.sh (.int W)), x6, some (.sh (.int B)), some (.sh (.int G)), some (.sh (.int K)), y10, y11, some (.own (r'.map bD)), x13, x14, some (.sh (.int Lt)), y16, y17, y18, y19])
  | 0, i, r, L, _, hl, hg, hr, _, _, _, x11, x16, x17, x18, x19 => ⟨r, _, x11, x16, x17, x18, x19, by omega, hg, hr, rfl⟩
  | j + 1, i, r, L, hs, hl, hg, hr, hla, hL1, hL2, x11, x16, x17, x18, x19 => by
    obtain ⟨b, L', y16, y17, y18, y19, gb, lt, le, bx, e⟩ := row_step (at' := (i : Int)) (r := r) (L := L) hc hW hn hn0 p (by omega) (by omega) ⟨hL1, hL2⟩ x0 x3 x6 x13 x14 x16 x17 x18 x19
    have bp : (0 : Rat) < (B : Rat) := Rat.intCast_pos.mpr p.b1
    have lt' : (L : Rat) / (B : Rat) < (L' : Rat) / (B : Rat) := by
      have h1 : (L : Rat) < (L' : Rat) := Rat.intCast_lt_intCast.mpr lt
      rw [Rat.div_def, Rat.div_def]
      exact Rat.mul_lt_mul_of_pos_right h1 (Rat.inv_pos.mpr bp)
    obtain ⟨r', y10, y11, z16, z17, z18, z19, q1, q2, q3, e2⟩ := row_for hc hW hn hn0 p x0 x3 x6 x13 x14 j (i + 1) (r ++ [b]) L' (by omega) (by simp [hl]) (fun c hc => by rcases List.mem_append.mp hc with h | h; exact hg c h; rw [List.mem_singleton.mp h]; exact gb)
      (fun k u v hu hv => by
        by_cases hk : k + 1 < r.length
        · rw [List.getElem?_append_left (by omega)] at hu
          rw [List.getElem?_append_left hk] at hv
          exact hr k u v hu hv
        · obtain ⟨hk2, _⟩ := List.getElem?_eq_some_iff.mp hv
          simp only [List.length_append, List.length_cons, List.length_nil] at hk2
          have hk3 : k + 1 = r.length := by omega
          rw [List.getElem?_append_left (by omega)] at hu
          rw [List.getElem?_append_right (by omega), hk3, Nat.sub_self] at hv
          have hv' : b = v := by simpa using hv
          have hla2 : r.getLast? = some u := by rw [List.getLast?_eq_getElem?, ← hk3]; exact hu
          rw [hla u hla2, ← hv', bx]
          exact lt')
      (fun c hc => by
        rw [List.getLast?_append] at hc
        have hc' : b = c := by simpa using hc
        rw [← hc', bx]) (by omega) (by omega) (some (.sh (.int (i : Int)))) y16 y17 y18 y19
    refine ⟨r', y10, y11, z16, z17, z18, z19, by omega, q2, q3, ?_⟩
    rw [List.range'_succ, List.map_cons]
    exact for_cons rfl e e2
end BD
namespace BD
open PySem L2
structure Nice (k : Nat) (d : D) : Prop where
  ex : ∃ p, pyO d = some p ∧ p.canLay0 = true ∧ p.depth ≤ k
theorem nice_int (i : Int) : Nice 0 (.int i) := ⟨_, rfl, rfl, Nat.le_refl _⟩
theorem nice_list {k : Nat} : ∀ {ds : List D}, (∀ d ∈ ds, Nice k d) → ∃ ps, pyOs ds = some ps ∧ PyData.canLayAll0 ps = true ∧ PyData.depthAll ps ≤ k
  | [], _ => ⟨[], rfl, rfl, Nat.zero_le _⟩
  | d :: ds, h => by
    obtain ⟨p, e, c, l⟩ := (h d (List.mem_cons_self ..)).ex
    obtain ⟨ps, e2, c2, l2⟩ := nice_list (ds := ds) fun x hx => h x (List.mem_cons_of_mem _ hx)
    refine ⟨p :: ps, by simp only [pyOs, e, e2], by simp only [PyData.canLayAll0, c, c2, Bool.and_self], ?_⟩
    simp only [PyData.depthAll]
    omega
theorem nice_lst {k : Nat} {ds : List D} (h : ∀ d ∈ ds, Nice k d) : Nice (k + 1) (.lst ds) := by
  obtain ⟨ps, e, c, l⟩ := nice_list h
  exact ⟨.list ps, by simp only [pyO, e, Option.map_some], by simp only [PyData.canLay0, c], by simp only [PyData.depth]; omega⟩
theorem nice_map {α : Type} {k : Nat} {f : α → D} {xs : List α} (h : ∀ x, Nice k (f x)) : Nice (k + 1) (.lst (xs.map f)) := nice_lst fun d hd => by
  obtain ⟨x, _, rfl⟩ := List.mem_map.mp hd
  exact h x
theorem eqvD_refl {k : Nat} {d : D} (h : Nice k d) (hk : k ≤ 64) : eqvD d d = some true := by
  obtain ⟨p, e, c, l⟩ := h.ex
  have s : SeqAt.shaped p = true := by
    unfold SeqAt.shaped
    rw [c, decide_eq_true (show p.depth ≤ 64 by omega)]
    rfl
  unfold eqvD
  rw [e]
  simp only [s, Bool.and_self, if_true]
  rw [SeqAt.eqv_refl p (by first | exact c | exact s)]
theorem neD_refl {k : Nat} {d : D} (h : Nice k d) (hk : k ≤ 64) : neD d d = some (.bl false) := by unfold neD; rw [eqvD_refl h hk]; rfl
theorem neD_cons_nil {k : Nat} {d : D} {ds : List D} (h : Nice k (.lst (d :: ds))) (hk : k ≤ 64) : neD (.lst (d :: ds)) (.lst []) = some (.bl true) := by
  obtain ⟨p, e, c, l⟩ := h.ex
  have s : SeqAt.shaped p = true := by
    unfold SeqAt.shaped
    rw [c, decide_eq_true (show p.depth ≤ 64 by omega)]
    rfl
  have s0 : SeqAt.shaped (.list []) = true := by simp [SeqAt.shaped, PyData.canLay0, PyData.canLayAll0, PyData.depth, PyData.depthAll]
  simp only [pyO, pyOs] at e
  cases q1 : pyO d with
  | none => rw [q1] at e; cases e
  | some p1 =>
    cases q2 : pyOs ds with
    | none => rw [q1, q2] at e; cases e
    | some ps =>
      rw [q1, q2] at e
      cases e
      simp [neD, eqvD, pyO, pyOs, q1, q2, s, s0, PyData.eqv, PyData.eqvAll]
end BD
namespace BD
open PySem L2
theorem parM_of {fs : EvL} {f : Ev} {ρ : Rho} {xs : List D} {y : D} {i j : Nat} (h : fs ρ = some (.vals xs)) (h2 : f ρ = some (.val y)) : sParM i j fs f ρ = some (.nx ((ρ.set i (some (.own xs))).set j (some (.sh y)))) := by
  unfold sParM lbndS sbnd
  rw [h]
  dsimp only
  rw [h2]
theorem bits {n : Nat} {cs : List Int} (hc : Cells n cs) : Bd (n + 64) cs.sum := (Bd.sum hc.bits (by have := hc.few; omega)).mono (by have := hc.few; omega)
theorem row_ok {ns : List Int} (hl : ns.length ≤ 63) (hb : ∀ i ∈ ns, Bd 1048576 i) : ∃ r, GR r ∧ withD 10 m_q_row [.lst (ns.map .int), .int 0, .bl false] = some (.val (.lst (r.map bD))) := by
  have hcs : ∃ cs, Cells 1048576 cs ∧ ∀ ρ : Rho, ρ[0]? = some (some (.sh (.lst (ns.map .int)))) → (eIf (eOp neD (eVar 0) (eFr (lLst aNil))) (eFr (lSlice (eVar 0) oNone (oSome (eC (.int 63))))) (eFr (lLst (aCons (eC (.int 2)) aNil)))) ρ = some (.val (.lst (cs.map .int))) := by
    cases hns : ns with
    | nil =>
      refine ⟨[2], ⟨by decide, by decide, fun i hi => ?_⟩, fun ρ hρ => ?_⟩
      · rw [List.mem_singleton.mp hi]
        exact (by unfold Bd; decide : Bd 2 2).mono (by decide)
      · have z : neD (.lst []) (.lst []) = some (.bl false) := by kernel_rfl
        rw [List.map_nil] at hρ
        simp [eIf, obnd, eOp, eVar, hρ, eFr, lLst, aNil, lbnd, lbndL, smallL, ov, z, aCons, eC, obndL]
    | cons a as =>
      refine ⟨a :: as, ⟨by simp, by rw [← hns]; exact hl, fun i hi => hb i (by rw [hns]; exact hi)⟩, fun ρ hρ => ?_⟩
      have z : neD (.lst (.int a :: as.map .int)) (.lst []) = some (.bl true) := neD_cons_nil (k := 1) (by have := nice_map (xs := a :: as) fun i => nice_int i; simpa using this) (by decide)
      have c : cutD (.int a :: as.map .int) none (some 63) = .int a :: as.map .int := by
        have := cut63 (ns := a :: as) (by rw [← hns]; exact hl)
        simpa using this
      rw [List.map_cons] at hρ
      simp [eIf, obnd, eOp, eVar, hρ, eFr, lLst, aNil, lbnd, lbndL, smallL, ov, z, lSlice, obndL, oNone, oSome, eC, c]
  obtain ⟨cs, hc, ec⟩ := hcs
  have hW : Bd 1048700 cs.sum := (bits hc).mono (by decide)
  have hc2 : Cells 1048700 cs := ⟨hc.ne, hc.few, fun i hi => (hc.bits i hi).mono (by decide)⟩
  generalize hS : cs.sum = W at *
  obtain ⟨B, hB, eB'⟩ := pick6 1 1 2 3 4 60 (W.fdiv 10)
  obtain ⟨G, hG, eG⟩ := pick3' 3 9 90000 (W.fdiv 60)
  obtain ⟨NB, nb⟩ := q_number (cell := W) (whole := 5) (at' := 3) hW ((by unfold Bd; decide : Bd 3 5).mono (by decide)) (by decide) (by decide) (by decide : 1048700 ≤ 20000000) (by decide)
  obtain ⟨Lt, hLt, eLt⟩ := pick2' 3 60 (NB.fdiv 259200)
  have pl : Plan B G ((W.fdiv 180).fmod 4) Lt := ⟨by omega, by omega, by omega, by omega, ⟨_, rfl⟩, by omega, by omega⟩
  have mm := modR W (show (0 : Int) < 10 by decide)
  have m6 := modR (W.fdiv 720) (show (0 : Int) < 6 by decide)
  generalize hM6 : (W.fdiv 720).fmod 6 = M6 at *
  have lo : -450000 ≤ -G * M6 ∧ -G * M6 ≤ 0 := by
    have h6 : M6 = 0 ∨ M6 = 1 ∨ M6 = 2 ∨ M6 = 3 ∨ M6 = 4 ∨ M6 = 5 := by omega
    rcases h6 with h | h | h | h | h | h <;> subst h <;> rcases hG with h | h | h <;> subst h <;> decide
  obtain ⟨cn, hcn⟩ : ∃ cn : Nat, 1 + W.fmod 10 = (cn : Int) := ⟨(1 + W.fmod 10).toNat, by omega⟩
  obtain ⟨r, y10, y11, y16, y17, y18, y19, q1, q2, q3, f⟩ := row_for hc2 hW (by decide) (by decide) pl (some (.sh (.lst (ns.map .int)))) (some (.sh (.int 10))) (some (.sh (.int (cn : Int)))) (some (.sh (.int NB))) (some (.sh (.int (1 + (NB.fdiv 4320).fmod 60)))) cn 0 [] (-G * M6) (by omega) rfl (fun _ h => nomatch h) (fun _ _ _ h => nomatch h) (fun _ h => nomatch h) lo.1 (by simpa using lo.2) none none none none none
  refine ⟨r, ⟨by omega, by omega, q2, q3⟩, ?_⟩
  have z1 : smallI (-G) = true := (by unfold Bd; omega : Bd 20 (-G)).small (by decide)
  have z2 : smallI M6 = true := (by unfold Bd; omega : Bd 20 M6).small (by decide)
  have k10 : Nat.log2 10 < 9000 := by decide
  have k60 : Nat.log2 60 < 9000 := by decide
  have k180 : Nat.log2 180 < 9000 := by decide
  have k720 : Nat.log2 720 < 9000 := by decide
  have k4320 : Nat.log2 4320 < 9000 := by decide
  have k259 : Nat.log2 259200 < 9000 := by decide
  generalize hK : (W.fdiv 180).fmod 4 = K at *
  generalize hSm : 1 + (NB.fdiv 4320).fmod 60 = Sm at *
  have a0 := ec [some (.sh (.lst (ns.map .int))), some (.sh (.int 0)), some (.sh (.bl false)), some (.sh (.int 10)), none, none, none, none, none, none, none, none, none, none, none, none, none, none, none, none] rfl
  have a1 : (eOp (i2 addI) (eB sumB (aCons (eVar 4) aNil)) (eVar 1)) [some (.sh (.lst (ns.map .int))), some (.sh (.int 0)), some (.sh (.bl false)), some (.sh (.int 10)), some (.sh (.lst (cs.map .int))), none, none, none, none, none, none, none, none, none, none, none, none, none, none, none] = some (.val (.int W)) := op_of (sum_of (ns := cs) rfl) rfl (by rw [hS]; simp [i2, addI])
  show m_q_row [.lst (ns.map .int), .int 0, .bl false, .int 10] = _
  unfold m_q_row b_q_row
  refine fn_rt rfl rfl (seq_nx (set_of a0) (seq_nx (set_of a1) ?_))
  refine seq_nx (set_of (d := .int (cn : Int)) (by simp [eOp, obnd, eC, eVar, ov, i2, modI, addI, hcn])) ?_
  refine seq_nx (set_of (d := .int B) (by simp [eOp, obnd, eC, eVar, ov, i2, modI, divI, k10, eTup, lbnd, aCons, aNil, obndL, lbndL, smallL, eB'])) ?_
  refine seq_nx (set_of (d := .int G) (by simp [eOp, obnd, eC, eVar, ov, i2, modI, divI, k60, eTup, lbnd, aCons, aNil, obndL, lbndL, smallL, eG])) ?_
  refine seq_nx (set_of (d := .int K) (by simp [eOp, obnd, eC, eVar, ov, i2, modI, divI, k180, hK])) ?_
  refine seq_nx (set_of (d := .int (-G * M6)) (by simp [eOp, obnd, eC, eNeg, eVar, ov, i2, modI, divI, k720, hM6, mulI, z1, z2])) ?_
  refine seq_nx (parM_of (xs := []) (y := .int NB) rfl (call3 rfl (op_of rfl rfl rfl) rfl nb)) ?_
  refine seq_nx (par_of (x := .int Sm) (y := .int Lt) (by simp [eOp, obnd, eC, eVar, ov, i2, modI, divI, addI, k4320, hSm]) (by simp [eOp, obnd, eC, eVar, ov, i2, modI, divI, k259, eTup, lbnd, aCons, aNil, obndL, lbndL, smallL, eLt])) ?_
  refine seq_nx (for_of (wRng1_of (n := cn) rfl (by omega)) f) ?_
  exact frz_of rfl (ret_of rfl)
end BD
namespace BD
open PySem L2
noncomputable def wholeD : D → Bool
  | .int _ => true
  | _ => false
noncomputable def plainD : D → Bool
  | .fn _ => false
  | .exn _ => false
  | .obj _ _ => false
  | _ => true
inductive BadSh : D → Prop
  | kind {d : D} (h : plainD d = true) (n : ∀ ds, d ≠ .tup ds) : BadSh d
  | len {ds : List D} (h : ds.length ≠ 2) : BadSh (.tup ds)
  | top {a b : D} (h : plainD a = true) (w : wholeD a = false) : BadSh (.tup [a, b])
  | bot {a : Int} {b : D} (h : plainD b = true) (w : wholeD b = false) : BadSh (.tup [.int a, b])
  | low {a b : Int} (h : b < 1) : BadSh (.tup [.int a, .int b])
  | gcd {a b : Int} (h : 0 < b) (g : Int.gcd a b ≠ 1) : BadSh (.tup [.int a, .int b])
theorem var_of {i : Nat} {ρ : Rho} {d : D} (h : ρ[i]? = some (some (.sh d))) : eVar i ρ = some (.val d) := by unfold eVar; rw [h]
end BD
namespace BD
open PySem L2
theorem blsO_of {α : Type} {h : α → Bool} : ∀ (xs : List α), blsO (xs.map fun x => D.bl (h x)) = some (xs.map h)
  | [] => rfl
  | x :: xs => by simp [blsO, blsO_of xs]
theorem all_compB {α : Type} {f : EvL} {g : Gv} {q e : Ev} {vs : List Nat} {ρ : Rho} {xs : List α} {F : α → D} {h : α → Bool} (hf : f ρ = some (.vals (xs.map F))) (hl : xs.length ≤ 1000)
    (H : ∀ x ∈ xs, ∃ ρ', g (F x) (wipeR ρ vs) = some ρ' ∧ q ρ' = some (.val (.bl true)) ∧ e ρ' = some (.val (.bl (h x)))) : eB allB (aCons (eFr (lComp f g q e vs)) aNil) ρ = some (.val (.bl (xs.all h))) := by
  have e1 := eFr_of (lComp_map (h := fun x => D.bl (h x)) hf hl H)
  have a : allB [.lst (xs.map fun x => D.bl (h x))] = some (.bl (xs.all h)) := by
    simp only [allB, blsO_of, Option.map_some]
    simp [List.all_map]
  unfold eB aCons lbnd obndL
  rw [e1]
  simp only [aNil, lbndL, a]
  rfl
theorem seq_of {f : Ev} {ρ : Rho} {ds : List D} (h : f ρ = some (.val (.lst ds))) : wSeq f ρ = some (.vals ds) := by
  simp [wSeq, obndL, h]
theorem fmod_pos_range {a : Int} {n : Int} (h : 0 < n) : 0 ≤ a.fmod n ∧ a.fmod n < n := by
  rw [fmod_pos h]
  exact ⟨Int.emod_nonneg a (by omega), Int.emod_lt_of_pos a h⟩
theorem mod_of {i j : Int} (h : 0 < j) : i2 modI (.int i) (.int j) = some (.int (i.fmod j)) := by
  have : j ≠ 0 := by omega
  simp [i2, modI, this]
theorem div_of {i j : Int} (h : 0 < j) (hs : j.natAbs.log2 < 9000) : i2 divI (.int i) (.int j) = some (.int (i.fdiv j)) := by
  have : j ≠ 0 := by omega
  simp [i2, divI, this, hs]
end BD
namespace BD
open PySem L2
theorem wide_of {t b : Int} {x : Rat} (h0 : 0 < b) (e : (t : Rat) / b = x) : x.num.natAbs ≤ t.natAbs ∧ (x.den : Int) ≤ b := by
  obtain ⟨p, q, k, e1, s, hk, e2, e3⟩ := shr_sh (a := t) h0
  have hq := s.pos
  have e4 : sh p q = shR x := sh_shR s ((cross (by omega) (by omega) (by rw [← e2, ← e3]; grind)).trans e)
  have e5 : p = x.num ∧ q = (x.den : Int) := by
    unfold shR sh at e4
    injection e4 with e4
    injection e4 with e6 e7
    injection e7 with e8 _
    exact ⟨D.int.inj e6, D.int.inj e8⟩
  obtain ⟨rfl, h2⟩ := e5
  refine ⟨abs_le_of_mul e2 hk, ?_⟩
  rw [← h2, ← e3]
  have z : q * 1 ≤ q * k := Int.mul_le_mul_of_nonneg_left (by omega) (by omega)
  omega
structure TW (t : Rat) : Prop where
  n : Bd 1049000 t.num
  d : Bd 400 t.den
theorem bd_le {n : Nat} {a b : Int} (h : a.natAbs ≤ b.natAbs) (k : Bd n b) : Bd n a := Nat.lt_of_le_of_lt h k
theorem vt_w {v t : Rat} (hv : RS v) (ht : TW t) : Bd 1049100 (v * t).num ∧ Bd 450 (v * t).den := by
  have bv := hv.bd
  obtain ⟨h1, h2⟩ := wide_of (dd_pos v t) (mul_val v t)
  refine ⟨bd_le h1 ((bv.t.mul ht.n).mono (by decide)), ?_⟩
  have p1 := den_pos (v * t)
  exact (bd_le (by omega) (bv.b.mul ht.d)).mono (by decide)
theorem q_there_w {x v t : Rat} (hx : RS x) (hv : RS v) (ht : TW t) : m_q_there [.tup [shR x, shR v], shR t] = some (.val (shR (x + v * t))) := by
  have bv := hv.bd
  have bx := hx.bd
  obtain ⟨w1, w2⟩ := vt_w hv ht
  have s1 := bv.t.small (by decide)
  have s2 := bv.b.small (by decide)
  have s3 := ht.n.small (by decide)
  have s4 := ht.d.small (by decide)
  have s5 := bx.t.small (by decide)
  have s6 := bx.b.small (by decide)
  have s7 := w1.small (by decide)
  have s8 := w2.small (by decide)
  have e1 := low_R (dd_pos v t) (bv.b.mul ht.d) (by decide) (mul_val v t)
  have e2 := low_R (dd_pos x (v * t)) (bx.b.mul w2) (by decide) (add_val x (v * t))
  have by1 : m_q_by [shR v, shR t] = some (.val (shR (v * t))) := by
    simp [m_q_by, b_q_by, fnSem, sRet, sbnd, eCall, lbnd, aCons, aNil, obndL, lbndL, eOp, obnd, eVar, eC, ix_R0, ix_R1, ov, i2, mulI, s1, s2, s3, s4, e1]
  have su1 : m_q_sum [shR x, shR (v * t)] = some (.val (shR (x + v * t))) := by
    simp [m_q_sum, b_q_sum, fnSem, sRet, sbnd, eCall, lbnd, aCons, aNil, obndL, lbndL, eOp, obnd, eVar, eC, ix_R0, ix_R1, ov, i2, mulI, addI, s5, s6, s7, s8, e2]
  unfold m_q_there b_q_there
  exact fn_rt rfl rfl (ret_of (call2 (op_of rfl rfl rfl) (call2 (op_of rfl rfl rfl) rfl by1) su1))
noncomputable def run4 (k : Nat) (b : Bead) : D := .tup [.int (k : Int), .int (k : Int), shR b.x, shR b.v]
noncomputable def runL (r : List Bead) (k : Nat) : D := match r[k]? with
  | some b => run4 k b
  | none => .non
theorem runs_ok {r : List Bead} (h : GR r) : m_runs_of [.lst (r.map bD)] = some (.val (.lst ((List.range r.length).map (runL r)))) := by
  unfold m_runs_of b_runs_of
  refine fn_rt rfl rfl (ret_of (eFr_of (lComp_map (xs := List.range r.length) (F := fun k : Nat => D.tup [.int ((k : Nat) : Int), ((r.map bD)[k]?).getD .non]) ?_ (by have := h.ten; simp; omega) fun k hk => ?_)))
  · show wEnum _ _ = _
    simp [wEnum, lbndL, aCons, aNil, obndL, eVar, enumD]
  · have hk := List.mem_range.mp hk
    obtain ⟨b, hb, _⟩ := get_lt hk
    have e : ((r.map bD)[k]?).getD .non = bD b := by rw [List.getElem?_map, hb]; rfl
    refine ⟨_, by rw [e]; rfl, rfl, ?_⟩
    have e2 : runL r k = run4 k b := by unfold runL; rw [hb]
    rw [e2]
    rfl
theorem run_at {r : List Bead} {k : Nat} {b : Bead} (h : r[k]? = some b) : ixD (.lst ((List.range r.length).map (runL r))) (.int (k : Int)) = some (run4 k b) := by
  have hk : k < r.length := (List.getElem?_eq_some_iff.mp h).1
  have e2 : runL r k = run4 k b := by unfold runL; rw [h]
  rw [← e2]
  exact ix_map (by simp [hk])
theorem num_le {q : Rat} : q.num ≤ 0 ↔ q ≤ 0 := by
  have := Rat.le_iff q 0
  simp at this
  exact this.symm
noncomputable def waitD (a b : Bead) : D := if a.v ≤ b.v then .non else shR ((b.x - a.x) / (a.v - b.v))
theorem wait_ok {a b : Bead} (ga : GB a) (gb : GB b) (k j : Nat) : m_wait_between [run4 k a, run4 j b] = some (.val (waitD a b)) := by
  have c1 := lessened_R ga.v.bd gb.v.bd (by decide)
  have c2 := lessened_R gb.x.bd ga.x.bd (by decide)
  unfold m_wait_between b_wait_between
  refine fn_rt rfl rfl (seq_nx (ρ' := [some (.sh (run4 k a)), some (.sh (run4 j b)), none, some (.sh (.int k)), some (.sh (.int k)), some (.sh (shR a.x)), some (.sh (shR a.v)), none, none, none, none]) ?_ (seq_nx (ρ' := [some (.sh (run4 k a)), some (.sh (run4 j b)), none, some (.sh (.int k)), some (.sh (.int k)), some (.sh (shR a.x)), some (.sh (shR a.v)), some (.sh (.int j)), some (.sh (.int j)), some (.sh (shR b.x)), some (.sh (shR b.v))]) ?_ (seq_nx (set_of (call2 rfl rfl c1)) ?_)))
  · simp [sAsg, sbnd, eVar, run4, gTp, gsCons, gNm, gsNil]
  · simp [sAsg, sbnd, eVar, run4, gTp, gsCons, gNm, gsNil]
  by_cases h : a.v ≤ b.v
  · have h1 : (a.v - b.v).num ≤ 0 := num_le.mpr (by grind)
    have e : waitD a b = .non := by unfold waitD; rw [if_pos h]
    rw [e]
    exact seq_rt (if_yes (op_of (op_of rfl rfl (ix_R0 _)) rfl (by simp [i2, leI, h1])) (ret_of rfl))
  · have h1 : ¬ (a.v - b.v).num ≤ 0 := fun z => h (by have := num_le.mp z; grind)
    have e : waitD a b = shR ((b.x - a.x) / (a.v - b.v)) := by unfold waitD; rw [if_neg h]
    rw [e]
    exact seq_nx (if_no (op_of (op_of rfl rfl (ix_R0 _)) rfl (by simp [i2, leI, h1]))) (ret_of (call2 (call2 rfl rfl c2) rfl (parted_R (gb.x.bd.sub ga.x.bd) (ga.v.bd.sub gb.v.bd) (by omega) (by decide))))
theorem eqD_R_non (x : Rat) : eqD (shR x) .non = some (.bl false) := by
  simp [eqD, eqvD, shR, sh, pyO, pyOs, SeqAt.shaped, PyData.canLay0, PyData.canLayAll0, PyData.depth, PyData.depthAll, PyData.eqv]
section
variable {r : List Bead} {k : Nat} {a b : Bead} {t : Rat} (g : GR r) (ha : r[k]? = some a) (hb : r[k + 1]? = some b)
include g ha hb
theorem wait_ev {ρ : Rho} (h1 : ρ[3]? = some (some (.sh (.lst ((List.range r.length).map (runL r)))))) (h2 : ρ[2]? = some (some (.sh (.int (k : Int))))) :
    eCall m_wait_between (aCons (eOp ixD (eVar 3) (eVar 2)) (aCons (eOp ixD (eVar 3) (eOp (i2 addI) (eVar 2) (eC (.int 1)))) aNil)) ρ = some (.val (waitD a b)) :=
  call2 (op_of (var_of h1) (var_of h2) (run_at ha)) (op_of (var_of h1) (op_of (var_of h2) rfl rfl) (run_at hb)) (wait_ok (g.good a (List.mem_of_getElem? ha)) (g.good b (List.mem_of_getElem? hb)) k (k + 1))
theorem never_shows : m_Never_shows [.obj 4 [], .lst (r.map bD), .int (k : Int)] = some (.val (.bl (decide (a.v ≤ b.v)))) := by
  unfold m_Never_shows b_Never_shows
  refine fn_rt rfl rfl (seq_nx (set_of (call1 rfl (runs_ok g))) (ret_of (op_of (wait_ev g ha hb rfl rfl) rfl ?_)))
  unfold waitD
  by_cases h : a.v ≤ b.v
  · rw [if_pos h, decide_eq_true h]; rfl
  · rw [if_neg h, decide_eq_false h]; rfl
theorem meet_shows : m_Meet_shows [.obj 3 [shR t], .lst (r.map bD), .int (k : Int)] = some (.val (.bl (!decide (a.v ≤ b.v) && decide (t = (b.x - a.x) / (a.v - b.v))))) := by
  unfold m_Meet_shows b_Meet_shows
  refine fn_rt rfl rfl (seq_nx (set_of (call1 rfl (runs_ok g))) (ret_of (and_of (call1 (d := shR t) rfl (is_share_R t)) (op_of (d := shR t) rfl (wait_ev g ha hb rfl rfl) ?_))))
  unfold waitD
  by_cases h : a.v ≤ b.v
  · rw [if_pos h, decide_eq_true h, eqD_R_non]; rfl
  · rw [if_neg h, decide_eq_false h, eqD_R]; simp
end
theorem far_ok {x y : Rat} (hx : RS x) (hy : RS y) : m_q_far [shR x, shR y] = some (.val (.int (x.num * y.den - y.num * x.den))) := by
  obtain ⟨s1, s2⟩ := hx.bd.small (by decide)
  obtain ⟨s3, s4⟩ := hy.bd.small (by decide)
  simp [m_q_far, b_q_far, fnSem, sRet, sbnd, eOp, obnd, eVar, eC, ix_R0, ix_R1, ov, i2, mulI, subI, s1, s2, s3, s4]
theorem far_pos {x y : Rat} : 0 < x.num * y.den - y.num * x.den ↔ y < x := by
  have := Rat.lt_iff y x
  constructor
  · intro h; exact this.mpr (by omega)
  · intro h; have := this.mp h; omega
theorem nice_bl (b : Bool) : Nice 0 (.bl b) := ⟨_, rfl, rfl, Nat.le_refl _⟩
theorem nice_two (a b : Bool) : Nice 1 (.lst [.bl a, .bl b]) := nice_lst fun d hd => by
  simp only [List.mem_cons, List.not_mem_nil, or_false] at hd
  rcases hd with rfl | rfl <;> exact nice_bl _
end BD
namespace BD
open PySem L2
theorem methU_of {gl : FnL} {fo : Ev} {fs : EvL} {ρ : Rho} {m : Nat} {ds as : List D} {g : List D → Option Out} {o : Option Out} (h : fo ρ = some (.val (.obj m ds))) (hg : gl.lookup m = some g) (ha : fs ρ = some (.vals as)) (k : g (.obj m ds :: as) = o) : eMethU gl fo fs ρ = o := by
  unfold eMethU obnd
  rw [h]
  dsimp only
  rw [hg]
  dsimp only
  unfold lbnd
  rw [ha]
  exact k
theorem iso_of {tb : Nat → Option Bool} {f : Ev} {ρ : Rho} {n : Nat} {ds : List D} {b : Bool} (h : f ρ = some (.val (.obj n ds))) (ht : tb n = some b) : eIso tb f ρ = some (.val (.bl b)) := by
  unfold eIso obnd
  rw [h]
  dsimp only
  rw [ht]
theorem fld_of {n i : Nat} {f : Ev} {ρ : Rho} {ds : List D} {d : D} (h : f ρ = some (.val (.obj n ds))) (hd : ds[i]? = some d) : eFld n i f ρ = some (.val d) := by
  unfold eFld obnd
  rw [h]
  dsimp only
  rw [if_pos rfl, hd]
  rfl
theorem qv_of {f : Ev} {ρ : Rho} {b : Bool} (h : f ρ = some (.val (.bl b))) : qV f ρ = some (.val (.bl b)) := by
  unfold qV obnd
  rw [h]
  rfl
theorem or_b {f g : Ev} {ρ : Rho} {x y : Bool} (h : f ρ = some (.val (.bl x))) (k : g ρ = some (.val (.bl y))) : qOr f g ρ = some (.val (.bl (x || y))) := by
  cases x
  · exact or_of h k
  · exact or_yes h
theorem and_b {f g : Ev} {ρ : Rho} {x y : Bool} (h : f ρ = some (.val (.bl x))) (k : g ρ = some (.val (.bl y))) : qAnd f g ρ = some (.val (.bl (x && y))) := by
  cases x
  · exact and_no h
  · exact and_of h k
theorem four_of {f1 f2 f3 f4 : Ev} {ρ : Rho} {d1 d2 d3 d4 : D} (h1 : f1 ρ = some (.val d1)) (h2 : f2 ρ = some (.val d2)) (h3 : f3 ρ = some (.val d3)) (h4 : f4 ρ = some (.val d4)) :
    eFr (lLst (aCons f1 (aCons f2 (aCons f3 (aCons f4 aNil))))) ρ = some (.val (.lst [d1, d2, d3, d4])) := by
  simp [eFr, lLst, lbnd, aCons, aNil, obndL, lbndL, h1, h2, h3, h4, smallL]
theorem tup3_of {f1 f2 f3 : Ev} {ρ : Rho} {d1 d2 d3 : D} (h1 : f1 ρ = some (.val d1)) (h2 : f2 ρ = some (.val d2)) (h3 : f3 ρ = some (.val d3)) : eTup (aCons f1 (aCons f2 (aCons f3 aNil))) ρ = some (.val (.tup [d1, d2, d3])) := by
  simp [eTup, lbnd, aCons, aNil, obndL, lbndL, h1, h2, h3, smallL]
theorem any4 {f : Ev} {ρ : Rho} (h : f ρ = some (.val (.lst [.bl false, .bl false, .bl false, .bl false]))) : eB anyB (aCons f aNil) ρ = some (.val (.bl false)) := by
  simp [eB, lbnd, aCons, aNil, obndL, lbndL, h, anyB, blsO, ov]
theorem BdR.tw {n : Nat} {x : Rat} (h : BdR n x) (hn : n ≤ 400) : TW x := ⟨h.t.mono (by omega), h.b.mono hn⟩
theorem sl_bead {b : Bead} {f : Ev} {ρ : Rho} (h : f ρ = some (.val (bD b))) : eSlT f (oSome (eC (.int 1))) oNone ρ = some (.val (.tup [shR b.x, shR b.v])) := by
  unfold eSlT
  rw [h]
  rfl
theorem far_w {n m : Nat} {x y : Rat} (hx : BdR n x) (hy : BdR m y) (hn : n ≤ 8000) (hm : m ≤ 8000) : m_q_far [shR x, shR y] = some (.val (.int (x.num * y.den - y.num * x.den))) := by
  obtain ⟨s1, s2⟩ := hx.small hn
  obtain ⟨s3, s4⟩ := hy.small hm
  simp [m_q_far, b_q_far, fnSem, sRet, sbnd, eOp, obnd, eVar, eC, ix_R0, ix_R1, ov, i2, mulI, subI, s1, s2, s3, s4]
theorem far_le {x y : Rat} : x.num * y.den - y.num * x.den ≤ 0 ↔ x ≤ y := by
  have h := far_pos (x := x) (y := y)
  constructor
  · intro z
    have : ¬ y < x := fun w => by have := h.mpr w; omega
    grind
  · intro z
    have : ¬ 0 < x.num * y.den - y.num * x.den := fun w => by have := h.mp w; grind
    omega
theorem far_neg {x y : Rat} : x.num * y.den - y.num * x.den < 0 ↔ x < y := by
  have h := far_pos (x := y) (y := x)
  constructor
  · intro z; exact h.mp (by omega)
  · intro z; have := h.mpr z; omega
noncomputable def meetT (a b : Bead) : Rat := (b.x - a.x) / (a.v - b.v)
noncomputable def ansD (a b : Bead) : D := if a.v ≤ b.v then .obj 4 [] else .obj 3 [shR (meetT a b)]
section
variable {r : List Bead} {k : Nat} {a b : Bead} {t : Rat} (g : GR r) (ha : r[k]? = some a) (hb : r[k + 1]? = some b)
include g ha hb
theorem pair_ok : m_pair_meets [.lst (r.map bD), .int (k : Int)] = some (.val (ansD a b)) := by
  have hk : k + 1 < r.length := (List.getElem?_eq_some_iff.mp hb).1
  have wt := wait_ok (g.good a (List.mem_of_getElem? ha)) (g.good b (List.mem_of_getElem? hb)) k (k + 1)
  have e0 : eqD (.int (k : Int)) (.int (((r.map bD).length : Int) - 1)) = some (.bl false) := by
    rw [eqD_int, List.length_map]
    have : ((k : Int) == (r.length : Int) - 1) = false := by
      rw [beq_eq_false_iff_ne]; omega
    rw [this]
  unfold m_pair_meets b_pair_meets
  by_cases h : a.v ≤ b.v
  · have e : ansD a b = .obj 4 [] := by unfold ansD; rw [if_pos h]
    have e2 : waitD a b = .non := by unfold waitD; rw [if_pos h]
    rw [e]
    rw [e2] at wt
    exact fn_rt rfl rfl (seq_nx (expr_of (call1 rfl (need_row_ok g))) (seq_nx (expr_of (call2 rfl rfl (need_bead_ok (by omega)))) (seq_nx (if_no (op_of rfl (op_of (len_of rfl) rfl rfl) e0)) (seq_nx (set_of (call1 rfl (runs_ok g))) (seq_nx (set_of (d := .non) (call2 (op_of rfl rfl (run_at ha)) (op_of rfl (op_of rfl rfl rfl) (run_at hb)) wt)) (seq_rt (if_yes (op_of rfl rfl rfl) (ret_of rfl))))))))
  · have e : ansD a b = .obj 3 [shR (meetT a b)] := by unfold ansD; rw [if_neg h]
    have e2 : waitD a b = shR (meetT a b) := by unfold waitD; rw [if_neg h]; rfl
    rw [e]
    rw [e2] at wt
    exact fn_rt rfl rfl (seq_nx (expr_of (call1 rfl (need_row_ok g))) (seq_nx (expr_of (call2 rfl rfl (need_bead_ok (by omega)))) (seq_nx (if_no (op_of rfl (op_of (len_of rfl) rfl rfl) e0)) (seq_nx (set_of (call1 rfl (runs_ok g))) (seq_nx (set_of (d := shR (meetT a b)) (call2 (op_of rfl rfl (run_at ha)) (op_of rfl (op_of rfl rfl rfl) (run_at hb)) wt)) (seq_nx (if_no (op_of rfl rfl rfl)) (ret_of rfl)))))))
theorem due_never : m_q_due [.lst (r.map bD), .int (k : Int), .obj 4 []] = some (.val (.bl (decide (a.v ≤ b.v)))) := by
  have ga := g.good a (List.mem_of_getElem? ha)
  have gb := g.good b (List.mem_of_getElem? hb)
  have i1 : ixD (.lst (r.map bD)) (.int (k : Int)) = some (bD a) := ix_map ha
  have i2' : ixD (.lst (r.map bD)) (.int ((k : Int) + 1)) = some (bD b) := ix_map hb
  have fr := far_ok ga.v gb.v
  unfold m_q_due b_q_due
  refine fn_rt rfl rfl (seq_nx (par_of (sl_bead (op_of rfl rfl i1)) (sl_bead (op_of rfl (op_of rfl rfl rfl) i2'))) (seq_rt (if_yes (qv_of (iso_of rfl rfl)) (ret_of (op_of (call2 (op_of rfl rfl rfl) (op_of rfl rfl rfl) fr) rfl ?_)))))
  simp only [i2, leI, far_le]
theorem due_meet (ht : BdR 200 t) : m_q_due [.lst (r.map bD), .int (k : Int), .obj 3 [shR t]] = some (.val (.bl (!decide (a.v ≤ b.v) && decide (t = (b.x - a.x) / (a.v - b.v))))) := by
  have ga := g.good a (List.mem_of_getElem? ha)
  have gb := g.good b (List.mem_of_getElem? hb)
  have i1 : ixD (.lst (r.map bD)) (.int (k : Int)) = some (bD a) := ix_map ha
  have i2' : ixD (.lst (r.map bD)) (.int ((k : Int) + 1)) = some (bD b) := ix_map hb
  have fr := far_ok ga.v gb.v
  have th1 := q_there_w ga.x ga.v (ht.tw (by decide))
  have th2 := q_there_w gb.x gb.v (ht.tw (by decide))
  unfold m_q_due b_q_due
  refine fn_rt rfl rfl (seq_nx (par_of (sl_bead (op_of rfl rfl i1)) (sl_bead (op_of rfl (op_of rfl rfl rfl) i2'))) (seq_nx (if_no (qv_of (iso_of rfl rfl))) ?_))
  by_cases h : a.v ≤ b.v
  · rw [decide_eq_true h]
    exact seq_rt (if_yes (or_yes (op_of (call2 (op_of rfl rfl rfl) (op_of rfl rfl rfl) fr) rfl (by simp only [i2, leI, far_le, decide_eq_true h]))) (ret_of rfl))
  · rw [decide_eq_false h]
    have h3 : a.v - b.v ≠ 0 := by grind
    have h4 : t = (b.x - a.x) / (a.v - b.v) ↔ a.x + a.v * t = b.x + b.v * t := by
      constructor
      · intro e; rw [e]; grind
      · intro e
        have : t * (a.v - b.v) = b.x - a.x := by grind
        grind
    refine seq_nx (if_no (or_of (op_of (call2 (op_of rfl rfl rfl) (op_of rfl rfl rfl) fr) rfl (by simp only [i2, leI, far_le, decide_eq_false h])) (not_yes (call1 (fld_of rfl rfl) (q_is_share_R ht (by decide)))))) (ret_of (op_of (call2 rfl (fld_of rfl rfl) th1) (call2 rfl (fld_of rfl rfl) th2) ?_))
    rw [eqD_R]
    simp [h4]
end
theorem others_ok {rs : List (List Bead)} {k : Nat} {m : Nat} {ds : List D} {gsh : List D → Option Out} (hg : List.lookup m [(3, m_Meet_shows), (4, m_Never_shows)] = some gsh)
    (hs : ∀ s ∈ rs, ∃ c : Bool, gsh [.obj m ds, .lst (s.map bD), .int (k : Int)] = some (.val (.bl c)) ∧ m_q_due [.lst (s.map bD), .int (k : Int), .obj m ds] = some (.val (.bl c))) (x0 x2 x3 x4 x5 x7 x8 x9 x11 x12 x13 : Option Sl) :
    ∃ z6, forS (gNm 6) l1_q_right (rs.map fun s => .lst (s.map bD)) [x0, some (.sh (.int (k : Int))), x2, x3, x4, x5, none, x7, x8, x9, some (.sh (.obj m ds)), x11, x12, x13] = some (.nx [x0, some (.sh (.int (k : Int))), x2, x3, x4, x5, z6, x7, x8, x9, some (.sh (.obj m ds)), x11, x12, x13]) := by
  obtain ⟨ρ', e, z6, rfl⟩ := for_inv (g := gNm 6) (body := l1_q_right) (P := fun ρ => ∃ z6 : Option Sl, ρ = [x0, some (.sh (.int (k : Int))), x2, x3, x4, x5, z6, x7, x8, x9, some (.sh (.obj m ds)), x11, x12, x13]) (ds := rs.map fun s => .lst (s.map bD)) ⟨none, rfl⟩ (by
    rintro d hd ρ ⟨z6, rfl⟩
    obtain ⟨s, hs', rfl⟩ := List.mem_map.mp hd
    obtain ⟨c, e1, e2⟩ := hs s hs'
    refine ⟨_, _, rfl, ?_, some (.sh (.lst (s.map bD))), rfl⟩
    unfold l1_q_right
    exact if_no (op_of (methU_of rfl hg (two_of rfl rfl) e1) (call3 rfl rfl rfl e2) (neD_refl (nice_bl c) (by decide))))
  exact ⟨z6, e⟩
end BD
namespace BD
open PySem L2
theorem much_ok {a b : Bead} {fast : Bool} {p q : Int} {μ m : Rat} {fd : D} (ga : GB a) (gb : GB b) (e : D.tup [.int p, .int q] = shR μ) (hm : BdR 200 m) (x0 x1 x2 x4 x5 x6 x11 x12 x13 : Option Sl)
    (hmo : eIf (qV (eVar 3)) (eCall m_q_by (aCons (eFld 3 0 (eVar 10)) (aCons (eVar 7) aNil))) (eVar 7) [x0, x1, x2, some (.sh (.bl fast)), x4, x5, x6, some (.sh (.tup [.int p, .int q])), some (.sh (.tup [shR a.x, shR a.v])), some (.sh (.tup [shR b.x, shR b.v])), some (.sh fd), x11, x12, x13] = some (.val (shR m)))
    (h1 : (fast = false ∨ p < q) → a.x + a.v * m < b.x + b.v * m) (h2 : fast = true → q < p → b.x + b.v * m < a.x + a.v * m) :
    ∃ y12 y13, l2_q_right [x0, x1, x2, some (.sh (.bl fast)), x4, x5, x6, some (.sh (.tup [.int p, .int q])), some (.sh (.tup [shR a.x, shR a.v])), some (.sh (.tup [shR b.x, shR b.v])), some (.sh fd), x11, x12, x13] = some (.nx [x0, x1, x2, some (.sh (.bl fast)), x4, x5, x6, some (.sh (.tup [.int p, .int q])), some (.sh (.tup [shR a.x, shR a.v])), some (.sh (.tup [shR b.x, shR b.v])), some (.sh fd), x11, y12, y13]) := by
  have th1 := q_there_w ga.x ga.v (hm.tw (by decide))
  have th2 := q_there_w gb.x gb.v (hm.tw (by decide))
  have fr := far_w (ga.x.bd.add (ga.v.bd.mul hm)) (gb.x.bd.add (gb.v.bd.mul hm)) (by decide) (by decide)
  have n1 := far_neg (x := a.x + a.v * m) (y := b.x + b.v * m)
  have n2 := far_pos (x := a.x + a.v * m) (y := b.x + b.v * m)
  refine ⟨some (.sh (shR m)), some (.sh (.int ((a.x + a.v * m).num * (b.x + b.v * m).den - (b.x + b.v * m).num * (a.x + a.v * m).den))), ?_⟩
  generalize (a.x + a.v * m).num * (b.x + b.v * m).den - (b.x + b.v * m).num * (a.x + a.v * m).den = G at *
  unfold l2_q_right
  refine seq_nx (set_of hmo) (seq_nx (set_of (call2 (call2 rfl rfl th1) (call2 rfl rfl th2) fr)) (if_no ((or_b (x := decide (0 ≤ G) && (!fast || decide (p < q))) (y := decide (G ≤ 0) && (fast && decide (q < p))) (and_b (op_of rfl rfl rfl) (or_b (not_of (qv_of rfl)) (op_of (op_of rfl rfl rfl) (op_of rfl rfl rfl) rfl))) (and_b (op_of rfl rfl rfl) (and_b (qv_of rfl) (op_of (op_of rfl rfl rfl) (op_of rfl rfl rfl) rfl)))).trans ?_)))
  have z : (decide (0 ≤ G) && (!fast || decide (p < q)) || (decide (G ≤ 0) && (fast && decide (q < p)))) = false := by
    rw [Bool.or_eq_false_iff]
    constructor
    · rw [Bool.and_eq_false_iff]
      by_cases w : fast = false ∨ p < q
      · left
        have := n1.mpr (h1 w)
        exact decide_eq_false (by omega)
      · right
        have w1 : fast = true := by cases fast <;> simp_all
        have w2 : ¬ p < q := fun z => w (Or.inr z)
        simp [w1, w2]
    · rw [Bool.and_eq_false_iff]
      by_cases w1 : fast = true
      · by_cases w2 : q < p
        · left
          have := n2.mpr (h2 w1 w2)
          exact decide_eq_false (by omega)
        · right; simp [w2]
      · right; simp [w1]
  rw [z]
theorem muchs_ok {a b : Bead} {fast : Bool} {fd : D} (ga : GB a) (gb : GB b) (x0 x1 x2 x4 x5 x6 x11 : Option Sl) (mo : Rat → Rat) (hmo : ∀ {p q : Int} {μ : Rat}, D.tup [.int p, .int q] = shR μ → BdR 10 μ → ∀ x12 x13 : Option Sl, BdR 200 (mo μ) ∧ eIf (qV (eVar 3)) (eCall m_q_by (aCons (eFld 3 0 (eVar 10)) (aCons (eVar 7) aNil))) (eVar 7) [x0, x1, x2, some (.sh (.bl fast)), x4, x5, x6, some (.sh (.tup [.int p, .int q])), some (.sh (.tup [shR a.x, shR a.v])), some (.sh (.tup [shR b.x, shR b.v])), some (.sh fd), x11, x12, x13] = some (.val (shR (mo μ))))
    (h1 : ∀ μ : Rat, 0 ≤ μ → (fast = false ∨ μ < 1) → a.x + a.v * mo μ < b.x + b.v * mo μ) (h2 : ∀ μ : Rat, fast = true → 1 < μ → b.x + b.v * mo μ < a.x + a.v * mo μ) :
    ∃ z7 z12 z13, forS (gNm 7) l2_q_right [.tup [.int 1, .int 2], .tup [.int 0, .int 1], .tup [.int 3, .int 2], .tup [.int 7, .int 1]] [x0, x1, x2, some (.sh (.bl fast)), x4, x5, x6, none, some (.sh (.tup [shR a.x, shR a.v])), some (.sh (.tup [shR b.x, shR b.v])), some (.sh fd), x11, none, none] = some (.nx [x0, x1, x2, some (.sh (.bl fast)), x4, x5, x6, z7, some (.sh (.tup [shR a.x, shR a.v])), some (.sh (.tup [shR b.x, shR b.v])), some (.sh fd), x11, z12, z13]) := by
  obtain ⟨ρ', e, z7, z12, z13, rfl⟩ := for_inv (g := gNm 7) (body := l2_q_right) (P := fun ρ => ∃ z7 z12 z13 : Option Sl, ρ = [x0, x1, x2, some (.sh (.bl fast)), x4, x5, x6, z7, some (.sh (.tup [shR a.x, shR a.v])), some (.sh (.tup [shR b.x, shR b.v])), some (.sh fd), x11, z12, z13]) (ds := [.tup [.int 1, .int 2], .tup [.int 0, .int 1], .tup [.int 3, .int 2], .tup [.int 7, .int 1]]) ⟨none, none, none, rfl⟩ (by
    rintro d hd ρ ⟨z7, z12, z13, rfl⟩
    have key : ∀ {p q : Int} {μ : Rat}, D.tup [.int p, .int q] = shR μ → BdR 10 μ → 0 ≤ μ → (p < q → μ < 1) → (q < p → 1 < μ) → ∃ ρ1 ρ2, gNm 7 (D.tup [.int p, .int q]) [x0, x1, x2, some (.sh (.bl fast)), x4, x5, x6, z7, some (.sh (.tup [shR a.x, shR a.v])), some (.sh (.tup [shR b.x, shR b.v])), some (.sh fd), x11, z12, z13] = some ρ1 ∧ l2_q_right ρ1 = some (.nx ρ2) ∧ ∃ z7 z12 z13 : Option Sl, ρ2 = [x0, x1, x2, some (.sh (.bl fast)), x4, x5, x6, z7, some (.sh (.tup [shR a.x, shR a.v])), some (.sh (.tup [shR b.x, shR b.v])), some (.sh fd), x11, z12, z13] := by
      intro p q μ e bμ h0 hlt hgt
      obtain ⟨bm, em⟩ := hmo e bμ z12 z13
      obtain ⟨y12, y13, ee⟩ := much_ok (fast := fast) ga gb e bm x0 x1 x2 x4 x5 x6 x11 z12 z13 em (fun w => h1 μ h0 (w.elim Or.inl fun z => Or.inr (hlt z))) (fun w z => h2 μ w (hgt z))
      exact ⟨_, _, rfl, ee, some (.sh (.tup [.int p, .int q])), y12, y13, rfl⟩
    simp only [List.mem_cons, List.not_mem_nil, or_false] at hd
    rcases hd with rfl | rfl | rfl | rfl
    · exact key (μ := 1 / 2) (sh_shR (p := 1) (q := 2) ⟨by decide, by decide⟩ (by grind)) (BdR.div (t := 1) (b := 2) (by decide) (by unfold Bd; decide) (by unfold Bd; decide) (by grind)) (by grind) (fun _ => by grind) (fun z => by omega)
    · exact key (μ := 0) rfl (bdR_int (w := 0) (by unfold Bd; decide) (by decide)) (by grind) (fun _ => by grind) (fun z => by omega)
    · exact key (μ := 3 / 2) (sh_shR (p := 3) (q := 2) ⟨by decide, by decide⟩ (by grind)) (BdR.div (t := 3) (b := 2) (by decide) (by unfold Bd; decide) (by unfold Bd; decide) (by grind)) (by grind) (fun z => by omega) (fun _ => by grind)
    · exact key (μ := 7) rfl (bdR_int (w := 7) (by unfold Bd; decide) (by decide)) (by grind) (fun z => by omega) (fun _ => by grind))
  exact ⟨z7, z12, z13, e⟩
theorem right_ok {r : List Bead} {k : Nat} {a b : Bead} {rs : List (List Bead)} (g : GR r) (ha : r[k]? = some a) (hb : r[k + 1]? = some b) (hrs : ∀ s ∈ rs, GR s ∧ k + 1 < s.length) : m_q_right [.lst (r.map bD), .int (k : Int), .lst (rs.map fun s => .lst (s.map bD))] = some (.val (.bl true)) := by
  have ga := g.good a (List.mem_of_getElem? ha)
  have gb := g.good b (List.mem_of_getElem? hb)
  have hx := g.rise k a b ha hb
  have i1 : ixD (.lst (r.map bD)) (.int (k : Int)) = some (bD a) := ix_map ha
  have i2' : ixD (.lst (r.map bD)) (.int ((k : Int) + 1)) = some (bD b) := ix_map hb
  have fr := far_ok ga.v gb.v
  have pm := pair_ok g ha hb
  have fp := far_pos (x := a.v) (y := b.v)
  unfold m_q_right b_q_right
  by_cases h : a.v ≤ b.v
  · have e : ansD a b = .obj 4 [] := by unfold ansD; rw [if_pos h]
    rw [e] at pm
    have du := due_never g ha hb
    have sw := never_shows g ha hb
    rw [decide_eq_true h] at du sw
    have h' : ¬ b.v < a.v := by grind
    obtain ⟨z6, f1⟩ := others_ok (rs := rs) (k := k) (m := 4) (ds := []) (gsh := m_Never_shows) rfl (fun s hs => by
      obtain ⟨gs, ls⟩ := hrs s hs
      obtain ⟨a', ha', _⟩ := get_lt (xs := s) (i := k) (by omega)
      obtain ⟨b', hb', _⟩ := get_lt (xs := s) (i := k + 1) ls
      exact ⟨_, never_shows gs ha' hb', due_never gs ha' hb'⟩) (some (.sh (.lst (r.map bD)))) (some (.sh (.lst (rs.map fun s => .lst (s.map bD))))) (some (.sh (.bl false))) (some (.sh (.lst [.bl false, .bl true]))) (some (.sh (.lst [.bl false, .bl false, .bl false, .bl false]))) none (some (.sh (.tup [shR a.x, shR a.v]))) (some (.sh (.tup [shR b.x, shR b.v]))) (some (.sh (.obj 4 []))) none none
    obtain ⟨z7, z12, z13, f2⟩ := muchs_ok (a := a) (b := b) (fast := false) (fd := .obj 4 []) ga gb (some (.sh (.lst (r.map bD)))) (some (.sh (.int (k : Int)))) (some (.sh (.lst (rs.map fun s => .lst (s.map bD))))) (some (.sh (.lst [.bl false, .bl true]))) (some (.sh (.lst [.bl false, .bl false, .bl false, .bl false]))) z6 (some (.sh (.obj 4 []))) id (fun {p q μ} e bμ x12 x13 => ⟨bμ.mono (by decide), by rw [e]; exact eif_no (qv_of rfl) rfl⟩) (fun μ h0 _ => by
      have := Rat.mul_le_mul_of_nonneg_right h h0
      show a.x + a.v * μ < b.x + b.v * μ
      grind) (fun _ z => nomatch z)
    exact fn_rt rfl rfl (seq_nx (par_of (sl_bead (op_of rfl rfl i1)) (sl_bead (op_of rfl (op_of rfl rfl rfl) i2'))) (seq_nx (set_of (d := .bl false) (op_of (call2 (op_of rfl rfl rfl) (op_of rfl rfl rfl) fr) rfl (by simp only [i2, gtI, fp, decide_eq_false h'])))
      (seq_nx (par_of (call2 rfl rfl pm) (call2 rfl rfl pm)) (seq_nx (set_of (lst2_of (d := .bl false) (d2 := .bl true) (iso_of rfl rfl) (iso_of rfl rfl))) (seq_nx (set_of (four_of (d1 := .bl false) (d2 := .bl false) (d3 := .bl false) (d4 := .bl false) (iso_of rfl rfl) (iso_of rfl rfl) (iso_of rfl rfl) (iso_of rfl rfl)))
      (seq_nx (if_no (or_of (not_yes (iso_of rfl rfl)) (or_of (op_of rfl (lst2_of (d := .bl false) (d2 := .bl true) rfl (not_of (b := false) rfl)) (neD_refl (nice_two _ _) (by decide))) (qv_of (any4 rfl)))))
      (seq_nx (if_no (or_of (not_yes (call3 rfl rfl rfl du)) (or_of (not_yes (call3 rfl rfl rfl du)) (op_of (methU_of rfl rfl (two_of rfl rfl) sw) rfl rfl))))
      (seq_nx (for_of (seq_of rfl) f1) (seq_nx (if_no (and_no (qv_of rfl))) (seq_nx (for_of (seq_of (four_of (tup2_of rfl rfl) (tup2_of rfl rfl) (tup2_of rfl rfl) (tup2_of rfl rfl))) f2) (ret_of rfl)))))))))))
  · have e : ansD a b = .obj 3 [shR (meetT a b)] := by unfold ansD; rw [if_neg h]
    rw [e] at pm
    have h' : b.v < a.v := by grind
    have hne : (a.v - b.v).num ≠ 0 := fun z => by
      have := num_le.mp (Int.le_of_eq z)
      grind
    have bt : BdR 82 (meetT a b) := BdR.quot (gb.x.bd.sub ga.x.bd) (ga.v.bd.sub gb.v.bd) hne
    have ht : meetT a b * (a.v - b.v) = b.x - a.x := by unfold meetT; grind
    have tp : ¬ meetT a b ≤ 0 := fun z => by
      have := Rat.mul_le_mul_of_nonneg_right z (show 0 ≤ a.v - b.v by grind)
      grind
    have tn : ¬ (meetT a b).num ≤ 0 := fun z => tp (num_le.mp z)
    have du := due_meet (t := meetT a b) g ha hb (bt.mono (by decide))
    have sw := meet_shows (t := meetT a b) g ha hb
    have tt : (!decide (a.v ≤ b.v) && decide (meetT a b = (b.x - a.x) / (a.v - b.v))) = true := by
      rw [decide_eq_false h]; exact decide_eq_true rfl
    rw [tt] at du sw
    obtain ⟨z6, f1⟩ := others_ok (rs := rs) (k := k) (m := 3) (ds := [shR (meetT a b)]) (gsh := m_Meet_shows) rfl (fun s hs => by
      obtain ⟨gs, ls⟩ := hrs s hs
      obtain ⟨a', ha', _⟩ := get_lt (xs := s) (i := k) (by omega)
      obtain ⟨b', hb', _⟩ := get_lt (xs := s) (i := k + 1) ls
      exact ⟨_, meet_shows gs ha' hb', due_meet gs ha' hb' (bt.mono (by decide))⟩) (some (.sh (.lst (r.map bD)))) (some (.sh (.lst (rs.map fun s => .lst (s.map bD))))) (some (.sh (.bl true))) (some (.sh (.lst [.bl true, .bl false]))) (some (.sh (.lst [.bl false, .bl false, .bl false, .bl false]))) none (some (.sh (.tup [shR a.x, shR a.v]))) (some (.sh (.tup [shR b.x, shR b.v]))) (some (.sh (.obj 3 [shR (meetT a b)]))) none none
    obtain ⟨z7, z12, z13, f2⟩ := muchs_ok (a := a) (b := b) (fast := true) (fd := .obj 3 [shR (meetT a b)]) ga gb (some (.sh (.lst (r.map bD)))) (some (.sh (.int (k : Int)))) (some (.sh (.lst (rs.map fun s => .lst (s.map bD))))) (some (.sh (.lst [.bl true, .bl false]))) (some (.sh (.lst [.bl false, .bl false, .bl false, .bl false]))) z6 (some (.sh (.obj 3 [shR (meetT a b)]))) (fun μ => meetT a b * μ) (fun {p q μ} e bμ x12 x13 => ⟨(bt.mul bμ).mono (by decide), by rw [e]; exact eif_yes (qv_of rfl) (call2 (fld_of rfl rfl) rfl (q_by_R bt bμ (by decide)))⟩) (fun μ h0 hm => by
      have w : μ < 1 := hm.elim (fun z => nomatch z) id
      have := Rat.mul_pos (show 0 < b.x - a.x by grind) (show 0 < 1 - μ by grind)
      show a.x + a.v * (meetT a b * μ) < b.x + b.v * (meetT a b * μ)
      have : (b.x + b.v * (meetT a b * μ)) - (a.x + a.v * (meetT a b * μ)) = (b.x - a.x) * (1 - μ) := by
        have : meetT a b * (a.v - b.v) * μ = (b.x - a.x) * μ := by rw [ht]
        grind
      grind) (fun μ _ w => by
      have := Rat.mul_pos (show 0 < b.x - a.x by grind) (show 0 < μ - 1 by grind)
      show b.x + b.v * (meetT a b * μ) < a.x + a.v * (meetT a b * μ)
      have : (a.x + a.v * (meetT a b * μ)) - (b.x + b.v * (meetT a b * μ)) = (b.x - a.x) * (μ - 1) := by
        have : meetT a b * (a.v - b.v) * μ = (b.x - a.x) * μ := by rw [ht]
        grind
      grind)
    exact fn_rt rfl rfl (seq_nx (par_of (sl_bead (op_of rfl rfl i1)) (sl_bead (op_of rfl (op_of rfl rfl rfl) i2'))) (seq_nx (set_of (d := .bl true) (op_of (call2 (op_of rfl rfl rfl) (op_of rfl rfl rfl) fr) rfl (by simp only [i2, gtI, fp, decide_eq_true h'])))
      (seq_nx (par_of (call2 rfl rfl pm) (call2 rfl rfl pm)) (seq_nx (set_of (lst2_of (d := .bl true) (d2 := .bl false) (iso_of rfl rfl) (iso_of rfl rfl))) (seq_nx (set_of (four_of (d1 := .bl false) (d2 := .bl false) (d3 := .bl false) (d4 := .bl false) (iso_of rfl rfl) (iso_of rfl rfl) (iso_of rfl rfl) (iso_of rfl rfl)))
      (seq_nx (if_no (or_of (not_yes (iso_of rfl rfl)) (or_of (op_of rfl (lst2_of (d := .bl true) (d2 := .bl false) rfl (not_of (b := true) rfl)) (neD_refl (nice_two _ _) (by decide))) (qv_of (any4 rfl)))))
      (seq_nx (if_no (or_of (not_yes (call3 rfl rfl rfl du)) (or_of (not_yes (call3 rfl rfl rfl du)) (op_of (methU_of rfl rfl (two_of rfl rfl) sw) rfl rfl))))
      (seq_nx (for_of (seq_of rfl) f1) (seq_nx (if_no (and_of (qv_of rfl) (op_of (op_of (fld_of rfl rfl) rfl (ix_R0 _)) rfl (by simp only [i2, leI, decide_eq_false tn])))) (seq_nx (for_of (seq_of (four_of (tup2_of rfl rfl) (tup2_of rfl rfl) (tup2_of rfl rfl) (tup2_of rfl rfl))) f2) (ret_of rfl)))))))))))
end BD
namespace BD
open PySem L2
theorem abs_of {f : Ev} {ρ : Rho} {i : Int} (h : f ρ = some (.val (.int i))) : eB absB (aCons f aNil) ρ = some (.val (.int (i.natAbs : Int))) := by
  have e : (if i < 0 then -i else i) = (i.natAbs : Int) := by split <;> omega
  simp [eB, lbnd, aCons, aNil, obndL, lbndL, h, absB, ov, e]
noncomputable def dB : Bead := ⟨1, 0, 0⟩
noncomputable def shf (k : Nat) (b : Bead) : Bead := ⟨b.w, b.x, b.v + (((k : Int).fmod 3 : Int) : Rat)⟩
noncomputable def oth (r : List Bead) : List Bead := (List.range r.length).map fun k => shf k (r.getD k dB)
noncomputable def mildB (b : Bead) : Bool := decide ((b.v.num.natAbs : Int) ≤ 1000000)
theorem get_at {r : List Bead} {k : Nat} {b : Bead} (h : r[k]? = some b) : r.getD k dB = b := by
  rw [List.getD_eq_getElem?_getD, h]
  rfl
theorem oth_len (r : List Bead) : (oth r).length = r.length := by unfold oth; rw [List.length_map, List.length_range]
theorem oth_get {r : List Bead} {k : Nat} {b : Bead} (h : r[k]? = some b) : (oth r)[k]? = some (shf k b) := by
  have hk : k < r.length := (List.getElem?_eq_some_iff.mp h).1
  unfold oth
  rw [List.getElem?_map, List.getElem?_range hk]
  show some (shf k (r.getD k dB)) = _
  rw [get_at h]
theorem shf_bd (k : Nat) : Bd 2 ((k : Int).fmod 3) := by
  have := fmod_pos_range (a := (k : Int)) (n := 3) (by decide)
  unfold Bd
  omega
theorem oth_ok {r : List Bead} (g : GR r) (x0 x1 : Option Sl) : lComp (wEnum (aCons (eVar 2) aNil)) (gTp (gsCons (gNm 7) (gsCons (gTp (gsCons (gNm 13) (gsCons (gNm 11) (gsCons (gNm 14) gsNil)))) gsNil))) qYes (eTup (aCons (eVar 13) (aCons (eVar 11) (aCons (eCall m_q_sum (aCons (eVar 14) (aCons (eTup (aCons (eOp (i2 modI) (eVar 7) (eC (.int 3))) (aCons (eC (.int 1)) aNil))) aNil))) aNil)))) [7, 13, 11, 14] [x0, x1, some (.sh (.lst (r.map bD))), none, none, none, none, none, none, none, none, none, none, none, none] = some (.vals ((oth r).map bD)) := by
  have e0 : (oth r).map bD = (List.range r.length).map fun k => bD (shf k (r.getD k dB)) := by
    unfold oth; rw [List.map_map]; rfl
  rw [e0]
  refine lComp_map (xs := List.range r.length) (F := fun k : Nat => D.tup [.int ((k : Nat) : Int), ((r.map bD)[k]?).getD .non]) ?_ (by have := g.ten; simp; omega) fun k hk => ?_
  · show wEnum _ _ = _
    simp [wEnum, lbndL, aCons, aNil, obndL, eVar, enumD]
  · have hk := List.mem_range.mp hk
    obtain ⟨b, hb, hm⟩ := get_lt hk
    have e : ((r.map bD)[k]?).getD .non = bD b := by rw [List.getElem?_map, hb]; rfl
    have qs := q_sum_R (g.good b hm).v.bd (bdR_int (shf_bd k) (by decide)) (by decide)
    refine ⟨_, by rw [e]; rfl, rfl, ?_⟩
    rw [get_at hb]
    exact tup3_of rfl rfl (call2 rfl (tup2_of (op_of rfl rfl (mod_of (by decide))) rfl) qs)
theorem mild_ok {r : List Bead} (h10 : r.length ≤ 10) (x0 x1 x2 : Option Sl) : eB allB (aCons (eFr (lComp (wSeq (eVar 3)) (gNm 5) qYes (eOp (i2 leI) (eB absB (aCons (eOp ixD (eOp ixD (eVar 5) (eC (.int 2))) (eC (.int 0))) aNil)) (eC (.int 1000000))) [5])) aNil) [x0, x1, x2, some (.sh (.lst (r.map bD))), none, none, none, none, none, none, none, none, none, none, none] = some (.val (.bl (r.all mildB))) :=
  all_compB (F := bD) (seq_of rfl) (by omega) fun b hb => ⟨_, rfl, rfl, op_of (abs_of (op_of (op_of rfl rfl (bD2 b)) rfl (ix_R0 _))) rfl rfl⟩
theorem oth_gr {r : List Bead} (g : GR r) (hm : (oth r).all mildB = true) : GR (oth r) := by
  refine ⟨by rw [oth_len]; exact g.one, by rw [oth_len]; exact g.ten, fun b hb => ?_, fun i a b ha hb => ?_⟩
  · have m := List.all_eq_true.mp hm b hb
    have m := of_decide_eq_true m
    unfold oth at hb
    obtain ⟨k, hk, rfl⟩ := List.mem_map.mp hb
    obtain ⟨c, hc, hcm⟩ := get_lt (List.mem_range.mp hk)
    rw [get_at hc] at *
    have gc := g.good c hcm
    refine ⟨gc.w1, gc.w2, gc.x, ⟨by omega, by omega, ?_⟩⟩
    obtain ⟨_, h2⟩ := wide_of (dd_pos c.v (((k : Int).fmod 3 : Int) : Rat)) (add_val c.v (((k : Int).fmod 3 : Int) : Rat))
    have h3 : ((((k : Int).fmod 3 : Int) : Rat).den : Int) = 1 := rfl
    rw [h3] at h2
    have := gc.v.den
    show (c.v + (((k : Int).fmod 3 : Int) : Rat)).den ≤ 60
    omega
  · have l1 : i < r.length := by rw [← oth_len]; exact (List.getElem?_eq_some_iff.mp ha).1
    have l2 : i + 1 < r.length := by rw [← oth_len]; exact (List.getElem?_eq_some_iff.mp hb).1
    obtain ⟨a', ha', _⟩ := get_lt l1
    obtain ⟨b', hb', _⟩ := get_lt l2
    rw [oth_get ha'] at ha
    rw [oth_get hb'] at hb
    cases ha
    cases hb
    exact g.rise i a' b' ha' hb'
theorem l1_ok {r : List Bead} {k : Nat} (g : GR r) (hk : k + 1 < r.length) (x0 x1 x6 x7 x8 x9 x10 x11 x12 x13 x14 : Option Sl) :
    l1_law [x0, x1, some (.sh (.lst (r.map bD))), some (.sh (.lst ((oth r).map bD))), some (.sh (.bl ((oth r).all mildB))), some (.sh (.int (k : Int))), x6, x7, x8, x9, x10, x11, x12, x13, x14] = some (.nx [x0, x1, some (.sh (.lst (r.map bD))), some (.sh (.lst ((oth r).map bD))), some (.sh (.bl ((oth r).all mildB))), some (.sh (.int (k : Int))), x6, x7, x8, x9, x10, x11, x12, x13, x14]) := by
  obtain ⟨a, ha, _⟩ := get_lt (xs := r) (i := k) (by omega)
  obtain ⟨b, hb, _⟩ := get_lt (xs := r) (i := k + 1) hk
  unfold l1_law
  cases hM : (oth r).all mildB with
  | false =>
    have q1 := right_ok (rs := []) g ha hb (fun s hs => nomatch hs)
    exact if_no (or_of (not_yes (call3 rfl rfl (eif_no (qv_of rfl) rfl) q1)) (and_no (qv_of rfl)))
  | true =>
    have go := oth_gr g hM
    have q1 := right_ok (rs := [oth r]) g ha hb (fun s hs => by
      rw [List.mem_singleton] at hs
      subst hs
      exact ⟨go, by rw [oth_len]; exact hk⟩)
    have q2 := right_ok (rs := [r]) go (oth_get ha) (oth_get hb) (fun s hs => by
      rw [List.mem_singleton] at hs
      subst hs
      exact ⟨g, hk⟩)
    exact if_no (or_of (not_yes (call3 rfl rfl (eif_yes (qv_of rfl) (lst1_of rfl)) q1)) (and_of (qv_of rfl) (not_yes (call3 rfl rfl (lst1_of rfl) q2))))
theorem low_ex {t b : Int} (h : 0 < b) (hb : b ≤ 60) (lo : -1000000 ≤ t) (hi : t ≤ 1000000) : ∃ x : Rat, RS x ∧ (t : Rat) / b = x ∧ m_q_low [.int t, .int b] = some (.val (shR x)) :=
  ⟨_, RS.of h hb lo hi rfl, rfl, low_R (n := 10) h (by unfold Bd; omega) (by decide) rfl⟩
theorem two_gr {v1 v2 p : Rat} (h1 : RS v1) (h2 : RS v2) (hp : RS p) (h0 : 0 < p) : GR [⟨1, ((0 : Int) : Rat), v1⟩, ⟨2, p, v2⟩] := by
  refine ⟨(show 1 ≤ 2 by decide), (show 2 ≤ 10 by decide), fun b hb => ?_, fun i a b ha hb => ?_⟩
  · simp only [List.mem_cons, List.not_mem_nil, or_false] at hb
    rcases hb with rfl | rfl
    · exact ⟨(show (1 : Int) ≤ 1 by decide), (show (1 : Int) ≤ 60 by decide), ⟨(show (-1000000 : Int) ≤ 0 by decide), (show (0 : Int) ≤ 1000000 by decide), (show 1 ≤ 60 by decide)⟩, h1⟩
    · exact ⟨(show (1 : Int) ≤ 2 by decide), (show (2 : Int) ≤ 60 by decide), hp, h2⟩
  · match i, ha, hb with
    | 0, ha, hb =>
      cases ha
      cases hb
      exact h0
    | 1, _, hb => cases hb
    | n + 2, _, hb => cases hb
theorem frac_pos {t b : Int} {x : Rat} (ht : 0 < t) (hb : 0 < b) (e : (t : Rat) / b = x) : 0 < x := by
  have h1 : (0 : Rat) < (t : Rat) := Rat.intCast_pos.mpr ht
  have h2 : (0 : Rat) < (b : Rat) := Rat.intCast_pos.mpr hb
  have h3 : x * b = t := by rw [← e]; grind
  by_cases h : x ≤ 0
  · have := Rat.mul_le_mul_of_nonneg_right h (show (0 : Rat) ≤ b by grind)
    grind
  · grind
theorem l2_ok {c W : Int} {i : Nat} (hc : Bd 1048700 c) (hW : Bd 1048700 W) (hi : i < 20) (x0 x2 x3 x4 x5 x6 x9 x10 x11 x12 x13 x14 : Option Sl) :
    ∃ y9 y10 y11 y12, l2_law [x0, some (.sh (.int W)), x2, x3, x4, x5, x6, some (.sh (.int (i : Int))), some (.sh (.int c)), x9, x10, x11, x12, x13, x14] = some (.nx [x0, some (.sh (.int W)), x2, x3, x4, x5, x6, some (.sh (.int (i : Int))), some (.sh (.int c)), y9, y10, y11, y12, x13, x14]) := by
  obtain ⟨N, eN⟩ := q_number (at' := (i : Int) + 5) hc hW (by omega) (by omega) (by decide) (by decide)
  have m1 := fmod_pos_range (a := N) (n := 9) (by decide)
  have m2 := fmod_pos_range (a := N.fdiv 9) (n := 3) (by decide)
  have m3 := fmod_pos_range (a := N.fdiv 27) (n := 50) (by decide)
  have m4 := fmod_pos_range (a := N.fdiv 7) (n := 5) (by decide)
  have m5 := fmod_pos_range (a := N.fdiv 11) (n := 9) (by decide)
  have m6 := fmod_pos_range (a := N.fdiv 99) (n := 3) (by decide)
  obtain ⟨v1, r1, _, e1⟩ := low_ex (t := N.fmod 9 - 4) (b := 1 + (N.fdiv 9).fmod 3) (by omega) (by omega) (by omega) (by omega)
  obtain ⟨p, rp, ep', ep⟩ := low_ex (t := 1 + (N.fdiv 27).fmod 50) (b := 1 + (N.fdiv 7).fmod 5) (by omega) (by omega) (by omega) (by omega)
  obtain ⟨v2, r2, _, e2⟩ := low_ex (t := (N.fdiv 11).fmod 9 - 4) (b := 1 + (N.fdiv 99).fmod 3) (by omega) (by omega) (by omega) (by omega)
  have hp := frac_pos (by omega) (by omega) ep'
  have ro : m_q_right [.lst [bD ⟨1, ((0 : Int) : Rat), v1⟩, bD ⟨2, p, v2⟩], .int 0, .lst [.lst [bD ⟨1, ((0 : Int) : Rat), v1⟩, .tup [.int 2, shR p, shR v1]]]] = some (.val (.bl true)) :=
    right_ok (r := [⟨1, ((0 : Int) : Rat), v1⟩, ⟨2, p, v2⟩]) (k := 0) (rs := [[⟨1, ((0 : Int) : Rat), v1⟩, ⟨2, p, v1⟩]]) (two_gr r1 r2 rp hp) rfl rfl (fun s hs => by
      rw [List.mem_singleton] at hs
      subst hs
      exact ⟨two_gr r1 r1 rp hp, (show 0 + 1 < 2 by decide)⟩)
  refine ⟨some (.sh (.int N)), some (.sh (bD ⟨1, ((0 : Int) : Rat), v1⟩)), some (.sh (shR p)), some (.sh (bD ⟨2, p, v2⟩)), ?_⟩
  unfold l2_law
  exact seq_nx (set_of (call3 rfl (op_of rfl rfl rfl) rfl eN)) (seq_nx (set_of (d := bD ⟨1, ((0 : Int) : Rat), v1⟩) (tup3_of rfl (tup2_of rfl rfl) (call2 (op_of (op_of rfl rfl (mod_of (by decide))) rfl rfl) (op_of rfl (op_of (op_of rfl rfl (div_of (by decide) (by decide))) rfl (mod_of (by decide))) rfl) e1)))
    (seq_nx (set_of (d := shR p) (call2 (op_of rfl (op_of (op_of rfl rfl (div_of (by decide) (by decide))) rfl (mod_of (by decide))) rfl) (op_of rfl (op_of (op_of rfl rfl (div_of (by decide) (by decide))) rfl (mod_of (by decide))) rfl) ep))
    (seq_nx (set_of (d := bD ⟨2, p, v2⟩) (tup3_of rfl rfl (call2 (op_of (op_of (op_of rfl rfl (div_of (by decide) (by decide))) rfl (mod_of (by decide))) rfl rfl) (op_of rfl (op_of (op_of rfl rfl (div_of (by decide) (by decide))) rfl (mod_of (by decide))) rfl) e2)))
    (if_no (not_yes (call3 (lst2_of rfl rfl) rfl (lst1_of (lst2_of rfl (tup3_of rfl (op_of rfl rfl (bD1 _)) (op_of rfl rfl (bD2 _))))) ro))))))
theorem cut20 (ns : List Int) : cutD (ns.map D.int) none (some 20) = (ns.take 20).map D.int := by
  unfold cutD
  rw [HT.sIx_none, show (20 : Int) = ((20 : Nat) : Int) from rfl, HT.sIx_nat, List.length_map, List.drop_zero, Nat.sub_zero, ← List.map_take, List.take_eq_take_iff.mpr]
  simp
theorem pair_two : m_pair_meets [.lst [.tup [.int 1, .tup [.int 0, .int 1], .tup [.int 1, .int 1]], .tup [.int 1, .tup [.int 3, .int 1], .tup [.int (-1), .int 2]]], .int 0] = some (.val (.obj 3 [.tup [.int 2, .int 1]])) := by kernel_rfl
theorem pair_nev : m_pair_meets [.lst [.tup [.int 1, .tup [.int 0, .int 1], .tup [.int 1, .int 1]], .tup [.int 9, .tup [.int 1, .int 2], .tup [.int 1, .int 1]]], .int 0] = some (.val (.obj 4 [])) := by kernel_rfl
theorem law_true : LawT 63 m_law := fun ns hl hbits => by
  have hb : ∀ i ∈ ns, Bd 1048576 i := fun i hi => Bd.of_log (hbits i hi)
  have hW : Bd 1048700 ns.sum := (Bd.sum hb (by omega)).mono (by omega)
  obtain ⟨r, g, er⟩ := row_ok hl hb
  have a0 : (eB sumB (aCons (eFr (lSlice (eVar 0) oNone (oSome (eC (.int 63))))) aNil)) [some (.sh (.lst (ns.map .int))), none, none, none, none, none, none, none, none, none, none, none, none, none, none] = some (.val (.int ns.sum)) := by
    simp [eB, lbnd, aCons, aNil, obndL, lbndL, eFr, lSlice, eVar, oNone, oSome, eC, cut63 hl, sumB, intsO_map, ov]
  have hr1 := g.one
  have ol : (oth r).length ≤ 10 := by rw [oth_len]; exact g.ten
  have ln : eOp (i2 subI) (eB lenB (aCons (eVar 2) aNil)) (eC (.int 1)) [some (.sh (.lst (ns.map .int))), some (.sh (.int ns.sum)), some (.sh (.lst (r.map bD))), some (.sh (.lst ((oth r).map bD))), some (.sh (.bl ((oth r).all mildB))), none, none, none, none, none, none, none, none, none, none] = some (.val (.int (((r.length - 1 : Nat) : Nat) : Int))) := by
    refine op_of (len_of rfl) rfl ?_
    rw [List.length_map]
    have : (r.length : Int) - 1 = ((r.length - 1 : Nat) : Int) := by omega
    simp [i2, subI, this]
  obtain ⟨ρ1, f1, z5, e1⟩ := for_inv (g := gNm 5) (body := l1_law) (P := fun ρ => ∃ z5 : Option Sl, ρ = [some (.sh (.lst (ns.map .int))), some (.sh (.int ns.sum)), some (.sh (.lst (r.map bD))), some (.sh (.lst ((oth r).map bD))), some (.sh (.bl ((oth r).all mildB))), z5, none, none, none, none, none, none, none, none, none]) (ds := (List.range' 0 (r.length - 1)).map fun k : Nat => D.int ((k : Nat) : Int)) ⟨none, rfl⟩ (by
    rintro d hd ρ ⟨z5, rfl⟩
    obtain ⟨k, hk, rfl⟩ := List.mem_map.mp hd
    have hk2 : k < r.length - 1 := by have := List.mem_range'_1.mp hk; omega
    exact ⟨_, _, rfl, l1_ok g (by omega) (some (.sh (.lst (ns.map .int)))) (some (.sh (.int ns.sum))) none none none none none none none none none, some (.sh (.int (k : Int))), rfl⟩)
  subst e1
  obtain ⟨ρ2, f2, z7, z8, z9, z10, z11, z12, e2⟩ := for_inv (g := gTp (gsCons (gNm 7) (gsCons (gNm 8) gsNil))) (body := l2_law) (P := fun ρ => ∃ z7 z8 z9 z10 z11 z12 : Option Sl, ρ = [some (.sh (.lst (ns.map .int))), some (.sh (.int ns.sum)), some (.sh (.lst (r.map bD))), some (.sh (.lst ((oth r).map bD))), some (.sh (.bl ((oth r).all mildB))), z5, none, z7, z8, z9, z10, z11, z12, none, none]) (ds := enumD ((ns.take 20).map D.int)) (ρ := [some (.sh (.lst (ns.map .int))), some (.sh (.int ns.sum)), some (.sh (.lst (r.map bD))), some (.sh (.lst ((oth r).map bD))), some (.sh (.bl ((oth r).all mildB))), z5, none, none, none, none, none, none, none, none, none]) ⟨none, none, none, none, none, none, rfl⟩ (by
    rintro d hd ρ ⟨z7, z8, z9, z10, z11, z12, rfl⟩
    unfold enumD at hd
    obtain ⟨i, hi, rfl⟩ := List.mem_map.mp hd
    have hi := List.mem_range.mp hi
    rw [List.length_map] at hi
    have hi2 : i < 20 := by
      have := List.length_take (i := 20) (l := ns)
      omega
    obtain ⟨c, hc, hcm⟩ := get_lt hi
    have e : (((ns.take 20).map D.int)[i]?).getD .non = .int c := by rw [List.getElem?_map, hc]; rfl
    rw [e]
    obtain ⟨y9, y10, y11, y12, ee⟩ := l2_ok (c := c) (i := i) ((hb c (List.mem_of_mem_take hcm)).mono (by decide)) hW hi2 (some (.sh (.lst (ns.map .int)))) (some (.sh (.lst (r.map bD)))) (some (.sh (.lst ((oth r).map bD)))) (some (.sh (.bl ((oth r).all mildB)))) z5 none z9 z10 z11 z12 none none
    exact ⟨_, _, rfl, ee, some (.sh (.int (i : Int))), some (.sh (.int c)), y9, y10, y11, y12, rfl⟩)
  subst e2
  have w2 : wEnum (aCons (eFr (lSlice (eVar 0) oNone (oSome (eC (.int 20))))) aNil) [some (.sh (.lst (ns.map .int))), some (.sh (.int ns.sum)), some (.sh (.lst (r.map bD))), some (.sh (.lst ((oth r).map bD))), some (.sh (.bl ((oth r).all mildB))), z5, none, none, none, none, none, none, none, none, none] = some (.vals (enumD ((ns.take 20).map D.int))) := by
    have s1 : lSlice (eVar 0) oNone (oSome (eC (.int 20))) [some (.sh (.lst (ns.map .int))), some (.sh (.int ns.sum)), some (.sh (.lst (r.map bD))), some (.sh (.lst ((oth r).map bD))), some (.sh (.bl ((oth r).all mildB))), z5, none, none, none, none, none, none, none, none, none] = some (.vals ((ns.take 20).map D.int)) := by
      rw [← cut20]
      rfl
    unfold wEnum lbndL
    rw [one_of (eFr_of s1)]
  have tw : ∀ ρ : Rho, eFr (lLst (aCons (eTup (aCons (eC (.int 1)) (aCons (eTup (aCons (eC (.int 0)) (aCons (eC (.int 1)) aNil))) (aCons (eTup (aCons (eC (.int 1)) (aCons (eC (.int 1)) aNil))) aNil)))) (aCons (eTup (aCons (eC (.int 1)) (aCons (eTup (aCons (eC (.int 3)) (aCons (eC (.int 1)) aNil))) (aCons (eTup (aCons (eNeg (eC (.int 1))) (aCons (eC (.int 2)) aNil))) aNil)))) aNil))) ρ = some (.val (.lst [.tup [.int 1, .tup [.int 0, .int 1], .tup [.int 1, .int 1]], .tup [.int 1, .tup [.int 3, .int 1], .tup [.int (-1), .int 2]]])) := fun ρ => by kernel_rfl
  have tn : ∀ ρ : Rho, eTup (aCons (eC (.int 9)) (aCons (eTup (aCons (eC (.int 1)) (aCons (eC (.int 2)) aNil))) (aCons (eTup (aCons (eC (.int 1)) (aCons (eC (.int 1)) aNil))) aNil))) ρ = some (.val (.tup [.int 9, .tup [.int 1, .int 2], .tup [.int 1, .int 1]])) := fun ρ => by kernel_rfl
  have t2 : ∀ ρ : Rho, eTup (aCons (eC (.int 2)) (aCons (eC (.int 1)) aNil)) ρ = some (.val (.tup [.int 2, .int 1])) := fun ρ => by kernel_rfl
  have q2 : eqD (.tup [.int 2, .int 1]) (.tup [.int 2, .int 1]) = some (.bl true) := by kernel_rfl
  unfold m_law b_law
  exact fn_rt rfl rfl (seq_nx (set_of a0) (seq_nx (set_of (call3 rfl rfl rfl er)) (seq_nx (own_of (oth_ok g _ _)) (frz_of rfl (seq_nx (set_of (mild_ok ol _ _ _)) (seq_nx (for_of (wRng1_of ln (by have := g.ten; omega)) f1) (seq_nx (for_of w2 f2) (seq_nx (set_of (tw _)) (ret_of (and_of (op_of (fld_of (call2 rfl rfl pair_two) rfl) (t2 _) q2) (iso_of (call2 (lst2_of (op_of rfl rfl rfl) (tn _)) rfl pair_nev) rfl)))))))))))
end BD


namespace BD
open PySem L2
theorem all_mk {l : PySem.W.OpenLaw} {w : World} {K : PySem.W.Frag} {h : Heap} {mg : Str → Option Value} {fa : Addr} (X : K.In h) (G : h.Ns mainGlobals mg) (hfa : mg "law" = some (.ref fa)) {f_q_number : Addr} {f_q_low : Addr} {f_q_row : Addr} {f_q_sum : Addr} {f_runs_of : Addr} {f_common : Addr} {f_lowest : Addr} {f_lessened : Addr} {f_parted : Addr} {f_wait_between : Addr} {f_Never_shows : Addr} {f_is_whole : Addr} {f_is_share : Addr} {f_Meet_shows : Addr} {f_q_far : Addr} {f_is_weight : Addr} {f_is_row_share : Addr} {f_is_bead : Addr} {f_compared : Addr} {f_places_rise : Addr} {f_is_row : Addr} {f_need_row : Addr} {f_is_bead_of : Addr} {f_need_bead : Addr} {f_Meet___init__ : Addr} {f_pair_meets : Addr} {f_q_whole : Addr} {f_q_is_share : Addr} {f_q_by : Addr} {f_q_there : Addr} {f_q_due : Addr} {f_q_right : Addr} {f_law : Addr} {O_Meet : Addr} {O_Never : Addr} {O_One : Addr} {O_Parted : Addr} {O_Right : Addr} {O_Wrong : Addr} {O_Answer : Addr} {dv_q_row : Addr} {dt_q_row : Tok} {dn_q_row : Nat} {dd_q_row : Option Addr} {ds_q_row : Array (Option Value)} {t_MOST_BEADS : Tok} {t_MOST_BOTTOM : Tok} {t_MOST_TOP : Tok} {t_MOST_WEIGHT : Tok}
    {od_q_number an_q_number : Option Addr} {sl_q_number : Array (Option Value)} {oc_q_number kV_q_number dc_q_number pm_q_number cd_q_number ct_q_number : Value} {od_q_low an_q_low : Option Addr} {sl_q_low : Array (Option Value)} {oc_q_low kV_q_low dc_q_low pm_q_low cd_q_low ct_q_low : Value} {od_q_row an_q_row : Option Addr} {sl_q_row : Array (Option Value)} {oc_q_row kV_q_row dc_q_row pm_q_row cd_q_row ct_q_row : Value} {od_q_sum an_q_sum : Option Addr} {sl_q_sum : Array (Option Value)} {oc_q_sum kV_q_sum dc_q_sum pm_q_sum cd_q_sum ct_q_sum : Value} {od_runs_of an_runs_of : Option Addr} {sl_runs_of : Array (Option Value)} {oc_runs_of kV_runs_of dc_runs_of pm_runs_of cd_runs_of ct_runs_of : Value} {od_common an_common : Option Addr} {sl_common : Array (Option Value)} {oc_common kV_common dc_common pm_common cd_common ct_common : Value} {od_lowest an_lowest : Option Addr} {sl_lowest : Array (Option Value)} {oc_lowest kV_lowest dc_lowest pm_lowest cd_lowest ct_lowest : Value} {od_lessened an_lessened : Option Addr} {sl_lessened : Array (Option Value)} {oc_lessened kV_lessened dc_lessened pm_lessened cd_lessened ct_lessened : Value} {od_parted an_parted : Option Addr} {sl_parted : Array (Option Value)} {oc_parted kV_parted dc_parted pm_parted cd_parted ct_parted : Value} {od_wait_between an_wait_between : Option Addr} {sl_wait_between : Array (Option Value)} {oc_wait_between kV_wait_between dc_wait_between pm_wait_between cd_wait_between ct_wait_between : Value} {od_Never_shows an_Never_shows : Option Addr} {sl_Never_shows : Array (Option Value)} {oc_Never_shows kV_Never_shows dc_Never_shows pm_Never_shows cd_Never_shows ct_Never_shows : Value} {od_is_whole an_is_whole : Option Addr} {sl_is_whole : Array (Option Value)} {oc_is_whole kV_is_whole dc_is_whole pm_is_whole cd_is_whole ct_is_whole : Value} {od_is_share an_is_share : Option Addr} {sl_is_share : Array (Option Value)} {oc_is_share kV_is_share dc_is_share pm_is_share cd_is_share ct_is_share : Value} {od_Meet_shows an_Meet_shows : Option Addr} {sl_Meet_shows : Array (Option Value)} {oc_Meet_shows kV_Meet_shows dc_Meet_shows pm_Meet_shows cd_Meet_shows ct_Meet_shows : Value} {od_q_far an_q_far : Option Addr} {sl_q_far : Array (Option Value)} {oc_q_far kV_q_far dc_q_far pm_q_far cd_q_far ct_q_far : Value} {od_is_weight an_is_weight : Option Addr} {sl_is_weight : Array (Option Value)} {oc_is_weight kV_is_weight dc_is_weight pm_is_weight cd_is_weight ct_is_weight : Value} {od_is_row_share an_is_row_share : Option Addr} {sl_is_row_share : Array (Option Value)} {oc_is_row_share kV_is_row_share dc_is_row_share pm_is_row_share cd_is_row_share ct_is_row_share : Value} {od_is_bead an_is_bead : Option Addr} {sl_is_bead : Array (Option Value)} {oc_is_bead kV_is_bead dc_is_bead pm_is_bead cd_is_bead ct_is_bead : Value} {od_compared an_compared : Option Addr} {sl_compared : Array (Option Value)} {oc_compared kV_compared dc_compared pm_compared cd_compared ct_compared : Value} {od_places_rise an_places_rise : Option Addr} {sl_places_rise : Array (Option Value)} {oc_places_rise kV_places_rise dc_places_rise pm_places_rise cd_places_rise ct_places_rise : Value} {od_is_row an_is_row : Option Addr} {sl_is_row : Array (Option Value)} {oc_is_row kV_is_row dc_is_row pm_is_row cd_is_row ct_is_row : Value} {od_need_row an_need_row : Option Addr} {sl_need_row : Array (Option Value)} {oc_need_row kV_need_row dc_need_row pm_need_row cd_need_row ct_need_row : Value} {od_is_bead_of an_is_bead_of : Option Addr} {sl_is_bead_of : Array (Option Value)} {oc_is_bead_of kV_is_bead_of dc_is_bead_of pm_is_bead_of cd_is_bead_of ct_is_bead_of : Value} {od_need_bead an_need_bead : Option Addr} {sl_need_bead : Array (Option Value)} {oc_need_bead kV_need_bead dc_need_bead pm_need_bead cd_need_bead ct_need_bead : Value} {od_Meet___init__ an_Meet___init__ : Option Addr} {sl_Meet___init__ : Array (Option Value)} {oc_Meet___init__ kV_Meet___init__ dc_Meet___init__ pm_Meet___init__ cd_Meet___init__ ct_Meet___init__ : Value} {od_pair_meets an_pair_meets : Option Addr} {sl_pair_meets : Array (Option Value)} {oc_pair_meets kV_pair_meets dc_pair_meets pm_pair_meets cd_pair_meets ct_pair_meets : Value} {od_q_whole an_q_whole : Option Addr} {sl_q_whole : Array (Option Value)} {oc_q_whole kV_q_whole dc_q_whole pm_q_whole cd_q_whole ct_q_whole : Value} {od_q_is_share an_q_is_share : Option Addr} {sl_q_is_share : Array (Option Value)} {oc_q_is_share kV_q_is_share dc_q_is_share pm_q_is_share cd_q_is_share ct_q_is_share : Value} {od_q_by an_q_by : Option Addr} {sl_q_by : Array (Option Value)} {oc_q_by kV_q_by dc_q_by pm_q_by cd_q_by ct_q_by : Value} {od_q_there an_q_there : Option Addr} {sl_q_there : Array (Option Value)} {oc_q_there kV_q_there dc_q_there pm_q_there cd_q_there ct_q_there : Value} {od_q_due an_q_due : Option Addr} {sl_q_due : Array (Option Value)} {oc_q_due kV_q_due dc_q_due pm_q_due cd_q_due ct_q_due : Value} {od_q_right an_q_right : Option Addr} {sl_q_right : Array (Option Value)} {oc_q_right kV_q_right dc_q_right pm_q_right cd_q_right ct_q_right : Value} {od_law an_law : Option Addr} {sl_law : Array (Option Value)} {oc_law kV_law dc_law pm_law cd_law ct_law : Value}
    (a_q_number : PySem.W.nsIn K mainGlobals "_law_number" = some (some (.ref f_q_number))) (l_q_number : K.lookup f_q_number = some ⟨oc_q_number, od_q_number, .func (PySem.W.fnOf "_law_number" "_law_number" (defArgs s_q_number) (defBody s_q_number) (defScope s_q_number) .none kV_q_number dc_q_number pm_q_number an_q_number cd_q_number ct_q_number), sl_q_number⟩) (c_q_number : PySem.W.codeIn K cd_q_number "_law_number" = true) (k_q_number : PySem.W.keepIn K (.ref f_q_number) = true)
    (a_q_low : PySem.W.nsIn K mainGlobals "_law_low" = some (some (.ref f_q_low))) (l_q_low : K.lookup f_q_low = some ⟨oc_q_low, od_q_low, .func (PySem.W.fnOf "_law_low" "_law_low" (defArgs s_q_low) (defBody s_q_low) (defScope s_q_low) .none kV_q_low dc_q_low pm_q_low an_q_low cd_q_low ct_q_low), sl_q_low⟩) (c_q_low : PySem.W.codeIn K cd_q_low "_law_low" = true) (k_q_low : PySem.W.keepIn K (.ref f_q_low) = true)
    (a_q_row : PySem.W.nsIn K mainGlobals "_law_row" = some (some (.ref f_q_row))) (l_q_row : K.lookup f_q_row = some ⟨oc_q_row, od_q_row, .func (PySem.W.fnOf "_law_row" "_law_row" (defArgs s_q_row) (defBody s_q_row) (defScope s_q_row) (.ref dv_q_row) kV_q_row dc_q_row pm_q_row an_q_row cd_q_row ct_q_row), sl_q_row⟩) (c_q_row : PySem.W.codeIn K cd_q_row "_law_row" = true) (k_q_row : PySem.W.keepIn K (.ref f_q_row) = true)
    (e_q_row : K.lookup dv_q_row = some ⟨.type "tuple", dd_q_row, .seq #[.int 10 dt_q_row] dn_q_row, ds_q_row⟩)
    (a_q_sum : PySem.W.nsIn K mainGlobals "_law_sum" = some (some (.ref f_q_sum))) (l_q_sum : K.lookup f_q_sum = some ⟨oc_q_sum, od_q_sum, .func (PySem.W.fnOf "_law_sum" "_law_sum" (defArgs s_q_sum) (defBody s_q_sum) (defScope s_q_sum) .none kV_q_sum dc_q_sum pm_q_sum an_q_sum cd_q_sum ct_q_sum), sl_q_sum⟩) (c_q_sum : PySem.W.codeIn K cd_q_sum "_law_sum" = true) (k_q_sum : PySem.W.keepIn K (.ref f_q_sum) = true)
    (a_runs_of : PySem.W.nsIn K mainGlobals "runs_of" = some (some (.ref f_runs_of))) (l_runs_of : K.lookup f_runs_of = some ⟨oc_runs_of, od_runs_of, .func (PySem.W.fnOf "runs_of" "runs_of" (defArgs s_runs_of) (defBody s_runs_of) (defScope s_runs_of) .none kV_runs_of dc_runs_of pm_runs_of an_runs_of cd_runs_of ct_runs_of), sl_runs_of⟩) (c_runs_of : PySem.W.codeIn K cd_runs_of "runs_of" = true) (k_runs_of : PySem.W.keepIn K (.ref f_runs_of) = true)
    (a_common : PySem.W.nsIn K mainGlobals "common" = some (some (.ref f_common))) (l_common : K.lookup f_common = some ⟨oc_common, od_common, .func (PySem.W.fnOf "common" "common" (defArgs s_common) (defBody s_common) (defScope s_common) .none kV_common dc_common pm_common an_common cd_common ct_common), sl_common⟩) (c_common : PySem.W.codeIn K cd_common "common" = true) (k_common : PySem.W.keepIn K (.ref f_common) = true)
    (a_lowest : PySem.W.nsIn K mainGlobals "lowest" = some (some (.ref f_lowest))) (l_lowest : K.lookup f_lowest = some ⟨oc_lowest, od_lowest, .func (PySem.W.fnOf "lowest" "lowest" (defArgs s_lowest) (defBody s_lowest) (defScope s_lowest) .none kV_lowest dc_lowest pm_lowest an_lowest cd_lowest ct_lowest), sl_lowest⟩) (c_lowest : PySem.W.codeIn K cd_lowest "lowest" = true) (k_lowest : PySem.W.keepIn K (.ref f_lowest) = true)
    (a_lessened : PySem.W.nsIn K mainGlobals "lessened" = some (some (.ref f_lessened))) (l_lessened : K.lookup f_lessened = some ⟨oc_lessened, od_lessened, .func (PySem.W.fnOf "lessened" "lessened" (defArgs s_lessened) (defBody s_lessened) (defScope s_lessened) .none kV_lessened dc_lessened pm_lessened an_lessened cd_lessened ct_lessened), sl_lessened⟩) (c_lessened : PySem.W.codeIn K cd_lessened "lessened" = true) (k_lessened : PySem.W.keepIn K (.ref f_lessened) = true)
    (a_parted : PySem.W.nsIn K mainGlobals "parted" = some (some (.ref f_parted))) (l_parted : K.lookup f_parted = some ⟨oc_parted, od_parted, .func (PySem.W.fnOf "parted" "parted" (defArgs s_parted) (defBody s_parted) (defScope s_parted) .none kV_parted dc_parted pm_parted an_parted cd_parted ct_parted), sl_parted⟩) (c_parted : PySem.W.codeIn K cd_parted "parted" = true) (k_parted : PySem.W.keepIn K (.ref f_parted) = true)
    (a_wait_between : PySem.W.nsIn K mainGlobals "wait_between" = some (some (.ref f_wait_between))) (l_wait_between : K.lookup f_wait_between = some ⟨oc_wait_between, od_wait_between, .func (PySem.W.fnOf "wait_between" "wait_between" (defArgs s_wait_between) (defBody s_wait_between) (defScope s_wait_between) .none kV_wait_between dc_wait_between pm_wait_between an_wait_between cd_wait_between ct_wait_between), sl_wait_between⟩) (c_wait_between : PySem.W.codeIn K cd_wait_between "wait_between" = true) (k_wait_between : PySem.W.keepIn K (.ref f_wait_between) = true)
    (a_Never_shows : PySem.W.findIn K (.ref O_Never) "shows" = some (some (.ref f_Never_shows))) (l_Never_shows : K.lookup f_Never_shows = some ⟨oc_Never_shows, od_Never_shows, .func (PySem.W.fnOf "shows" "Never.shows" (defArgs s_Never_shows) (defBody s_Never_shows) (defScope s_Never_shows) .none kV_Never_shows dc_Never_shows pm_Never_shows an_Never_shows cd_Never_shows ct_Never_shows), sl_Never_shows⟩) (c_Never_shows : PySem.W.codeIn K cd_Never_shows "Never.shows" = true) (k_Never_shows : PySem.W.keepIn K (.ref f_Never_shows) = true) (i_Never_shows : PySem.W.isFn K (.ref f_Never_shows) = true)
    (a_is_whole : PySem.W.nsIn K mainGlobals "is_whole" = some (some (.ref f_is_whole))) (l_is_whole : K.lookup f_is_whole = some ⟨oc_is_whole, od_is_whole, .func (PySem.W.fnOf "is_whole" "is_whole" (defArgs s_is_whole) (defBody s_is_whole) (defScope s_is_whole) .none kV_is_whole dc_is_whole pm_is_whole an_is_whole cd_is_whole ct_is_whole), sl_is_whole⟩) (c_is_whole : PySem.W.codeIn K cd_is_whole "is_whole" = true) (k_is_whole : PySem.W.keepIn K (.ref f_is_whole) = true)
    (a_is_share : PySem.W.nsIn K mainGlobals "is_share" = some (some (.ref f_is_share))) (l_is_share : K.lookup f_is_share = some ⟨oc_is_share, od_is_share, .func (PySem.W.fnOf "is_share" "is_share" (defArgs s_is_share) (defBody s_is_share) (defScope s_is_share) .none kV_is_share dc_is_share pm_is_share an_is_share cd_is_share ct_is_share), sl_is_share⟩) (c_is_share : PySem.W.codeIn K cd_is_share "is_share" = true) (k_is_share : PySem.W.keepIn K (.ref f_is_share) = true)
    (a_Meet_shows : PySem.W.findIn K (.ref O_Meet) "shows" = some (some (.ref f_Meet_shows))) (l_Meet_shows : K.lookup f_Meet_shows = some ⟨oc_Meet_shows, od_Meet_shows, .func (PySem.W.fnOf "shows" "Meet.shows" (defArgs s_Meet_shows) (defBody s_Meet_shows) (defScope s_Meet_shows) .none kV_Meet_shows dc_Meet_shows pm_Meet_shows an_Meet_shows cd_Meet_shows ct_Meet_shows), sl_Meet_shows⟩) (c_Meet_shows : PySem.W.codeIn K cd_Meet_shows "Meet.shows" = true) (k_Meet_shows : PySem.W.keepIn K (.ref f_Meet_shows) = true) (i_Meet_shows : PySem.W.isFn K (.ref f_Meet_shows) = true)
    (a_q_far : PySem.W.nsIn K mainGlobals "_law_far" = some (some (.ref f_q_far))) (l_q_far : K.lookup f_q_far = some ⟨oc_q_far, od_q_far, .func (PySem.W.fnOf "_law_far" "_law_far" (defArgs s_q_far) (defBody s_q_far) (defScope s_q_far) .none kV_q_far dc_q_far pm_q_far an_q_far cd_q_far ct_q_far), sl_q_far⟩) (c_q_far : PySem.W.codeIn K cd_q_far "_law_far" = true) (k_q_far : PySem.W.keepIn K (.ref f_q_far) = true)
    (a_is_weight : PySem.W.nsIn K mainGlobals "is_weight" = some (some (.ref f_is_weight))) (l_is_weight : K.lookup f_is_weight = some ⟨oc_is_weight, od_is_weight, .func (PySem.W.fnOf "is_weight" "is_weight" (defArgs s_is_weight) (defBody s_is_weight) (defScope s_is_weight) .none kV_is_weight dc_is_weight pm_is_weight an_is_weight cd_is_weight ct_is_weight), sl_is_weight⟩) (c_is_weight : PySem.W.codeIn K cd_is_weight "is_weight" = true) (k_is_weight : PySem.W.keepIn K (.ref f_is_weight) = true)
    (a_is_row_share : PySem.W.nsIn K mainGlobals "is_row_share" = some (some (.ref f_is_row_share))) (l_is_row_share : K.lookup f_is_row_share = some ⟨oc_is_row_share, od_is_row_share, .func (PySem.W.fnOf "is_row_share" "is_row_share" (defArgs s_is_row_share) (defBody s_is_row_share) (defScope s_is_row_share) .none kV_is_row_share dc_is_row_share pm_is_row_share an_is_row_share cd_is_row_share ct_is_row_share), sl_is_row_share⟩) (c_is_row_share : PySem.W.codeIn K cd_is_row_share "is_row_share" = true) (k_is_row_share : PySem.W.keepIn K (.ref f_is_row_share) = true)
    (a_is_bead : PySem.W.nsIn K mainGlobals "is_bead" = some (some (.ref f_is_bead))) (l_is_bead : K.lookup f_is_bead = some ⟨oc_is_bead, od_is_bead, .func (PySem.W.fnOf "is_bead" "is_bead" (defArgs s_is_bead) (defBody s_is_bead) (defScope s_is_bead) .none kV_is_bead dc_is_bead pm_is_bead an_is_bead cd_is_bead ct_is_bead), sl_is_bead⟩) (c_is_bead : PySem.W.codeIn K cd_is_bead "is_bead" = true) (k_is_bead : PySem.W.keepIn K (.ref f_is_bead) = true)
    (a_compared : PySem.W.nsIn K mainGlobals "compared" = some (some (.ref f_compared))) (l_compared : K.lookup f_compared = some ⟨oc_compared, od_compared, .func (PySem.W.fnOf "compared" "compared" (defArgs s_compared) (defBody s_compared) (defScope s_compared) .none kV_compared dc_compared pm_compared an_compared cd_compared ct_compared), sl_compared⟩) (c_compared : PySem.W.codeIn K cd_compared "compared" = true) (k_compared : PySem.W.keepIn K (.ref f_compared) = true)
    (a_places_rise : PySem.W.nsIn K mainGlobals "places_rise" = some (some (.ref f_places_rise))) (l_places_rise : K.lookup f_places_rise = some ⟨oc_places_rise, od_places_rise, .func (PySem.W.fnOf "places_rise" "places_rise" (defArgs s_places_rise) (defBody s_places_rise) (defScope s_places_rise) .none kV_places_rise dc_places_rise pm_places_rise an_places_rise cd_places_rise ct_places_rise), sl_places_rise⟩) (c_places_rise : PySem.W.codeIn K cd_places_rise "places_rise" = true) (k_places_rise : PySem.W.keepIn K (.ref f_places_rise) = true)
    (a_is_row : PySem.W.nsIn K mainGlobals "is_row" = some (some (.ref f_is_row))) (l_is_row : K.lookup f_is_row = some ⟨oc_is_row, od_is_row, .func (PySem.W.fnOf "is_row" "is_row" (defArgs s_is_row) (defBody s_is_row) (defScope s_is_row) .none kV_is_row dc_is_row pm_is_row an_is_row cd_is_row ct_is_row), sl_is_row⟩) (c_is_row : PySem.W.codeIn K cd_is_row "is_row" = true) (k_is_row : PySem.W.keepIn K (.ref f_is_row) = true)
    (a_need_row : PySem.W.nsIn K mainGlobals "need_row" = some (some (.ref f_need_row))) (l_need_row : K.lookup f_need_row = some ⟨oc_need_row, od_need_row, .func (PySem.W.fnOf "need_row" "need_row" (defArgs s_need_row) (defBody s_need_row) (defScope s_need_row) .none kV_need_row dc_need_row pm_need_row an_need_row cd_need_row ct_need_row), sl_need_row⟩) (c_need_row : PySem.W.codeIn K cd_need_row "need_row" = true) (k_need_row : PySem.W.keepIn K (.ref f_need_row) = true)
    (a_is_bead_of : PySem.W.nsIn K mainGlobals "is_bead_of" = some (some (.ref f_is_bead_of))) (l_is_bead_of : K.lookup f_is_bead_of = some ⟨oc_is_bead_of, od_is_bead_of, .func (PySem.W.fnOf "is_bead_of" "is_bead_of" (defArgs s_is_bead_of) (defBody s_is_bead_of) (defScope s_is_bead_of) .none kV_is_bead_of dc_is_bead_of pm_is_bead_of an_is_bead_of cd_is_bead_of ct_is_bead_of), sl_is_bead_of⟩) (c_is_bead_of : PySem.W.codeIn K cd_is_bead_of "is_bead_of" = true) (k_is_bead_of : PySem.W.keepIn K (.ref f_is_bead_of) = true)
    (a_need_bead : PySem.W.nsIn K mainGlobals "need_bead" = some (some (.ref f_need_bead))) (l_need_bead : K.lookup f_need_bead = some ⟨oc_need_bead, od_need_bead, .func (PySem.W.fnOf "need_bead" "need_bead" (defArgs s_need_bead) (defBody s_need_bead) (defScope s_need_bead) .none kV_need_bead dc_need_bead pm_need_bead an_need_bead cd_need_bead ct_need_bead), sl_need_bead⟩) (c_need_bead : PySem.W.codeIn K cd_need_bead "need_bead" = true) (k_need_bead : PySem.W.keepIn K (.ref f_need_bead) = true)
    (a_Meet___init__ : PySem.W.findIn K (.ref O_Meet) "__init__" = some (some (.ref f_Meet___init__))) (l_Meet___init__ : K.lookup f_Meet___init__ = some ⟨oc_Meet___init__, od_Meet___init__, .func (PySem.W.fnOf "__init__" "Meet.__init__" (defArgs s_Meet___init__) (defBody s_Meet___init__) (defScope s_Meet___init__) .none kV_Meet___init__ dc_Meet___init__ pm_Meet___init__ an_Meet___init__ cd_Meet___init__ ct_Meet___init__), sl_Meet___init__⟩) (c_Meet___init__ : PySem.W.codeIn K cd_Meet___init__ "Meet.__init__" = true) (k_Meet___init__ : PySem.W.keepIn K (.ref f_Meet___init__) = true) (i_Meet___init__ : PySem.W.isFn K (.ref f_Meet___init__) = true)
    (a_pair_meets : PySem.W.nsIn K mainGlobals "pair_meets" = some (some (.ref f_pair_meets))) (l_pair_meets : K.lookup f_pair_meets = some ⟨oc_pair_meets, od_pair_meets, .func (PySem.W.fnOf "pair_meets" "pair_meets" (defArgs s_pair_meets) (defBody s_pair_meets) (defScope s_pair_meets) .none kV_pair_meets dc_pair_meets pm_pair_meets an_pair_meets cd_pair_meets ct_pair_meets), sl_pair_meets⟩) (c_pair_meets : PySem.W.codeIn K cd_pair_meets "pair_meets" = true) (k_pair_meets : PySem.W.keepIn K (.ref f_pair_meets) = true)
    (a_q_whole : PySem.W.nsIn K mainGlobals "_law_whole" = some (some (.ref f_q_whole))) (l_q_whole : K.lookup f_q_whole = some ⟨oc_q_whole, od_q_whole, .func (PySem.W.fnOf "_law_whole" "_law_whole" (defArgs s_q_whole) (defBody s_q_whole) (defScope s_q_whole) .none kV_q_whole dc_q_whole pm_q_whole an_q_whole cd_q_whole ct_q_whole), sl_q_whole⟩) (c_q_whole : PySem.W.codeIn K cd_q_whole "_law_whole" = true) (k_q_whole : PySem.W.keepIn K (.ref f_q_whole) = true)
    (a_q_is_share : PySem.W.nsIn K mainGlobals "_law_is_share" = some (some (.ref f_q_is_share))) (l_q_is_share : K.lookup f_q_is_share = some ⟨oc_q_is_share, od_q_is_share, .func (PySem.W.fnOf "_law_is_share" "_law_is_share" (defArgs s_q_is_share) (defBody s_q_is_share) (defScope s_q_is_share) .none kV_q_is_share dc_q_is_share pm_q_is_share an_q_is_share cd_q_is_share ct_q_is_share), sl_q_is_share⟩) (c_q_is_share : PySem.W.codeIn K cd_q_is_share "_law_is_share" = true) (k_q_is_share : PySem.W.keepIn K (.ref f_q_is_share) = true)
    (a_q_by : PySem.W.nsIn K mainGlobals "_law_by" = some (some (.ref f_q_by))) (l_q_by : K.lookup f_q_by = some ⟨oc_q_by, od_q_by, .func (PySem.W.fnOf "_law_by" "_law_by" (defArgs s_q_by) (defBody s_q_by) (defScope s_q_by) .none kV_q_by dc_q_by pm_q_by an_q_by cd_q_by ct_q_by), sl_q_by⟩) (c_q_by : PySem.W.codeIn K cd_q_by "_law_by" = true) (k_q_by : PySem.W.keepIn K (.ref f_q_by) = true)
    (a_q_there : PySem.W.nsIn K mainGlobals "_law_there" = some (some (.ref f_q_there))) (l_q_there : K.lookup f_q_there = some ⟨oc_q_there, od_q_there, .func (PySem.W.fnOf "_law_there" "_law_there" (defArgs s_q_there) (defBody s_q_there) (defScope s_q_there) .none kV_q_there dc_q_there pm_q_there an_q_there cd_q_there ct_q_there), sl_q_there⟩) (c_q_there : PySem.W.codeIn K cd_q_there "_law_there" = true) (k_q_there : PySem.W.keepIn K (.ref f_q_there) = true)
    (a_q_due : PySem.W.nsIn K mainGlobals "_law_due" = some (some (.ref f_q_due))) (l_q_due : K.lookup f_q_due = some ⟨oc_q_due, od_q_due, .func (PySem.W.fnOf "_law_due" "_law_due" (defArgs s_q_due) (defBody s_q_due) (defScope s_q_due) .none kV_q_due dc_q_due pm_q_due an_q_due cd_q_due ct_q_due), sl_q_due⟩) (c_q_due : PySem.W.codeIn K cd_q_due "_law_due" = true) (k_q_due : PySem.W.keepIn K (.ref f_q_due) = true)
    (a_q_right : PySem.W.nsIn K mainGlobals "_law_right" = some (some (.ref f_q_right))) (l_q_right : K.lookup f_q_right = some ⟨oc_q_right, od_q_right, .func (PySem.W.fnOf "_law_right" "_law_right" (defArgs s_q_right) (defBody s_q_right) (defScope s_q_right) .none kV_q_right dc_q_right pm_q_right an_q_right cd_q_right ct_q_right), sl_q_right⟩) (c_q_right : PySem.W.codeIn K cd_q_right "_law_right" = true) (k_q_right : PySem.W.keepIn K (.ref f_q_right) = true)
    (a_law : PySem.W.nsIn K mainGlobals "law" = some (some (.ref f_law))) (l_law : K.lookup f_law = some ⟨oc_law, od_law, .func (PySem.W.fnOf "law" "law" (defArgs s_law) (defBody s_law) (defScope s_law) .none kV_law dc_law pm_law an_law cd_law ct_law), sl_law⟩) (c_law : PySem.W.codeIn K cd_law "law" = true) (k_law : PySem.W.keepIn K (.ref f_law) = true)
    (z_abs : PySem.W.nsIn K mainGlobals "abs" = some none)
    (z_all : PySem.W.nsIn K mainGlobals "all" = some none)
    (z_any : PySem.W.nsIn K mainGlobals "any" = some none)
    (z_bool : PySem.W.nsIn K mainGlobals "bool" = some none)
    (z_enumerate : PySem.W.nsIn K mainGlobals "enumerate" = some none)
    (z_int : PySem.W.nsIn K mainGlobals "int" = some none)
    (z_isinstance : PySem.W.nsIn K mainGlobals "isinstance" = some none)
    (z_len : PySem.W.nsIn K mainGlobals "len" = some none)
    (z_list : PySem.W.nsIn K mainGlobals "list" = some none)
    (z_range : PySem.W.nsIn K mainGlobals "range" = some none)
    (z_sum : PySem.W.nsIn K mainGlobals "sum" = some none)
    (z_tuple : PySem.W.nsIn K mainGlobals "tuple" = some none)
    (a_Meet : PySem.W.nsIn K mainGlobals "Meet" = some (some (.ref O_Meet)))
    (pg_Meet : PySem.W.plainGet K O_Meet Str.empty = true)
    (hd_Meet : PySem.W.hasDictIn K O_Meet = true)
    (po_Meet : PySem.W.plainOver K O_Meet = true)
    (sa_Meet : PySem.W.findIn K (.ref O_Meet) "__setattr__" = some (some (.builtin "object.__setattr__")))
    (mk_Meet : PySem.W.makesIn K O_Meet = true)
    (kc_Meet : PySem.W.keepIn K (.ref O_Meet) = true)
    (no_Meet_moment : PySem.W.findIn K (.ref O_Meet) "moment" = some none)
    (a_Never : PySem.W.nsIn K mainGlobals "Never" = some (some (.ref O_Never)))
    (pg_Never : PySem.W.plainGet K O_Never Str.empty = true)
    (hd_Never : PySem.W.hasDictIn K O_Never = true)
    (po_Never : PySem.W.plainOver K O_Never = true)
    (sa_Never : PySem.W.findIn K (.ref O_Never) "__setattr__" = some (some (.builtin "object.__setattr__")))
    (mk_Never : PySem.W.makesIn K O_Never = true)
    (kc_Never : PySem.W.keepIn K (.ref O_Never) = true)
    (in_Never : PySem.W.findIn K (.ref O_Never) "__init__" = some (some (.builtin "object.__init__")))
    (hn_o : PySem.W.specialIn K (.builtin "object.__class__") "__get__" = some (some (.builtin "getset_descriptor.__get__")))
    (tk_o : PySem.W.takesIn K (.builtin "object.__class__") = some true)
    (oc_Meet : PySem.W.findIn K (.ref O_Meet) "__class__" = some (some (.builtin "object.__class__")))
    (mo_Meet : PySem.W.mroIn K O_Meet (.type "object") = some true)
    (oc_Never : PySem.W.findIn K (.ref O_Never) "__class__" = some (some (.builtin "object.__class__")))
    (mo_Never : PySem.W.mroIn K O_Never (.type "object") = some true)
    (ty_Never : PySem.W.typeIn K (.ref O_Never) = some (.type "type"))
    (su_Meet_Never : PySem.W.subIn K (.ref O_Meet) (.ref O_Never) = some false) (en_Meet_Never : (O_Meet == O_Never) = false)
    (ty_Meet : PySem.W.typeIn K (.ref O_Meet) = some (.type "type"))
    (su_Never_Meet : PySem.W.subIn K (.ref O_Never) (.ref O_Meet) = some false) (en_Never_Meet : (O_Never == O_Meet) = false)
    (a_One : PySem.W.nsIn K mainGlobals "One" = some (some (.ref O_One)))
    (hd_One : PySem.W.hasDictIn K O_One = true)
    (ty_One : PySem.W.typeIn K (.ref O_One) = some (.type "type"))
    (su_Meet_One : PySem.W.subIn K (.ref O_Meet) (.ref O_One) = some false) (en_Meet_One : (O_Meet == O_One) = false)
    (su_Never_One : PySem.W.subIn K (.ref O_Never) (.ref O_One) = some false) (en_Never_One : (O_Never == O_One) = false)
    (a_Parted : PySem.W.nsIn K mainGlobals "Parted" = some (some (.ref O_Parted)))
    (hd_Parted : PySem.W.hasDictIn K O_Parted = true)
    (ty_Parted : PySem.W.typeIn K (.ref O_Parted) = some (.type "type"))
    (su_Meet_Parted : PySem.W.subIn K (.ref O_Meet) (.ref O_Parted) = some false) (en_Meet_Parted : (O_Meet == O_Parted) = false)
    (su_Never_Parted : PySem.W.subIn K (.ref O_Never) (.ref O_Parted) = some false) (en_Never_Parted : (O_Never == O_Parted) = false)
    (a_Right : PySem.W.nsIn K mainGlobals "Right" = some (some (.ref O_Right)))
    (hd_Right : PySem.W.hasDictIn K O_Right = true)
    (ty_Right : PySem.W.typeIn K (.ref O_Right) = some (.type "type"))
    (su_Meet_Right : PySem.W.subIn K (.ref O_Meet) (.ref O_Right) = some false) (en_Meet_Right : (O_Meet == O_Right) = false)
    (su_Never_Right : PySem.W.subIn K (.ref O_Never) (.ref O_Right) = some false) (en_Never_Right : (O_Never == O_Right) = false)
    (a_Wrong : PySem.W.nsIn K mainGlobals "Wrong" = some (some (.ref O_Wrong)))
    (hd_Wrong : PySem.W.hasDictIn K O_Wrong = true)
    (ty_Wrong : PySem.W.typeIn K (.ref O_Wrong) = some (.type "type"))
    (su_Meet_Wrong : PySem.W.subIn K (.ref O_Meet) (.ref O_Wrong) = some false) (en_Meet_Wrong : (O_Meet == O_Wrong) = false)
    (su_Never_Wrong : PySem.W.subIn K (.ref O_Never) (.ref O_Wrong) = some false) (en_Never_Wrong : (O_Never == O_Wrong) = false)
    (a_Answer : PySem.W.nsIn K mainGlobals "Answer" = some (some (.ref O_Answer)))
    (hd_Answer : PySem.W.hasDictIn K O_Answer = true)
    (ty_Answer : PySem.W.typeIn K (.ref O_Answer) = some (.type "type"))
    (su_Meet_Answer : PySem.W.subIn K (.ref O_Meet) (.ref O_Answer) = some true) (en_Meet_Answer : (O_Meet == O_Answer) = false)
    (su_Never_Answer : PySem.W.subIn K (.ref O_Never) (.ref O_Answer) = some true) (en_Never_Answer : (O_Never == O_Answer) = false)
    (a_MOST_BEADS : PySem.W.nsIn K mainGlobals "MOST_BEADS" = some (some (.int 10 t_MOST_BEADS)))
    (a_MOST_BOTTOM : PySem.W.nsIn K mainGlobals "MOST_BOTTOM" = some (some (.int 60 t_MOST_BOTTOM)))
    (a_MOST_TOP : PySem.W.nsIn K mainGlobals "MOST_TOP" = some (some (.int 1000000 t_MOST_TOP)))
    (a_MOST_WEIGHT : PySem.W.nsIn K mainGlobals "MOST_WEIGHT" = some (some (.int 60 t_MOST_WEIGHT))) :
    ∃ (fd : FuncData) (T : Tab), (∀ (s : Shared) (v : Value), BindsTo s fd ⟨[v], []⟩ [("_law_script", v)]) ∧ ∀ base : Heap, K.In base → base.Ns mainGlobals mg → FnOk l.prog w K mg base (CXf l.prog w) 9 fa fd ["_law_script"] (spD T K m_law) := by
  have e := hfa.symm.trans (PySem.W.mg_of X G a_law)
  cases e
  have Z : Txt K mg := ⟨trivial, PySem.W.mg_none_of X G z_abs, PySem.W.mg_none_of X G z_all, PySem.W.mg_none_of X G z_any, PySem.W.mg_none_of X G z_bool, PySem.W.mg_none_of X G z_enumerate, PySem.W.mg_none_of X G z_int, PySem.W.mg_none_of X G z_isinstance, PySem.W.mg_none_of X G z_len, PySem.W.mg_none_of X G z_list, PySem.W.mg_none_of X G z_range, PySem.W.mg_none_of X G z_sum, PySem.W.mg_none_of X G z_tuple, ⟨_, PySem.W.mg_of X G a_MOST_BEADS⟩, ⟨_, PySem.W.mg_of X G a_MOST_BOTTOM⟩, ⟨_, PySem.W.mg_of X G a_MOST_TOP⟩, ⟨_, PySem.W.mg_of X G a_MOST_WEIGHT⟩⟩
  have F_q_number := fun_mk (st := s_q_number) l_q_number c_q_number k_q_number
  have D_q_number := fund_mk (st := s_q_number) l_q_number c_q_number k_q_number
  have b_q_number := F_q_number.binds (ps := ["_law_cell", "_law_at", "_law_whole_here"]) fun _ _ _ _ _ _ us hl => match us, hl with | [_, _, _], _ => rfl
  have F_q_low := fun_mk (st := s_q_low) l_q_low c_q_low k_q_low
  have D_q_low := fund_mk (st := s_q_low) l_q_low c_q_low k_q_low
  have b_q_low := F_q_low.binds (ps := ["_law_top", "_law_bottom"]) fun _ _ _ _ _ _ us hl => match us, hl with | [_, _], _ => rfl
  have F_q_row := fund_mk (st := s_q_row) l_q_row c_q_row k_q_row
  have b_q_row : Binds K _ ["_law_script", "_law_by_here", "_law_alike", "_law_most"] [.int 10 dt_q_row] := fun s us KX hl => by
    have hl2 : us.length = 3 := by simpa using hl
    match us, hl2 with
    | [_, _, _], _ => exact PySem.W.binds_K (fd := PySem.W.fnOf "_law_row" "_law_row" (defArgs s_q_row) (defBody s_q_row) (defScope s_q_row) (.ref dv_q_row) kV_q_row dc_q_row pm_q_row an_q_row cd_q_row ct_q_row) KX rfl e_q_row rfl rfl rfl
  have F_q_sum := fun_mk (st := s_q_sum) l_q_sum c_q_sum k_q_sum
  have D_q_sum := fund_mk (st := s_q_sum) l_q_sum c_q_sum k_q_sum
  have b_q_sum := F_q_sum.binds (ps := ["_law_one", "_law_other"]) fun _ _ _ _ _ _ us hl => match us, hl with | [_, _], _ => rfl
  have F_runs_of := fun_mk (st := s_runs_of) l_runs_of c_runs_of k_runs_of
  have D_runs_of := fund_mk (st := s_runs_of) l_runs_of c_runs_of k_runs_of
  have b_runs_of := F_runs_of.binds (ps := ["row"]) fun _ _ _ _ _ _ us hl => match us, hl with | [_], _ => rfl
  have F_common := fun_mk (st := s_common) l_common c_common k_common
  have D_common := fund_mk (st := s_common) l_common c_common k_common
  have b_common := F_common.binds (ps := ["one", "other"]) fun _ _ _ _ _ _ us hl => match us, hl with | [_, _], _ => rfl
  have F_lowest := fun_mk (st := s_lowest) l_lowest c_lowest k_lowest
  have D_lowest := fund_mk (st := s_lowest) l_lowest c_lowest k_lowest
  have b_lowest := F_lowest.binds (ps := ["top", "bottom"]) fun _ _ _ _ _ _ us hl => match us, hl with | [_, _], _ => rfl
  have F_lessened := fun_mk (st := s_lessened) l_lessened c_lessened k_lessened
  have D_lessened := fund_mk (st := s_lessened) l_lessened c_lessened k_lessened
  have b_lessened := F_lessened.binds (ps := ["one", "other"]) fun _ _ _ _ _ _ us hl => match us, hl with | [_, _], _ => rfl
  have F_parted := fun_mk (st := s_parted) l_parted c_parted k_parted
  have D_parted := fund_mk (st := s_parted) l_parted c_parted k_parted
  have b_parted := F_parted.binds (ps := ["one", "other"]) fun _ _ _ _ _ _ us hl => match us, hl with | [_, _], _ => rfl
  have F_wait_between := fun_mk (st := s_wait_between) l_wait_between c_wait_between k_wait_between
  have D_wait_between := fund_mk (st := s_wait_between) l_wait_between c_wait_between k_wait_between
  have b_wait_between := F_wait_between.binds (ps := ["one", "other"]) fun _ _ _ _ _ _ us hl => match us, hl with | [_, _], _ => rfl
  have F_Never_shows := fun_mk (st := s_Never_shows) l_Never_shows c_Never_shows k_Never_shows
  have D_Never_shows := fund_mk (st := s_Never_shows) l_Never_shows c_Never_shows k_Never_shows
  have b_Never_shows := F_Never_shows.binds (ps := ["self", "row", "bead"]) fun _ _ _ _ _ _ us hl => match us, hl with | [_, _, _], _ => rfl
  have F_is_whole := fun_mk (st := s_is_whole) l_is_whole c_is_whole k_is_whole
  have D_is_whole := fund_mk (st := s_is_whole) l_is_whole c_is_whole k_is_whole
  have b_is_whole := F_is_whole.binds (ps := ["value"]) fun _ _ _ _ _ _ us hl => match us, hl with | [_], _ => rfl
  have F_is_share := fun_mk (st := s_is_share) l_is_share c_is_share k_is_share
  have D_is_share := fund_mk (st := s_is_share) l_is_share c_is_share k_is_share
  have b_is_share := F_is_share.binds (ps := ["value"]) fun _ _ _ _ _ _ us hl => match us, hl with | [_], _ => rfl
  have F_Meet_shows := fun_mk (st := s_Meet_shows) l_Meet_shows c_Meet_shows k_Meet_shows
  have D_Meet_shows := fund_mk (st := s_Meet_shows) l_Meet_shows c_Meet_shows k_Meet_shows
  have b_Meet_shows := F_Meet_shows.binds (ps := ["self", "row", "bead"]) fun _ _ _ _ _ _ us hl => match us, hl with | [_, _, _], _ => rfl
  have F_q_far := fun_mk (st := s_q_far) l_q_far c_q_far k_q_far
  have D_q_far := fund_mk (st := s_q_far) l_q_far c_q_far k_q_far
  have b_q_far := F_q_far.binds (ps := ["_law_one", "_law_other"]) fun _ _ _ _ _ _ us hl => match us, hl with | [_, _], _ => rfl
  have F_is_weight := fun_mk (st := s_is_weight) l_is_weight c_is_weight k_is_weight
  have D_is_weight := fund_mk (st := s_is_weight) l_is_weight c_is_weight k_is_weight
  have b_is_weight := F_is_weight.binds (ps := ["value"]) fun _ _ _ _ _ _ us hl => match us, hl with | [_], _ => rfl
  have F_is_row_share := fun_mk (st := s_is_row_share) l_is_row_share c_is_row_share k_is_row_share
  have D_is_row_share := fund_mk (st := s_is_row_share) l_is_row_share c_is_row_share k_is_row_share
  have b_is_row_share := F_is_row_share.binds (ps := ["value"]) fun _ _ _ _ _ _ us hl => match us, hl with | [_], _ => rfl
  have F_is_bead := fun_mk (st := s_is_bead) l_is_bead c_is_bead k_is_bead
  have D_is_bead := fund_mk (st := s_is_bead) l_is_bead c_is_bead k_is_bead
  have b_is_bead := F_is_bead.binds (ps := ["value"]) fun _ _ _ _ _ _ us hl => match us, hl with | [_], _ => rfl
  have F_compared := fun_mk (st := s_compared) l_compared c_compared k_compared
  have D_compared := fund_mk (st := s_compared) l_compared c_compared k_compared
  have b_compared := F_compared.binds (ps := ["one", "other"]) fun _ _ _ _ _ _ us hl => match us, hl with | [_, _], _ => rfl
  have F_places_rise := fun_mk (st := s_places_rise) l_places_rise c_places_rise k_places_rise
  have D_places_rise := fund_mk (st := s_places_rise) l_places_rise c_places_rise k_places_rise
  have b_places_rise := F_places_rise.binds (ps := ["beads"]) fun _ _ _ _ _ _ us hl => match us, hl with | [_], _ => rfl
  have F_is_row := fun_mk (st := s_is_row) l_is_row c_is_row k_is_row
  have D_is_row := fund_mk (st := s_is_row) l_is_row c_is_row k_is_row
  have b_is_row := F_is_row.binds (ps := ["value"]) fun _ _ _ _ _ _ us hl => match us, hl with | [_], _ => rfl
  have F_need_row := fun_mk (st := s_need_row) l_need_row c_need_row k_need_row
  have D_need_row := fund_mk (st := s_need_row) l_need_row c_need_row k_need_row
  have b_need_row := F_need_row.binds (ps := ["row"]) fun _ _ _ _ _ _ us hl => match us, hl with | [_], _ => rfl
  have F_is_bead_of := fun_mk (st := s_is_bead_of) l_is_bead_of c_is_bead_of k_is_bead_of
  have D_is_bead_of := fund_mk (st := s_is_bead_of) l_is_bead_of c_is_bead_of k_is_bead_of
  have b_is_bead_of := F_is_bead_of.binds (ps := ["row", "bead"]) fun _ _ _ _ _ _ us hl => match us, hl with | [_, _], _ => rfl
  have F_need_bead := fun_mk (st := s_need_bead) l_need_bead c_need_bead k_need_bead
  have D_need_bead := fund_mk (st := s_need_bead) l_need_bead c_need_bead k_need_bead
  have b_need_bead := F_need_bead.binds (ps := ["row", "bead"]) fun _ _ _ _ _ _ us hl => match us, hl with | [_, _], _ => rfl
  have F_Meet___init__ := fun_mk (st := s_Meet___init__) l_Meet___init__ c_Meet___init__ k_Meet___init__
  have D_Meet___init__ := fund_mk (st := s_Meet___init__) l_Meet___init__ c_Meet___init__ k_Meet___init__
  have b_Meet___init__ := F_Meet___init__.binds (ps := ["self", "moment"]) fun _ _ _ _ _ _ us hl => match us, hl with | [_, _], _ => rfl
  have F_pair_meets := fun_mk (st := s_pair_meets) l_pair_meets c_pair_meets k_pair_meets
  have D_pair_meets := fund_mk (st := s_pair_meets) l_pair_meets c_pair_meets k_pair_meets
  have b_pair_meets := F_pair_meets.binds (ps := ["row", "bead"]) fun _ _ _ _ _ _ us hl => match us, hl with | [_, _], _ => rfl
  have F_q_whole := fun_mk (st := s_q_whole) l_q_whole c_q_whole k_q_whole
  have D_q_whole := fund_mk (st := s_q_whole) l_q_whole c_q_whole k_q_whole
  have b_q_whole := F_q_whole.binds (ps := ["_law_found"]) fun _ _ _ _ _ _ us hl => match us, hl with | [_], _ => rfl
  have F_q_is_share := fun_mk (st := s_q_is_share) l_q_is_share c_q_is_share k_q_is_share
  have D_q_is_share := fund_mk (st := s_q_is_share) l_q_is_share c_q_is_share k_q_is_share
  have b_q_is_share := F_q_is_share.binds (ps := ["_law_found"]) fun _ _ _ _ _ _ us hl => match us, hl with | [_], _ => rfl
  have F_q_by := fun_mk (st := s_q_by) l_q_by c_q_by k_q_by
  have D_q_by := fund_mk (st := s_q_by) l_q_by c_q_by k_q_by
  have b_q_by := F_q_by.binds (ps := ["_law_one", "_law_other"]) fun _ _ _ _ _ _ us hl => match us, hl with | [_, _], _ => rfl
  have F_q_there := fun_mk (st := s_q_there) l_q_there c_q_there k_q_there
  have D_q_there := fund_mk (st := s_q_there) l_q_there c_q_there k_q_there
  have b_q_there := F_q_there.binds (ps := ["_law_line", "_law_moment"]) fun _ _ _ _ _ _ us hl => match us, hl with | [_, _], _ => rfl
  have F_q_due := fun_mk (st := s_q_due) l_q_due c_q_due k_q_due
  have D_q_due := fund_mk (st := s_q_due) l_q_due c_q_due k_q_due
  have b_q_due := F_q_due.binds (ps := ["_law_row_here", "_law_bead", "_law_found"]) fun _ _ _ _ _ _ us hl => match us, hl with | [_, _, _], _ => rfl
  have F_q_right := fun_mk (st := s_q_right) l_q_right c_q_right k_q_right
  have D_q_right := fund_mk (st := s_q_right) l_q_right c_q_right k_q_right
  have b_q_right := F_q_right.binds (ps := ["_law_row_here", "_law_bead", "_law_others"]) fun _ _ _ _ _ _ us hl => match us, hl with | [_, _, _], _ => rfl
  have F_law := fun_mk (st := s_law) l_law c_law k_law
  have D_law := fund_mk (st := s_law) l_law c_law k_law
  have Y : Txe K mg (TabL [] [] [(3, O_Meet, ["moment"]), (4, O_Never, [])]) := ⟨tabL_is,
    ⟨PySem.W.mg_of X G a_Meet, rfl, ⟨pg_Meet, hd_Meet, po_Meet, sa_Meet⟩, (no_cons no_Meet_moment no_nil), by decide⟩,
    ⟨PySem.W.mg_of X G a_Never, rfl, ⟨pg_Never, hd_Never, po_Never, sa_Never⟩, no_nil, by decide⟩,
    ⟨mk_Never, in_Never, kc_Never⟩,
    ⟨_, PySem.W.mg_of X G a_Never, (iso_cons ⟨⟨pg_Meet, hd_Meet, po_Meet, sa_Meet⟩, oc_Meet, hn_o, tk_o, mo_Meet⟩ ⟨_, rfl⟩ (kit_ob hd_Never ty_Never su_Meet_Never en_Meet_Never) (iso_cons ⟨⟨pg_Never, hd_Never, po_Never, sa_Never⟩, oc_Never, hn_o, tk_o, mo_Never⟩ ⟨_, rfl⟩ kit_yes iso_nil))⟩,
    ⟨_, PySem.W.mg_of X G a_Meet, (iso_cons ⟨⟨pg_Meet, hd_Meet, po_Meet, sa_Meet⟩, oc_Meet, hn_o, tk_o, mo_Meet⟩ ⟨_, rfl⟩ kit_yes (iso_cons ⟨⟨pg_Never, hd_Never, po_Never, sa_Never⟩, oc_Never, hn_o, tk_o, mo_Never⟩ ⟨_, rfl⟩ (kit_ob hd_Meet ty_Meet su_Never_Meet en_Never_Meet) iso_nil))⟩,
    ⟨_, PySem.W.mg_of X G a_One, (iso_cons ⟨⟨pg_Meet, hd_Meet, po_Meet, sa_Meet⟩, oc_Meet, hn_o, tk_o, mo_Meet⟩ ⟨_, rfl⟩ (kit_ob hd_One ty_One su_Meet_One en_Meet_One) (iso_cons ⟨⟨pg_Never, hd_Never, po_Never, sa_Never⟩, oc_Never, hn_o, tk_o, mo_Never⟩ ⟨_, rfl⟩ (kit_ob hd_One ty_One su_Never_One en_Never_One) iso_nil))⟩,
    ⟨_, PySem.W.mg_of X G a_Parted, (iso_cons ⟨⟨pg_Meet, hd_Meet, po_Meet, sa_Meet⟩, oc_Meet, hn_o, tk_o, mo_Meet⟩ ⟨_, rfl⟩ (kit_ob hd_Parted ty_Parted su_Meet_Parted en_Meet_Parted) (iso_cons ⟨⟨pg_Never, hd_Never, po_Never, sa_Never⟩, oc_Never, hn_o, tk_o, mo_Never⟩ ⟨_, rfl⟩ (kit_ob hd_Parted ty_Parted su_Never_Parted en_Never_Parted) iso_nil))⟩,
    ⟨_, PySem.W.mg_of X G a_Right, (iso_cons ⟨⟨pg_Meet, hd_Meet, po_Meet, sa_Meet⟩, oc_Meet, hn_o, tk_o, mo_Meet⟩ ⟨_, rfl⟩ (kit_ob hd_Right ty_Right su_Meet_Right en_Meet_Right) (iso_cons ⟨⟨pg_Never, hd_Never, po_Never, sa_Never⟩, oc_Never, hn_o, tk_o, mo_Never⟩ ⟨_, rfl⟩ (kit_ob hd_Right ty_Right su_Never_Right en_Never_Right) iso_nil))⟩,
    ⟨_, PySem.W.mg_of X G a_Wrong, (iso_cons ⟨⟨pg_Meet, hd_Meet, po_Meet, sa_Meet⟩, oc_Meet, hn_o, tk_o, mo_Meet⟩ ⟨_, rfl⟩ (kit_ob hd_Wrong ty_Wrong su_Meet_Wrong en_Meet_Wrong) (iso_cons ⟨⟨pg_Never, hd_Never, po_Never, sa_Never⟩, oc_Never, hn_o, tk_o, mo_Never⟩ ⟨_, rfl⟩ (kit_ob hd_Wrong ty_Wrong su_Never_Wrong en_Never_Wrong) iso_nil))⟩,
    ⟨_, PySem.W.mg_of X G a_Answer, (iso_cons ⟨⟨pg_Meet, hd_Meet, po_Meet, sa_Meet⟩, oc_Meet, hn_o, tk_o, mo_Meet⟩ ⟨_, rfl⟩ (kit_ob hd_Answer ty_Answer su_Meet_Answer en_Meet_Answer) (iso_cons ⟨⟨pg_Never, hd_Never, po_Never, sa_Never⟩, oc_Never, hn_o, tk_o, mo_Never⟩ ⟨_, rfl⟩ (kit_ob hd_Answer ty_Answer su_Never_Answer en_Never_Answer) iso_nil))⟩⟩
  refine ⟨PySem.W.fnOf "law" "law" (defArgs s_law) (defBody s_law) (defScope s_law) .none kV_law dc_law pm_law an_law cd_law ct_law, (TabL [] [] [(3, O_Meet, ["moment"]), (4, O_Never, [])]), fun s v => .of_eq rfl, fun base _ _ => ?_⟩
  have C_q_number : Cl l.prog w K mg base (CXf l.prog w) (TabL [] [] [(3, O_Meet, ["moment"]), (4, O_Never, [])]) "_law_number" ["_law_cell", "_law_at", "_law_whole_here"] 1 m_q_number := ok_q_number Z Y D_q_number (PySem.W.mg_of X G a_q_number) b_q_number
  have C_q_low : Cl l.prog w K mg base (CXf l.prog w) (TabL [] [] [(3, O_Meet, ["moment"]), (4, O_Never, [])]) "_law_low" ["_law_top", "_law_bottom"] 1 m_q_low := ok_q_low Z Y D_q_low (PySem.W.mg_of X G a_q_low) b_q_low
  have C_q_row : ClD l.prog w K mg base (CXf l.prog w) (TabL [] [] [(3, O_Meet, ["moment"]), (4, O_Never, [])]) "_law_row" ["_law_script", "_law_by_here", "_law_alike", "_law_most"] 2 m_q_row 10 := ok_q_row Z Y C_q_number C_q_low F_q_row (PySem.W.mg_of X G a_q_row) b_q_row
  have C_q_sum : Cl l.prog w K mg base (CXf l.prog w) (TabL [] [] [(3, O_Meet, ["moment"]), (4, O_Never, [])]) "_law_sum" ["_law_one", "_law_other"] 2 m_q_sum := ok_q_sum Z Y C_q_low D_q_sum (PySem.W.mg_of X G a_q_sum) b_q_sum
  have C_runs_of : Cl l.prog w K mg base (CXf l.prog w) (TabL [] [] [(3, O_Meet, ["moment"]), (4, O_Never, [])]) "runs_of" ["row"] 1 m_runs_of := ok_runs_of Z Y D_runs_of (PySem.W.mg_of X G a_runs_of) b_runs_of
  have C_common : Cl l.prog w K mg base (CXf l.prog w) (TabL [] [] [(3, O_Meet, ["moment"]), (4, O_Never, [])]) "common" ["one", "other"] 1 m_common := ok_common Z Y D_common (PySem.W.mg_of X G a_common) b_common
  have C_lowest : Cl l.prog w K mg base (CXf l.prog w) (TabL [] [] [(3, O_Meet, ["moment"]), (4, O_Never, [])]) "lowest" ["top", "bottom"] 2 m_lowest := ok_lowest Z Y C_common D_lowest (PySem.W.mg_of X G a_lowest) b_lowest
  have C_lessened : Cl l.prog w K mg base (CXf l.prog w) (TabL [] [] [(3, O_Meet, ["moment"]), (4, O_Never, [])]) "lessened" ["one", "other"] 3 m_lessened := ok_lessened Z Y C_lowest D_lessened (PySem.W.mg_of X G a_lessened) b_lessened
  have C_parted : Cl l.prog w K mg base (CXf l.prog w) (TabL [] [] [(3, O_Meet, ["moment"]), (4, O_Never, [])]) "parted" ["one", "other"] 3 m_parted := ok_parted Z Y C_lowest D_parted (PySem.W.mg_of X G a_parted) b_parted
  have C_wait_between : Cl l.prog w K mg base (CXf l.prog w) (TabL [] [] [(3, O_Meet, ["moment"]), (4, O_Never, [])]) "wait_between" ["one", "other"] 4 m_wait_between := ok_wait_between Z Y C_lessened C_parted D_wait_between (PySem.W.mg_of X G a_wait_between) b_wait_between
  have C_Never_shows : ClM l.prog w K mg base (CXf l.prog w) (TabL [] [] [(3, O_Meet, ["moment"]), (4, O_Never, [])]) (oA (TabL [] [] [(3, O_Meet, ["moment"]), (4, O_Never, [])]) 4) "shows" ["self", "row", "bead"] 5 m_Never_shows := ok_Never_shows Z Y C_runs_of C_wait_between D_Never_shows ⟨a_Never_shows, i_Never_shows, k_Never_shows⟩ b_Never_shows
  have C_is_whole : Cl l.prog w K mg base (CXf l.prog w) (TabL [] [] [(3, O_Meet, ["moment"]), (4, O_Never, [])]) "is_whole" ["value"] 1 m_is_whole := ok_is_whole Z Y D_is_whole (PySem.W.mg_of X G a_is_whole) b_is_whole
  have C_is_share : Cl l.prog w K mg base (CXf l.prog w) (TabL [] [] [(3, O_Meet, ["moment"]), (4, O_Never, [])]) "is_share" ["value"] 2 m_is_share := ok_is_share Z Y C_is_whole C_common D_is_share (PySem.W.mg_of X G a_is_share) b_is_share
  have C_Meet_shows : ClM l.prog w K mg base (CXf l.prog w) (TabL [] [] [(3, O_Meet, ["moment"]), (4, O_Never, [])]) (oA (TabL [] [] [(3, O_Meet, ["moment"]), (4, O_Never, [])]) 3) "shows" ["self", "row", "bead"] 5 m_Meet_shows := ok_Meet_shows Z Y C_runs_of C_is_share C_wait_between D_Meet_shows ⟨a_Meet_shows, i_Meet_shows, k_Meet_shows⟩ b_Meet_shows
  have C_q_far : Cl l.prog w K mg base (CXf l.prog w) (TabL [] [] [(3, O_Meet, ["moment"]), (4, O_Never, [])]) "_law_far" ["_law_one", "_law_other"] 1 m_q_far := ok_q_far Z Y D_q_far (PySem.W.mg_of X G a_q_far) b_q_far
  have C_is_weight : Cl l.prog w K mg base (CXf l.prog w) (TabL [] [] [(3, O_Meet, ["moment"]), (4, O_Never, [])]) "is_weight" ["value"] 2 m_is_weight := ok_is_weight Z Y C_is_whole D_is_weight (PySem.W.mg_of X G a_is_weight) b_is_weight
  have C_is_row_share : Cl l.prog w K mg base (CXf l.prog w) (TabL [] [] [(3, O_Meet, ["moment"]), (4, O_Never, [])]) "is_row_share" ["value"] 3 m_is_row_share := ok_is_row_share Z Y C_is_share D_is_row_share (PySem.W.mg_of X G a_is_row_share) b_is_row_share
  have C_is_bead : Cl l.prog w K mg base (CXf l.prog w) (TabL [] [] [(3, O_Meet, ["moment"]), (4, O_Never, [])]) "is_bead" ["value"] 4 m_is_bead := ok_is_bead Z Y C_is_weight C_is_row_share D_is_bead (PySem.W.mg_of X G a_is_bead) b_is_bead
  have C_compared : Cl l.prog w K mg base (CXf l.prog w) (TabL [] [] [(3, O_Meet, ["moment"]), (4, O_Never, [])]) "compared" ["one", "other"] 1 m_compared := ok_compared Z Y D_compared (PySem.W.mg_of X G a_compared) b_compared
  have C_places_rise : Cl l.prog w K mg base (CXf l.prog w) (TabL [] [] [(3, O_Meet, ["moment"]), (4, O_Never, [])]) "places_rise" ["beads"] 2 m_places_rise := ok_places_rise Z Y C_compared D_places_rise (PySem.W.mg_of X G a_places_rise) b_places_rise
  have C_is_row : Cl l.prog w K mg base (CXf l.prog w) (TabL [] [] [(3, O_Meet, ["moment"]), (4, O_Never, [])]) "is_row" ["value"] 5 m_is_row := ok_is_row Z Y C_is_bead C_places_rise D_is_row (PySem.W.mg_of X G a_is_row) b_is_row
  have C_need_row : Cl l.prog w K mg base (CXf l.prog w) (TabL [] [] [(3, O_Meet, ["moment"]), (4, O_Never, [])]) "need_row" ["row"] 6 m_need_row := ok_need_row Z Y C_is_row D_need_row (PySem.W.mg_of X G a_need_row) b_need_row
  have C_is_bead_of : Cl l.prog w K mg base (CXf l.prog w) (TabL [] [] [(3, O_Meet, ["moment"]), (4, O_Never, [])]) "is_bead_of" ["row", "bead"] 2 m_is_bead_of := ok_is_bead_of Z Y C_is_whole D_is_bead_of (PySem.W.mg_of X G a_is_bead_of) b_is_bead_of
  have C_need_bead : Cl l.prog w K mg base (CXf l.prog w) (TabL [] [] [(3, O_Meet, ["moment"]), (4, O_Never, [])]) "need_bead" ["row", "bead"] 3 m_need_bead := ok_need_bead Z Y C_is_bead_of D_need_bead (PySem.W.mg_of X G a_need_bead) b_need_bead
  have C_Meet___init__ : ClI l.prog w K mg base (CXf l.prog w) (oA (TabL [] [] [(3, O_Meet, ["moment"]), (4, O_Never, [])]) 3) ["self", "moment"] 1 ["moment"] := ok_Meet___init__ Z Y D_Meet___init__ ⟨mk_Meet, a_Meet___init__, i_Meet___init__, kc_Meet⟩ b_Meet___init__
  have C_pair_meets : Cl l.prog w K mg base (CXf l.prog w) (TabL [] [] [(3, O_Meet, ["moment"]), (4, O_Never, [])]) "pair_meets" ["row", "bead"] 7 m_pair_meets := ok_pair_meets Z Y C_need_row C_need_bead C_runs_of C_wait_between C_Meet___init__ D_pair_meets (PySem.W.mg_of X G a_pair_meets) b_pair_meets
  have C_q_whole : Cl l.prog w K mg base (CXf l.prog w) (TabL [] [] [(3, O_Meet, ["moment"]), (4, O_Never, [])]) "_law_whole" ["_law_found"] 1 m_q_whole := ok_q_whole Z Y D_q_whole (PySem.W.mg_of X G a_q_whole) b_q_whole
  have C_q_is_share : Cl l.prog w K mg base (CXf l.prog w) (TabL [] [] [(3, O_Meet, ["moment"]), (4, O_Never, [])]) "_law_is_share" ["_law_found"] 2 m_q_is_share := ok_q_is_share Z Y C_q_whole C_q_low D_q_is_share (PySem.W.mg_of X G a_q_is_share) b_q_is_share
  have C_q_by : Cl l.prog w K mg base (CXf l.prog w) (TabL [] [] [(3, O_Meet, ["moment"]), (4, O_Never, [])]) "_law_by" ["_law_one", "_law_other"] 2 m_q_by := ok_q_by Z Y C_q_low D_q_by (PySem.W.mg_of X G a_q_by) b_q_by
  have C_q_there : Cl l.prog w K mg base (CXf l.prog w) (TabL [] [] [(3, O_Meet, ["moment"]), (4, O_Never, [])]) "_law_there" ["_law_line", "_law_moment"] 3 m_q_there := ok_q_there Z Y C_q_sum C_q_by D_q_there (PySem.W.mg_of X G a_q_there) b_q_there
  have C_q_due : Cl l.prog w K mg base (CXf l.prog w) (TabL [] [] [(3, O_Meet, ["moment"]), (4, O_Never, [])]) "_law_due" ["_law_row_here", "_law_bead", "_law_found"] 4 m_q_due := ok_q_due Z Y C_q_far C_q_is_share C_q_there D_q_due (PySem.W.mg_of X G a_q_due) b_q_due
  have C_q_right : Cl l.prog w K mg base (CXf l.prog w) (TabL [] [] [(3, O_Meet, ["moment"]), (4, O_Never, [])]) "_law_right" ["_law_row_here", "_law_bead", "_law_others"] 8 m_q_right := ok_q_right Z Y C_q_far C_pair_meets C_q_due C_Meet_shows C_Never_shows C_q_by C_q_there D_q_right (PySem.W.mg_of X G a_q_right) b_q_right
  exact (ok_law_fn Z Y C_q_row C_q_sum C_q_right C_q_number C_q_low C_pair_meets D_law)
end BD
open PySem PySem.W PyProof.Rows
set_option maxRecDepth 100000 in
set_option maxHeartbeats 0 in
theorem PySem.Challenge.cw_beadway_k09_whole_pair_holds : PySem.Challenge.rw_beadway_k09_whole_pair.Holds := by
  w_on; o_law; k_head; (case hw => w_witness2)
  k_fill
  refine BD.walk_Dx (l := PySem.Challenge.rw_beadway_k09_whole_pair) (n := 63) (k := 9) (x := "_law_script") (g := BD.m_law) rfl (by decide) rfl ⟨rfl, by decide, by decide⟩ (fun w h Y => PySem.W.kIn_of Y) BD.law_true ?F
  case F =>
    intro w mg fa h KX G hmg
    refine' BD.all_mk KX G hmg ?a_q_number ?l_q_number ?c_q_number ?k_q_number ?a_q_low ?l_q_low ?c_q_low ?k_q_low ?a_q_row ?l_q_row ?c_q_row ?k_q_row ?e_q_row ?a_q_sum ?l_q_sum ?c_q_sum ?k_q_sum ?a_runs_of ?l_runs_of ?c_runs_of ?k_runs_of ?a_common ?l_common ?c_common ?k_common ?a_lowest ?l_lowest ?c_lowest ?k_lowest ?a_lessened ?l_lessened ?c_lessened ?k_lessened ?a_parted ?l_parted ?c_parted ?k_parted ?a_wait_between ?l_wait_between ?c_wait_between ?k_wait_between ?a_Never_shows ?l_Never_shows ?c_Never_shows ?k_Never_shows ?i_Never_shows ?a_is_whole ?l_is_whole ?c_is_whole ?k_is_whole ?a_is_share ?l_is_share ?c_is_share ?k_is_share ?a_Meet_shows ?l_Meet_shows ?c_Meet_shows ?k_Meet_shows ?i_Meet_shows ?a_q_far ?l_q_far ?c_q_far ?k_q_far ?a_is_weight ?l_is_weight ?c_is_weight ?k_is_weight ?a_is_row_share ?l_is_row_share ?c_is_row_share ?k_is_row_share ?a_is_bead ?l_is_bead ?c_is_bead ?k_is_bead ?a_compared ?l_compared ?c_compared ?k_compared ?a_places_rise ?l_places_rise ?c_places_rise ?k_places_rise ?a_is_row ?l_is_row ?c_is_row ?k_is_row ?a_need_row ?l_need_row ?c_need_row ?k_need_row ?a_is_bead_of ?l_is_bead_of ?c_is_bead_of ?k_is_bead_of ?a_need_bead ?l_need_bead ?c_need_bead ?k_need_bead ?a_Meet___init__ ?l_Meet___init__ ?c_Meet___init__ ?k_Meet___init__ ?i_Meet___init__ ?a_pair_meets ?l_pair_meets ?c_pair_meets ?k_pair_meets ?a_q_whole ?l_q_whole ?c_q_whole ?k_q_whole ?a_q_is_share ?l_q_is_share ?c_q_is_share ?k_q_is_share ?a_q_by ?l_q_by ?c_q_by ?k_q_by ?a_q_there ?l_q_there ?c_q_there ?k_q_there ?a_q_due ?l_q_due ?c_q_due ?k_q_due ?a_q_right ?l_q_right ?c_q_right ?k_q_right ?a_law ?l_law ?c_law ?k_law ?z_abs ?z_all ?z_any ?z_bool ?z_enumerate ?z_int ?z_isinstance ?z_len ?z_list ?z_range ?z_sum ?z_tuple ?a_Meet ?pg_Meet ?hd_Meet ?po_Meet ?sa_Meet ?mk_Meet ?kc_Meet ?no_Meet_moment ?a_Never ?pg_Never ?hd_Never ?po_Never ?sa_Never ?mk_Never ?kc_Never ?in_Never ?hn_o ?tk_o ?oc_Meet ?mo_Meet ?oc_Never ?mo_Never ?ty_Never ?su_Meet_Never ?en_Meet_Never ?ty_Meet ?su_Never_Meet ?en_Never_Meet ?a_One ?hd_One ?ty_One ?su_Meet_One ?en_Meet_One ?su_Never_One ?en_Never_One ?a_Parted ?hd_Parted ?ty_Parted ?su_Meet_Parted ?en_Meet_Parted ?su_Never_Parted ?en_Never_Parted ?a_Right ?hd_Right ?ty_Right ?su_Meet_Right ?en_Meet_Right ?su_Never_Right ?en_Never_Right ?a_Wrong ?hd_Wrong ?ty_Wrong ?su_Meet_Wrong ?en_Meet_Wrong ?su_Never_Wrong ?en_Never_Wrong ?a_Answer ?hd_Answer ?ty_Answer ?su_Meet_Answer ?en_Meet_Answer ?su_Never_Answer ?en_Never_Answer ?a_MOST_BEADS ?a_MOST_BOTTOM ?a_MOST_TOP ?a_MOST_WEIGHT
    (case a_Meet => k_is)
    (case pg_Meet => k_is)
    (case hd_Meet => k_is)
    (case po_Meet => k_is)
    (case sa_Meet => k_is)
    (case mk_Meet => k_is)
    (case kc_Meet => k_is)
    (case no_Meet_moment => k_is)
    (case a_Never => k_is)
    (case pg_Never => k_is)
    (case hd_Never => k_is)
    (case po_Never => k_is)
    (case sa_Never => k_is)
    (case mk_Never => k_is)
    (case kc_Never => k_is)
    (case in_Never => k_is)
    (case a_One => k_is)
    (case a_Parted => k_is)
    (case a_Right => k_is)
    (case a_Wrong => k_is)
    (case a_Answer => k_is)
    (case a_q_number => k_is)
    (case l_q_number => k_is)
    (case c_q_number => k_is)
    (case k_q_number => k_is)
    (case a_q_low => k_is)
    (case l_q_low => k_is)
    (case c_q_low => k_is)
    (case k_q_low => k_is)
    (case a_q_row => k_is)
    (case l_q_row => k_is)
    (case c_q_row => k_is)
    (case k_q_row => k_is)
    (case e_q_row => k_is)
    (case a_q_sum => k_is)
    (case l_q_sum => k_is)
    (case c_q_sum => k_is)
    (case k_q_sum => k_is)
    (case a_runs_of => k_is)
    (case l_runs_of => k_is)
    (case c_runs_of => k_is)
    (case k_runs_of => k_is)
    (case a_common => k_is)
    (case l_common => k_is)
    (case c_common => k_is)
    (case k_common => k_is)
    (case a_lowest => k_is)
    (case l_lowest => k_is)
    (case c_lowest => k_is)
    (case k_lowest => k_is)
    (case a_lessened => k_is)
    (case l_lessened => k_is)
    (case c_lessened => k_is)
    (case k_lessened => k_is)
    (case a_parted => k_is)
    (case l_parted => k_is)
    (case c_parted => k_is)
    (case k_parted => k_is)
    (case a_wait_between => k_is)
    (case l_wait_between => k_is)
    (case c_wait_between => k_is)
    (case k_wait_between => k_is)
    (case a_Never_shows => k_is)
    (case l_Never_shows => k_is)
    (case c_Never_shows => k_is)
    (case k_Never_shows => k_is)
    (case i_Never_shows => k_is)
    (case a_is_whole => k_is)
    (case l_is_whole => k_is)
    (case c_is_whole => k_is)
    (case k_is_whole => k_is)
    (case a_is_share => k_is)
    (case l_is_share => k_is)
    (case c_is_share => k_is)
    (case k_is_share => k_is)
    (case a_Meet_shows => k_is)
    (case l_Meet_shows => k_is)
    (case c_Meet_shows => k_is)
    (case k_Meet_shows => k_is)
    (case i_Meet_shows => k_is)
    (case a_q_far => k_is)
    (case l_q_far => k_is)
    (case c_q_far => k_is)
    (case k_q_far => k_is)
    (case a_is_weight => k_is)
    (case l_is_weight => k_is)
    (case c_is_weight => k_is)
    (case k_is_weight => k_is)
    (case a_is_row_share => k_is)
    (case l_is_row_share => k_is)
    (case c_is_row_share => k_is)
    (case k_is_row_share => k_is)
    (case a_is_bead => k_is)
    (case l_is_bead => k_is)
    (case c_is_bead => k_is)
    (case k_is_bead => k_is)
    (case a_compared => k_is)
    (case l_compared => k_is)
    (case c_compared => k_is)
    (case k_compared => k_is)
    (case a_places_rise => k_is)
    (case l_places_rise => k_is)
    (case c_places_rise => k_is)
    (case k_places_rise => k_is)
    (case a_is_row => k_is)
    (case l_is_row => k_is)
    (case c_is_row => k_is)
    (case k_is_row => k_is)
    (case a_need_row => k_is)
    (case l_need_row => k_is)
    (case c_need_row => k_is)
    (case k_need_row => k_is)
    (case a_is_bead_of => k_is)
    (case l_is_bead_of => k_is)
    (case c_is_bead_of => k_is)
    (case k_is_bead_of => k_is)
    (case a_need_bead => k_is)
    (case l_need_bead => k_is)
    (case c_need_bead => k_is)
    (case k_need_bead => k_is)
    (case a_Meet___init__ => k_is)
    (case l_Meet___init__ => k_is)
    (case c_Meet___init__ => k_is)
    (case k_Meet___init__ => k_is)
    (case i_Meet___init__ => k_is)
    (case a_pair_meets => k_is)
    (case l_pair_meets => k_is)
    (case c_pair_meets => k_is)
    (case k_pair_meets => k_is)
    (case a_q_whole => k_is)
    (case l_q_whole => k_is)
    (case c_q_whole => k_is)
    (case k_q_whole => k_is)
    (case a_q_is_share => k_is)
    (case l_q_is_share => k_is)
    (case c_q_is_share => k_is)
    (case k_q_is_share => k_is)
    (case a_q_by => k_is)
    (case l_q_by => k_is)
    (case c_q_by => k_is)
    (case k_q_by => k_is)
    (case a_q_there => k_is)
    (case l_q_there => k_is)
    (case c_q_there => k_is)
    (case k_q_there => k_is)
    (case a_q_due => k_is)
    (case l_q_due => k_is)
    (case c_q_due => k_is)
    (case k_q_due => k_is)
    (case a_q_right => k_is)
    (case l_q_right => k_is)
    (case c_q_right => k_is)
    (case k_q_right => k_is)
    (case a_law => k_is)
    (case l_law => k_is)
    (case c_law => k_is)
    (case k_law => k_is)
    (case z_abs => k_is)
    (case z_all => k_is)
    (case z_any => k_is)
    (case z_bool => k_is)
    (case z_enumerate => k_is)
    (case z_int => k_is)
    (case z_isinstance => k_is)
    (case z_len => k_is)
    (case z_list => k_is)
    (case z_range => k_is)
    (case z_sum => k_is)
    (case z_tuple => k_is)
    (case hn_o => k_is)
    (case tk_o => k_is)
    (case oc_Meet => k_is)
    (case mo_Meet => k_is)
    (case oc_Never => k_is)
    (case mo_Never => k_is)
    (case ty_Never => k_is)
    (case su_Meet_Never => k_is)
    (case en_Meet_Never => decide)
    (case ty_Meet => k_is)
    (case su_Never_Meet => k_is)
    (case en_Never_Meet => decide)
    (case hd_One => k_is)
    (case ty_One => k_is)
    (case su_Meet_One => k_is)
    (case en_Meet_One => decide)
    (case su_Never_One => k_is)
    (case en_Never_One => decide)
    (case hd_Parted => k_is)
    (case ty_Parted => k_is)
    (case su_Meet_Parted => k_is)
    (case en_Meet_Parted => decide)
    (case su_Never_Parted => k_is)
    (case en_Never_Parted => decide)
    (case hd_Right => k_is)
    (case ty_Right => k_is)
    (case su_Meet_Right => k_is)
    (case en_Meet_Right => decide)
    (case su_Never_Right => k_is)
    (case en_Never_Right => decide)
    (case hd_Wrong => k_is)
    (case ty_Wrong => k_is)
    (case su_Meet_Wrong => k_is)
    (case en_Meet_Wrong => decide)
    (case su_Never_Wrong => k_is)
    (case en_Never_Wrong => decide)
    (case hd_Answer => k_is)
    (case ty_Answer => k_is)
    (case su_Meet_Answer => k_is)
    (case en_Meet_Answer => decide)
    (case su_Never_Answer => k_is)
    (case en_Never_Answer => decide)
    (case a_MOST_BEADS => k_is)
    (case a_MOST_BOTTOM => k_is)
    (case a_MOST_TOP => k_is)
    (case a_MOST_WEIGHT => k_is)
