import PyProof.Rows.All
import Wide.All
import OpenK.AllK
import Wide.FinOn
import PyProof.EqAt
import PyProof.EqKinds
import PyProof.TupleCall
import KE.BitLaws
import PySem.Challenge.RW_beadway_k27_papers_by_hand
set_option Elab.async false
set_option linter.all false
set_option maxRecDepth 100000
namespace L2
open PySem PySem.Spec PyProof.Rows
abbrev Key := Sum Int Str
def keyIs : Key → Value → Bool
  | .inl k, v => Value.isInt k v
  | .inr x, v => Value.isStrOf x v
def keyH (w : World) : Key → Int
  | .inl k => hashInt k
  | .inr x => hashStr w x
theorem keyIs_shape : ∀ {k : Key} {v : Value}, keyIs k v = true → (∃ i t, k = Sum.inl i ∧ v = Value.int i t) ∨ (∃ x t, k = Sum.inr x ∧ v = Value.str x t)
  | .inl i, v, h => by
    obtain ⟨t, e⟩ := Value.isInt_shape (k := i) (v := v) h
    exact .inl ⟨i, t, rfl, e⟩
  | .inr x, v, h => by
    obtain ⟨t, e⟩ := Value.isStrOf_shape (x := x) (v := v) h
    exact .inr ⟨x, t, rfl, e⟩
theorem keyIs_int (i : Int) (t : Tok) : keyIs (.inl i) (.int i t) = true := by simp [keyIs, Value.isInt]
theorem keyIs_str (x : Str) (t : Tok) : keyIs (.inr x) (.str x t) = true := by simp [keyIs, Value.isStrOf]
theorem key_ll (a b : Int) : decide ((Sum.inl a : Key) = Sum.inl b) = (a == b) := by
  by_cases e : a = b
  · subst e; simp
  · have h : ¬ (Sum.inl a : Key) = Sum.inl b := fun q => e (Sum.inl.inj q)
    rw [decide_eq_false h]
    exact (beq_eq_false_iff_ne.mpr e).symm
theorem key_rr (a b : Str) : decide ((Sum.inr a : Key) = Sum.inr b) = decide (a = b) := by
  by_cases e : a = b
  · subst e; simp
  · have h : ¬ (Sum.inr a : Key) = Sum.inr b := fun q => e (Sum.inr.inj q)
    rw [decide_eq_false h, decide_eq_false e]
theorem key_lr (a : Int) (b : Str) : decide ((Sum.inl a : Key) = Sum.inr b) = false := decide_eq_false (fun q => nomatch q)
theorem key_rl (a : Str) (b : Int) : decide ((Sum.inr a : Key) = Sum.inl b) = false := decide_eq_false (fun q => nomatch q)
def mixKind (prog : Program) (w : World) : PySem.KeyKind prog w Key where
  is := keyIs
  hash := keyH w
  inj := fun v a b ha hb => by
    rcases keyIs_shape ha with ⟨i, t, rfl, rfl⟩ | ⟨x, t, rfl, rfl⟩
    · rcases keyIs_shape hb with ⟨j, u, rfl, e⟩ | ⟨y, u, rfl, e⟩
      · injection e with e1 _; rw [e1]
      · exact nomatch e
    · rcases keyIs_shape hb with ⟨j, u, rfl, e⟩ | ⟨y, u, rfl, e⟩
      · exact nomatch e
      · injection e with e1 _; rw [e1]
  byValue := fun k v h => by
    rcases keyIs_shape h with ⟨i, t, rfl, rfl⟩ | ⟨x, t, rfl, rfl⟩ <;> rfl
  pyHash := fun hv h => by
    rcases keyIs_shape hv with ⟨i, t, rfl, rfl⟩ | ⟨x, t, rfl, rfl⟩
    · exact wpAny_pyHash_int h
    · exact wpAny_pyHash_str h
  eqBool := fun hu hv h => by
    rcases keyIs_shape hu with ⟨i, t, rfl, rfl⟩ | ⟨x, t, rfl, rfl⟩
    · rcases keyIs_shape hv with ⟨j, u, rfl, rfl⟩ | ⟨y, u, rfl, rfl⟩
      · rw [key_ll] at h; exact wpAny_eqBool_int h
      · rw [key_lr] at h; exact SeqAt.EqAt.int_str i t y u _ _ _ _ h
    · rcases keyIs_shape hv with ⟨j, u, rfl, rfl⟩ | ⟨y, u, rfl, rfl⟩
      · rw [key_rl] at h; exact SeqAt.EqAt.str_int x t j u _ _ _ _ h
      · rw [key_rr] at h; exact wpAny_eqBool_str h
  «strs» := fun k x t v h => by
    rcases keyIs_shape h with ⟨i, u, rfl, e⟩ | ⟨y, u, rfl, e⟩
    · exact nomatch e
    · injection e with e1 _
      subst e1
      cases v <;> rfl
theorem mixKind_int (prog : Program) (w : World) (i : Int) (t : Tok) : (mixKind prog w).is (.inl i) (.int i t) = true := keyIs_int i t
theorem mixKind_str (prog : Program) (w : World) (x : Str) (t : Tok) : (mixKind prog w).is (.inr x) (.str x t) = true := keyIs_str x t
end L2
namespace L2
open PySem PySem.Spec PyProof.Rows
inductive V where
  | non | bl (b : Bool) | int (i : Int) | str (x : Str) | byt (b : Array UInt8) | flt (b : UInt64) | ref (a : Addr) | ty (n : String)
  deriving DecidableEq
def RelV : V → Value → Prop
  | .non, u => u = Value.none
  | .bl b, u => u = Value.bool b
  | .int i, u => ∃ t, u = Value.int i t
  | .str x, u => ∃ t, u = Value.str x t
  | .byt b, u => ∃ t, u = Value.bytes b t
  | .flt b, u => ∃ t, u = Value.float b t
  | .ref a, u => u = Value.ref a
  | .ty n, u => u = Value.type n
abbrev Vals : List V → List Value → Prop := Paired RelV
theorem Vals.length {xs : List V} {us : List Value} (r : Vals xs us) : xs.length = us.length := Paired.length r
theorem Vals.get : ∀ {xs : List V} {us : List Value} {i : Nat} {x : V}, Vals xs us → xs[i]? = some x → ∃ u, us[i]? = some u ∧ RelV x u
  | _, _, _, _, .nil, e => by simp at e
  | _, _, 0, _, .cons r _, e => by simp at e; subst e; exact ⟨_, rfl, r⟩
  | _, _, i + 1, x, .cons _ t, e => by
    obtain ⟨u, h1, h2⟩ := Vals.get (i := i) (x := x) t (by simpa using e)
    exact ⟨u, by simpa using h1, h2⟩
theorem Vals.set {x : V} {u : Value} (r : RelV x u) : ∀ {xs : List V} {us : List Value} (i : Nat), Vals xs us → Vals (xs.set i x) (us.set i u)
  | _, _, _, .nil => .nil
  | _, _, 0, .cons _ t => .cons r t
  | _, _, i + 1, .cons q t => .cons q (Vals.set r i t)
theorem Vals.append : ∀ {xs ys : List V} {us ws : List Value}, Vals xs us → Vals ys ws → Vals (xs ++ ys) (us ++ ws)
  | _, _, _, _, .nil, s => s
  | _, _, _, _, .cons r t, s => .cons r (Vals.append t s)
theorem Vals.take : ∀ {xs : List V} {us : List Value} (n : Nat), Vals xs us → Vals (xs.take n) (us.take n)
  | _, _, 0, _ => .nil
  | _, _, _ + 1, .nil => .nil
  | _, _, n + 1, .cons r t => .cons r (Vals.take n t)
theorem Vals.drop : ∀ {xs : List V} {us : List Value} (n : Nat), Vals xs us → Vals (xs.drop n) (us.drop n)
  | _, _, 0, r => r
  | _, _, _ + 1, .nil => .nil
  | _, _, n + 1, .cons _ t => Vals.drop n t
theorem Vals.none_of : ∀ {xs : List V} {us : List Value} {i : Nat}, Vals xs us → xs[i]? = none → us[i]? = none := fun {xs us i} r e => by
  have h1 := r.length
  have h2 : xs.length ≤ i := List.getElem?_eq_none_iff.mp e
  exact List.getElem?_eq_none_iff.mpr (by omega)
def RelO : Option V → Option Value → Prop
  | some v, some u => RelV v u
  | none, none => True
  | _, _ => False
def KV {κ : Type} : List (κ × V) → List (κ × Value) → Prop := Paired fun (p : κ × V) (q : κ × Value) => p.1 = q.1 ∧ RelV p.2 q.2
def kV : Key → V
  | .inl i => .int i
  | .inr x => .str x
inductive HO where
  | lst (xs : List V)
  | tup (xs : List V)
  | dK (kvs : List (Key × V)) | dT (kvs : List (List Key × V))
  | set (S : Int → Bool) (n : Nat)
  | ins (C dx : Addr) (fs : List (Str × V))
  | own (x : Addr)
  | xd (fs : List (Str × V))
  | met (f x : Addr)
  | rng (lo hi : Int)
  | frz (o : Obj) (u : HO)
  | tbl (ps : Array Value)
  | ext (φ : Heap → Prop)
abbrev Hp := Addr → Option HO
def upd (H : Hp) (a : Addr) (o : HO) : Hp := fun b => if b = a then some o else H b
theorem upd_same {H : Hp} {a : Addr} {o : HO} : upd H a o a = some o := by unfold upd; rw [if_pos rfl]
theorem upd_ne {H : Hp} {a b : Addr} {o : HO} (h : b ≠ a) : upd H a o b = H b := by unfold upd; rw [if_neg h]
theorem upd_upd {H : Hp} {a : Addr} {o u : HO} : upd (upd H a o) a u = upd H a u := by
  funext b; unfold upd; split <;> rfl
theorem ne_of {H : Hp} {a b : Addr} {o u : HO} (h : H a = some o) (h' : H b = some u) (d : o ≠ u) : a ≠ b := by
  intro e; subst e; rw [h] at h'; exact d (Option.some.inj h')
theorem ne_of_none {H : Hp} {a b : Addr} {o : HO} (h : H a = some o) (h' : H b = none) : a ≠ b := by
  intro e; subst e; rw [h] at h'; cases h'
section
variable (P : Program) (w : World)
def ObjOk (H : Hp) (h : Heap) (a : Addr) : HO → Prop
  | .lst xs => xs.length ≤ sizeLine ∧ ∃ (its : List Value) (n : Nat), Vals xs its ∧ h.get? a = some { cls := .type "list", data := .seq its.toArray n }
  | .tup xs => xs.length ≤ sizeLine ∧ ∃ its : List Value, Vals xs its ∧ IsTup h a its.toArray
  | .dK kvs => kvs.length ≤ sizeLine ∧ (a == sysModules) = false ∧ ∃ vs, KV kvs vs ∧ h.DictOf (mixKind P w) a vs
  | .dT kvs => kvs.length ≤ sizeLine ∧ (a == sysModules) = false ∧ ∃ xs : List (List Key × Addr × Value),
      Paired (fun (p : List Key × V) (q : List Key × Addr × Value) => p.1 = q.1 ∧ H q.2.1 = some (.tup (p.1.map kV)) ∧ RelV p.2 q.2.2) kvs xs ∧
      ∃ o es ep, h.get? a = some o ∧ o.ExactDict ∧ o.data = .dict es ep ∧ es.toList = xs.map (entryOfKey (tupleKind (mixKind P w))) ∧ (xs.map (·.1)).Nodup
  | .set S n => h.SetOf (intKind P w) a S n
  | .ins C dx fs => H dx = some (.own a) ∧ fs.length ≤ 1000 ∧ dx ≠ a ∧ h.get? a = some (PySem.W.instObj C dx) ∧
      ∃ mA, h.Ns1 dx mA ∧ (∀ f, RelO (fs.lookup f) (mA f)) ∧ PySem.Within mA (fs.map (·.1))
  | .own _ => ∃ o, h.get? a = some o
  | .xd fs => ∃ mA, h.Ns1 a mA ∧ ∀ f, RelO (fs.lookup f) (mA f)
  | .rng lo hi => ∃ t u v, h.get? a = some { cls := .type "range", data := .fields #[.int lo t, .int hi u, .int 1 v] }
  | .frz o u => h.get? a = some o ∧ ObjOk H h a u
  | .tbl ps => h.get? a = some { cls := .none, data := .fields ps }
  | .met f x => h.get? a = some (PySem.W.methodObj (.ref f) (.ref x))
  | .ext φ => φ h ∧ (∃ o, h.get? a = some o) ∧ ∀ h1 h2 : Heap, φ h1 → (∀ o, h1.get? a = some o → h2.get? a = some o) → φ h2
def HOk (H : Hp) (h : Heap) : Prop := ∀ a o, H a = some o → ObjOk P w H h a o
end
section
variable {P : Program} {w : World} {H H' : Hp} {h h' : Heap} {a : Addr} {o : HO}
theorem ObjOk.lt (x : ObjOk P w H h a o) : a < h.objs.size := by
  cases o with
  | lst xs => obtain ⟨_, _, _, _, e⟩ := x; exact Heap.lt_size e
  | tup xs => obtain ⟨_, _, _, p⟩ := x; exact p.lt
  | dK kvs => obtain ⟨_, _, _, _, o, _, _, e, _⟩ := x; exact Heap.lt_size e
  | dT kvs => obtain ⟨_, _, _, _, o, _, _, e, _⟩ := x; exact Heap.lt_size e
  | set S n => obtain ⟨o, _, _, _, e, _⟩ := x; exact Heap.lt_size e
  | ins C dx fs => obtain ⟨_, _, _, e, _⟩ := x; exact Heap.lt_size e
  | own y => obtain ⟨_, e⟩ := x; exact Heap.lt_size e
  | xd fs => obtain ⟨_, ⟨_, _, _, e, _⟩, _⟩ := x; exact Heap.lt_size e
  | rng lo hi => obtain ⟨_, _, _, e⟩ := x; exact Heap.lt_size e
  | frz ob u => obtain ⟨e, _⟩ := x; exact Heap.lt_size e
  | tbl ps => exact Heap.lt_size (show h.get? a = some _ from x)
  | met f y => exact Heap.lt_size (show h.get? a = some _ from x)
  | ext φ => obtain ⟨_, ⟨_, e⟩, _⟩ := x; exact Heap.lt_size e
theorem Paired.mapP {α β : Type} {F G : α → β → Prop} : ∀ {l₁ : List α} {l₂ : List β}, Paired F l₁ l₂ → (∀ a b, F a b → G a b) → Paired G l₁ l₂
  | _, _, .nil, _ => .nil
  | _, _, .cons r t, f => .cons (f _ _ r) (Paired.mapP t f)
theorem ObjOk.stay (x : ObjOk P w H h a o) (k : ∀ b u, (b = a ∨ H b = some (.own a)) → h.get? b = some u → h'.get? b = some u)
    (ho : ∀ b, H b = some (.own a) → H' b = some (.own a)) (ht : ∀ b xs, H b = some (.tup xs) → H' b = some (.tup xs)) : ObjOk P w H' h' a o := by
  induction o with
  | lst xs => obtain ⟨z, its, n, r, e⟩ := x; exact ⟨z, its, n, r, k _ _ (.inl rfl) e⟩
  | tup xs => obtain ⟨z, its, r, ob, e, c⟩ := x; exact ⟨z, its, r, ob, k _ _ (.inl rfl) e, c⟩
  | dK kvs => obtain ⟨z, y, vs, r, ob, es, ep, e, c⟩ := x; exact ⟨z, y, vs, r, ob, es, ep, k _ _ (.inl rfl) e, c⟩
  | dT kvs =>
    obtain ⟨z, y, xs, r, ob, es, ep, e, c⟩ := x
    exact ⟨z, y, xs, Paired.mapP r fun p q z => ⟨z.1, ht _ _ z.2.1, z.2.2⟩, ob, es, ep, k _ _ (.inl rfl) e, c⟩
  | set S n => obtain ⟨ob, es, ep, t, e, c⟩ := x; exact ⟨ob, es, ep, t, k _ _ (.inl rfl) e, c⟩
  | ins C dx fs =>
    obtain ⟨d, z, ne, e, mA, ⟨od, es, ep, e2, c⟩, r⟩ := x
    exact ⟨ho _ d, z, ne, k _ _ (.inl rfl) e, mA, ⟨od, es, ep, k _ _ (.inr d) e2, c⟩, r⟩
  | own y => obtain ⟨ob, e⟩ := x; exact ⟨ob, k _ _ (.inl rfl) e⟩
  | xd fs => obtain ⟨mA, ⟨od, es, ep, e, c⟩, r⟩ := x; exact ⟨mA, ⟨od, es, ep, k _ _ (.inl rfl) e, c⟩, r⟩
  | rng lo hi => obtain ⟨t, u, v, e⟩ := x; exact ⟨t, u, v, k _ _ (.inl rfl) e⟩
  | frz ob u ih => obtain ⟨e, q⟩ := x; exact ⟨k _ _ (.inl rfl) e, ih q⟩
  | tbl ps =>
    have e : h.get? a = some { cls := .none, data := .fields ps } := x
    show h'.get? a = some { cls := .none, data := .fields ps }
    exact k a _ (.inl rfl) e
  | met f y =>
    have e : h.get? a = some (PySem.W.methodObj (.ref f) (.ref y)) := x
    show h'.get? a = some (PySem.W.methodObj (.ref f) (.ref y))
    exact k a _ (.inl rfl) e
  | ext φ => obtain ⟨p, ⟨o, e⟩, st⟩ := x; exact ⟨st _ _ p fun o q => k _ _ (.inl rfl) q, ⟨o, k _ _ (.inl rfl) e⟩, st⟩
theorem HOk.lt (x : HOk P w H h) (e : H a = some o) : a < h.objs.size := (x a o e).lt
theorem HOk.fresh (x : HOk P w H h) (e : h.objs.size ≤ a) : H a = none := by
  cases q : H a with
  | none => rfl
  | some u => exact absurd (Nat.lt_of_lt_of_le (x.lt q) e) (Nat.lt_irrefl _)
theorem HOk.kept (x : HOk P w H h) (k : ∀ b u, h.get? b = some u → h'.get? b = some u) : HOk P w H h' := fun a o e =>
  (x a o e).stay (fun b u _ q => k b u q) (fun _ q => q) fun _ _ q => q
theorem HOk.laid (x : HOk P w H h) (k : ∀ b u, h.get? b = some u → h'.get? b = some u) (hp : h.objs.size ≤ a) (new : ObjOk P w (upd H a o) h' a o) : HOk P w (upd H a o) h' := fun b u e => by
  have hn := x.fresh hp
  by_cases hb : b = a
  · subst hb; rw [upd_same] at e; cases e; exact new
  · rw [upd_ne hb] at e
    exact (x b u e).stay (fun c v _ q => k c v q) (fun c q => by rw [upd_ne (ne_of_none q hn)]; exact q) fun c xs q => by rw [upd_ne (ne_of_none q hn)]; exact q
end
def Rd (H : Hp) (a : Addr) (u : HO) : Prop := H a = some u ∨ ∃ o, H a = some (.frz o u)
theorem Rd.of {H : Hp} {a : Addr} {u : HO} (h : H a = some u) : Rd H a u := .inl h
theorem Rd.ok {P : Program} {w : World} {H : Hp} {h : Heap} {a : Addr} {u : HO} (r : Rd H a u) (x : HOk P w H h) : ObjOk P w H h a u := by
  rcases r with r | ⟨o, r⟩
  · exact x a u r
  · obtain ⟨_, q⟩ := x a _ r
    exact q
def Mut : Option HO → Prop
  | some (.lst _) => True
  | some (.dK _) => True
  | some (.dT _) => True
  | some (.set _ _) => True
  | some (.ins _ _ _) => True
  | some (.ext _) => True
  | _ => False
section
variable {P : Program} {w : World} {H : Hp} {h h' : Heap} {x e : Addr} {o' : HO}
theorem HOk.write (ok : HOk P w H h) (mu : Mut (H x)) (he : e = x ∨ H e = some (.own x)) (k : ∀ b u, b ≠ e → h.get? b = some u → h'.get? b = some u) (heo : ∃ u, h'.get? e = some u)
    (new : ObjOk P w (upd H x o') h' x o') : HOk P w (upd H x o') h' := fun b u q => by
  have nown : ∀ c y, H c = some (.own y) → c ≠ x := fun c y r z => by subst z; rw [r] at mu; exact mu
  have ntup : ∀ c xs, H c = some (.tup xs) → c ≠ x := fun c xs r z => by subst z; rw [r] at mu; exact mu
  by_cases hb : b = x
  · subst hb; rw [upd_same] at q; cases q; exact new
  · rw [upd_ne hb] at q
    by_cases hbe : b = e
    · have q' : H b = some (.own x) := by
        rcases he with z | z
        · exact absurd (hbe.trans z) hb
        · rw [hbe]; exact z
      rw [q] at q'; cases q'
      obtain ⟨v, hv⟩ := heo
      exact ⟨v, by rw [hbe]; exact hv⟩
    · refine (ok b u q).stay (fun c v hc r => k c v ?_ r) (fun c r => by rw [upd_ne (nown c b r)]; exact r) fun c xs r => by rw [upd_ne (ntup c xs r)]; exact r
      rcases hc with rfl | hc
      · exact hbe
      · rintro rfl
        rcases he with z | z
        · exact nown c b hc z
        · rw [hc] at z; cases z; exact hb rfl
end
structure Un (fs ex : List Addr) (H H' : Hp) (h h' : Heap) : Prop where
  keep : ∀ b o, h.get? b = some o → H b = none → b ∉ fs → b ∉ ex → h'.get? b = some o
  slot : ∀ b o, h.get? b = some o → H b = none → b ∈ fs → b ∉ ex → ∃ sl, h'.get? b = some { o with slots := sl }
  free : ∀ b o, h.get? b = some o → H b = none → b ∉ ex → H' b = none
  there : ∀ b o, h.get? b = some o → b ∉ ex → ∃ o', h'.get? b = some o'
  tups : ∀ b xs, H b = some (.tup xs) → H' b = some (.tup xs)
  frzs : ∀ b o u, H b = some (.frz o u) → H' b = some (.frz o u)
  tbls : ∀ b ps, H b = some (.tbl ps) → ∃ more, H' b = some (.tbl (ps ++ more))
section
variable {fs fs' ex ex' : List Addr} {H H1 H2 : Hp} {h h1 h2 h' : Heap} {a x e : Addr} {o : HO}
theorem Un.any (u : Un fs ex H H1 h h1) {b : Addr} {ob : Obj} (q : h.get? b = some ob) (n : H b = none) (hx : b ∉ ex) : ∃ sl, h1.get? b = some { ob with slots := sl } := by
  by_cases hb : b ∈ fs
  · exact u.slot b ob q n hb hx
  · exact ⟨ob.slots, u.keep b ob q n hb hx⟩
theorem Un.trans (a : Un fs ex H H1 h h1) (b : Un fs ex H1 H2 h1 h2) : Un fs ex H H2 h h2 where
  keep := fun c ob q n hc hx => b.keep c ob (a.keep c ob q n hc hx) (a.free c ob q n hx) hc hx
  slot := fun c ob q n hc hx => by
    obtain ⟨sl, e1⟩ := a.slot c ob q n hc hx
    obtain ⟨sl', e2⟩ := b.slot c _ e1 (a.free c ob q n hx) hc hx
    exact ⟨sl', e2⟩
  free := fun c ob q n hx => by
    obtain ⟨o', e1⟩ := a.there c ob q hx
    exact b.free c o' e1 (a.free c ob q n hx) hx
  there := fun c ob q hx => by
    obtain ⟨o', e1⟩ := a.there c ob q hx
    exact b.there c o' e1 hx
  tups := fun c xs q => b.tups c xs (a.tups c xs q)
  frzs := fun c ob xs q => b.frzs c ob xs (a.frzs c ob xs q)
  tbls := fun c ps q => by
    obtain ⟨m1, e1⟩ := a.tbls c ps q
    obtain ⟨m2, e2⟩ := b.tbls c _ e1
    exact ⟨m1 ++ m2, by rw [e2, Array.append_assoc]⟩
theorem Un.kept (k : ∀ b u, h.get? b = some u → h'.get? b = some u) : Un fs ex H H h h' :=
  ⟨fun b ob q _ _ _ => k b ob q, fun b ob q _ _ _ => ⟨ob.slots, k b ob q⟩, fun _ _ _ n _ => n, fun b ob q _ => ⟨ob, k b ob q⟩, fun _ _ q => q, fun _ _ _ q => q, fun _ ps q => ⟨#[], by rw [q]; simp⟩⟩
theorem Un.refl : Un fs ex H H h h := Un.kept fun _ _ q => q
theorem Un.laid (k : ∀ b u, h.get? b = some u → h'.get? b = some u) (hp : h.objs.size ≤ a) (hn : H a = none) : Un fs ex H (upd H a o) h h' where
  keep := fun b u q _ _ _ => k b u q
  slot := fun b u q _ _ _ => ⟨u.slots, k b u q⟩
  free := fun b u q n _ => by rw [upd_ne (Nat.ne_of_lt (Nat.lt_of_lt_of_le (Heap.lt_size q) hp))]; exact n
  there := fun b u q _ => ⟨u, k b u q⟩
  tups := fun b xs q => by rw [upd_ne (ne_of_none q hn)]; exact q
  frzs := fun b u xs q => by rw [upd_ne (ne_of_none q hn)]; exact q
  tbls := fun b ps q => ⟨#[], by rw [upd_ne (ne_of_none q hn), q]; simp⟩
theorem Un.write (mu : Mut (H x)) (he : e = x ∨ H e = some (.own x)) (k : ∀ b u, b ≠ e → h.get? b = some u → h'.get? b = some u) (heo : ∃ u, h'.get? e = some u) : Un fs ex H (upd H x o) h h' := by
  have hx : ∀ b, H b = none → b ≠ x := fun b n z => by subst z; rw [n] at mu; exact mu
  have hb : ∀ b, H b = none → b ≠ e := fun b n z => by
    subst z
    rcases he with r | r
    · exact hx b n r
    · rw [n] at r; cases r
  have hm : ∀ b u, H b = some u → ¬ Mut (some u) → b ≠ x := fun b u q nm z => by subst z; rw [q] at mu; exact nm mu
  refine ⟨fun b u q n _ _ => k b u (hb b n) q, fun b u q n _ _ => ⟨u.slots, k b u (hb b n) q⟩, fun b u q n _ => by rw [upd_ne (hx b n)]; exact n, fun b u q _ => ?_,
    fun b xs q => by rw [upd_ne (hm b _ q fun z => z)]; exact q, fun b u xs q => by rw [upd_ne (hm b _ q fun z => z)]; exact q, fun b ps q => ⟨#[], by rw [upd_ne (hm b _ q fun z => z), q]; simp⟩⟩
  by_cases hbe : b = e
  · subst hbe; exact heo
  · exact ⟨u, k b u hbe q⟩
theorem Un.mono (u : Un fs ex H H1 h h1) (hs : ∀ b ∈ fs, b ∈ fs') (hx : ∀ b ∈ ex, b ∈ ex') : Un fs' ex' H H1 h h1 :=
  ⟨fun b ob q n hb he => u.keep b ob q n (fun z => hb (hs b z)) fun z => he (hx b z), fun _ _ q n _ he => u.any q n fun z => he (hx _ z), fun b ob q n he => u.free b ob q n fun z => he (hx b z), fun b ob q he => u.there b ob q fun z => he (hx b z), u.tups, u.frzs, u.tbls⟩
end
def trk (h : Heap) (H : Hp) : List Addr := (List.range h.objs.size).filter fun a => (H a).isSome
def hidT (h : Heap) (H : Hp) : Heap := PySem.W.hideAll h (trk h H)
theorem hidT_size (h : Heap) (H : Hp) : (hidT h H).objs.size = h.objs.size := PySem.W.hideAll_size _ _
theorem hidT_get {h : Heap} {H : Hp} {b : Addr} {o : Obj} (e : h.get? b = some o) (n : H b = none) : (hidT h H).get? b = some o :=
  PySem.W.hideAll_get _ e fun hm => by
    have q : (H b).isSome = true := (List.mem_filter.mp hm).2
    rw [n] at q; simp at q
theorem of_hidT {h : Heap} {H : Hp} {b : Addr} {o : Obj} (e : (hidT h H).get? b = some o) : h.get? b = some o ∧ H b = none := by
  have e' : h.get? b = some o := PySem.W.of_hideAll (trk h H) e
  refine ⟨e', ?_⟩
  cases q : H b with
  | none => rfl
  | some x =>
    have hm : b ∈ trk h H := List.mem_filter.mpr ⟨List.mem_range.mpr (Heap.lt_size e'), by simp [q]⟩
    have z : (hidT h H).get? b = none := PySem.W.hideAll_none (trk h H) hm
    rw [z] at e; cases e
def allNews (g h : Heap) (L : Addr) : List (Addr × Obj) := (List.range h.objs.size).filterMap fun a => if a = L ∨ (g.get? a).isSome = true then none else (h.get? a).map fun o => (a, o)
def rest (g h : Heap) (L d : Addr) : List (Addr × Obj) := (allNews g h L).filter fun p => decide (p.1 ≠ d)
end L2
namespace L2
open PySem PySem.Spec PyProof.Rows
structure Mod (K : PySem.W.Frag) (mg : Str → Option Value) (base : Heap) : Prop where
  kin : K.In base
  glob : base.Ns mainGlobals mg
  blt : ∃ mb, base.Ns builtinsNs mb ∧ ∀ x : Str, x ≠ "__name__" → mb x = bootBuiltins x
  nolimit : base.NoLimit
structure Cx where
  prog : Program
  w : World
  K : PySem.W.Frag
  mg : Str → Option Value
  base : Heap
  A : Around
  N : List Str
  s_0 : Shared
  H_0 : Hp
  env : Env
  outer : List Env
  stack : List Env
  ex : List Addr
  fn : Str → Bool
  calm : Bool
  pn : List (Addr × Obj)
  xe : Value → Shared → Prop
def frs (l : List Env) : List Addr := l.filterMap (·.frame)
abbrev Cx.fs (X : Cx) : List Addr := frs X.outer
def Vis (sc : Scope) (x : Str) : Prop := sc.names.lookup x = some .local ∨ sc.names.lookup x = some .cell ∨ sc.names.lookup x = some .free
def Loc (sc : Scope) (x : Str) : Prop := sc.names.lookup x = some .local ∨ sc.names.lookup x = some .cell
def Look (env : Env) (h : Heap) (m : Str → Option Value) (x : Str) (u : Value) : Prop :=
  (env.kindOf x = some .local ∧ m x = some u) ∨ ((env.kindOf x = some .cell ∨ env.kindOf x = some .free) ∧ ∃ c, env.cells.lookup x = some c ∧ h.IsCell c (some u))
structure Cx.Ok (X : Cx) : Prop where
  mod : Mod X.K X.mg X.base
  kind : X.env.scope.kind = .function
  glob : X.env.globals = mainGlobals
  blt : X.env.builtins = builtinsNs
  above : X.s_0.heap.objs.size ≤ X.env.locals
  inj : ∀ x y c, X.env.cells.lookup x = some c → X.env.cells.lookup y = some c → x = y
  has : ∀ x, (X.env.kindOf x = some .cell ∨ X.env.kindOf x = some .free) → ∃ c, X.env.cells.lookup x = some c
  cab : ∀ x c, X.fn x = true → X.env.cells.lookup x = some c → X.s_0.heap.objs.size ≤ c
  hd : X.calm = true → X.A.handled = none
  frames : X.A.frames = some X.stack
  stk : X.stack = X.outer ∨ (X.stack = X.env :: X.outer ∧ X.env.frame = some X.env.locals)
  exf : ∀ b ∈ X.ex, b ≠ X.env.locals ∧ ∀ x c, X.env.cells.lookup x = some c → c ≠ b
  bs : ∀ b o, X.base.get? b = some o → X.s_0.heap.get? b = some o ∧ X.H_0 b = none
  bsz : X.base.objs.size ≤ X.s_0.heap.objs.size
  noex : ∀ b o, X.base.get? b = some o → b ∉ X.ex
  exfs : ∀ b ∈ X.ex, b ∉ X.fs
  funs : X.s_0.heap.FunFrames X.base X.outer
  frf : ∀ b ∈ X.fs, X.H_0 b = none
structure Inv (X : Cx) (pins : List (Addr × Obj)) (σ : List (Option V)) (H : Hp) (s : Shared) : Prop where
  ok : X.Ok
  os : s.os = X.s_0.os
  bare : AllBare s.gens
  base : Un X.fs X.ex X.H_0 H X.s_0.heap s.heap
  loc : ∃ m, s.heap.Ns X.env.locals m ∧ ∀ (i : Nat) (x : Str) (v : V), X.N[i]? = some x → σ[i]? = some (some v) → Vis X.env.scope x → ∃ u, RelV v u ∧ Look X.env s.heap m x u
  cell : ∀ x c, X.env.cells.lookup x = some c → ∃ v, s.heap.IsCell c v
  free : H X.env.locals = none
  freeC : ∀ x c, X.env.cells.lookup x = some c → H c = none
  pin : ∀ p ∈ X.pn ++ pins, s.heap.get? p.1 = some p.2 ∧ H p.1 = none ∧ p.1 ≠ X.env.locals ∧ p.1 ∉ X.fs ∧ ∀ v, p.2.data ≠ .cell v
  hok : HOk X.prog X.w H s.heap
  len : σ.length = X.N.length
section
variable {X : Cx} {pins : List (Addr × Obj)} {σ : List (Option V)} {H H' : Hp} {s : Shared} {h' : Heap}
theorem Cx.Ok.nofr (ok : X.Ok) {b : Addr} {o : Obj} (e : X.base.get? b = some o) : b ∉ X.fs := fun hb => by
  have := (ok.funs.mem hb).1
  rw [e] at this; cases this
theorem Inv.bs (I : Inv X pins σ H s) : ∀ b o, X.base.get? b = some o → s.heap.get? b = some o ∧ H b = none := fun b o e =>
  ⟨I.base.keep b o (I.ok.bs b o e).1 (I.ok.bs b o e).2 (I.ok.nofr e) (I.ok.noex b o e), I.base.free b o (I.ok.bs b o e).1 (I.ok.bs b o e).2 (I.ok.noex b o e)⟩
theorem Inv.bk (I : Inv X pins σ H s) : ∀ b o, X.base.get? b = some o → s.heap.get? b = some o := fun b o e => (I.bs b o e).1
theorem Inv.mod (I : Inv X pins σ H s) : Mod X.K X.mg X.base := I.ok.mod
theorem Inv.kIn (I : Inv X pins σ H s) : X.K.In s.heap := I.ok.mod.kin.keeps I.bk
theorem Inv.nolimit (I : Inv X pins σ H s) : s.heap.NoLimit := I.ok.mod.nolimit.keeps I.bk
theorem Inv.fr (I : Inv X pins σ H s) : ∃ m, Fr X.base X.env.locals s.heap m :=
  let ⟨m, hn, _⟩ := I.loc
  ⟨m, hn, I.bk, Nat.le_trans I.ok.bsz I.ok.above⟩
theorem Inv.lt (I : Inv X pins σ H s) : X.env.locals < s.heap.objs.size := let ⟨_, hn, _⟩ := I.loc; hn.lt
theorem Inv.sz (I : Inv X pins σ H s) : X.s_0.heap.objs.size ≤ s.heap.objs.size := Nat.le_trans I.ok.above (Nat.le_of_lt I.lt)
theorem Inv.nofs (I : Inv X pins σ H s) {a : Addr} (h : s.heap.objs.size ≤ a) : a ∉ X.fs := fun hb => by
  obtain ⟨_, o, ho, _⟩ := I.ok.funs.mem hb
  exact absurd (Nat.lt_of_lt_of_le (Heap.lt_size ho) (Nat.le_trans I.sz h)) (Nat.lt_irrefl _)
theorem Inv.cne (I : Inv X pins σ H s) : ∀ x c, X.env.cells.lookup x = some c → c ≠ X.env.locals := fun x c e z => by
  obtain ⟨v, o, ho, hd⟩ := I.cell x c e
  obtain ⟨m, ⟨o', es, ep, ho', hd', _⟩, _⟩ := I.loc
  rw [z, ho'] at ho; cases ho; rw [hd'] at hd; cases hd
theorem Inv.funs (I : Inv X pins σ H s) : s.heap.FunFrames X.base X.outer := by
  have all : ∀ (l : List Env), (∀ b ∈ frs l, b ∈ X.fs) → X.s_0.heap.FunFrames X.base l → s.heap.FunFrames X.base l := by
    intro l
    induction l with
    | nil => intro _ _; trivial
    | cons env r ih =>
      intro hs hl
      obtain ⟨hk, ⟨L, o, hf, hn, ho, hd⟩, hr⟩ := hl
      have hL : L ∈ X.fs := hs L (by unfold frs; rw [List.filterMap_cons, hf]; exact List.mem_cons_self)
      obtain ⟨sl, e⟩ := I.base.slot L o ho (I.ok.frf L hL) hL fun z => I.ok.exfs L z hL
      exact ⟨hk, ⟨L, _, hf, hn, e, hd⟩, ih (fun b hb => hs b (by unfold frs; rw [List.filterMap_cons, hf]; exact List.mem_cons_of_mem _ hb)) hr⟩
  exact all X.outer (fun _ hb => hb) I.ok.funs
theorem Inv.stack (I : Inv X pins σ H s) : s.heap.FunFrames X.base X.stack := by
  rcases I.ok.stk with e | ⟨e, hf⟩
  · rw [e]; exact I.funs
  · rw [e]
    obtain ⟨m, hn, _⟩ := I.loc
    refine .cons (by rw [I.ok.kind]; decide) hf hn ?_ I.funs
    exact Heap.get?_none_of_le (Nat.le_trans I.ok.bsz I.ok.above)
theorem Inv.stkSub (I : Inv X pins σ H s) : ∀ b ∈ frs X.stack, b ∈ X.env.locals :: X.fs := fun b hb => by
  rcases I.ok.stk with e | ⟨e, hf⟩
  · rw [e] at hb; exact List.mem_cons_of_mem _ hb
  · rw [e] at hb
    unfold frs at hb
    rw [List.filterMap_cons, hf] at hb
    exact hb
theorem Inv.stkFree (I : Inv X pins σ H s) : ∀ b ∈ frs X.stack, H b = none := fun b hb => by
  rcases List.mem_cons.mp (I.stkSub b hb) with e | hb
  · rw [e]; exact I.free
  · obtain ⟨_, o, ho, _⟩ := I.ok.funs.mem hb
    exact I.base.free b o ho (I.ok.frf b hb) fun z => I.ok.exfs b z hb
theorem Inv.step {g' : Array GenState} {t' : Nat} {d' : Drawn} {ch : List Addr} (I : Inv X pins σ H s)
    (hch : ∀ b ∈ ch, (b ∈ X.ex ∨ X.s_0.heap.objs.size ≤ b) ∧ b ≠ X.env.locals ∧ (∀ x c, X.env.cells.lookup x = some c → c ≠ b) ∧ ∀ p ∈ X.pn ++ pins, p.1 ≠ b)
    (keep : ∀ b o, b ≠ X.env.locals → b ∉ X.fs → b ∉ ch → s.heap.get? b = some o → H b = none → h'.get? b = some o)
    (slot : ∀ b o, b ≠ X.env.locals → b ∈ X.fs → b ∉ ch → s.heap.get? b = some o → H b = none → ∃ sl, h'.get? b = some { o with slots := sl }) (free : ∀ b o, b ∉ ch → s.heap.get? b = some o → H b = none → H' b = none)
    (there : ∀ b o, b ∉ ch → s.heap.get? b = some o → ∃ o', h'.get? b = some o')
    (tups : ∀ b xs, H b = some (.tup xs) → H' b = some (.tup xs)) (frzs : ∀ b o u, H b = some (.frz o u) → H' b = some (.frz o u)) (tbls : ∀ b ps, H b = some (.tbl ps) → ∃ more, H' b = some (.tbl (ps ++ more)))
    (ns : ∀ m, s.heap.Ns X.env.locals m → h'.Ns X.env.locals m) (hok : HOk X.prog X.w H' h') (hg : AllBare g') :
    Inv X pins σ H' { s with heap := h', gens := g', drawn := d', toks := t' } := by
  have neL : ∀ b o, X.s_0.heap.get? b = some o → b ≠ X.env.locals := fun b o e => Nat.ne_of_lt (Nat.lt_of_lt_of_le (Heap.lt_size e) I.ok.above)
  have neC : ∀ b o, X.s_0.heap.get? b = some o → b ∉ X.ex → b ∉ ch := fun b o e hx hb => by
    rcases (hch b hb).1 with z | z
    · exact hx z
    · exact absurd (Nat.lt_of_lt_of_le (Heap.lt_size e) z) (Nat.lt_irrefl _)
  have cellK : ∀ x c, X.env.cells.lookup x = some c → ∀ v, s.heap.IsCell c v → h'.IsCell c v := fun x c e v ⟨o, ho, hd⟩ => by
    have nch : c ∉ ch := fun z => (hch c z).2.2.1 x c e rfl
    by_cases hc : c ∈ X.fs
    · obtain ⟨sl, q⟩ := slot c o (I.cne x c e) hc nch ho (I.freeC x c e)
      exact ⟨_, q, hd⟩
    · exact ⟨o, keep c o (I.cne x c e) hc nch ho (I.freeC x c e), hd⟩
  refine ⟨I.ok, I.os, hg, ⟨fun b o e n hb hx => ?_, fun b o e n hb hx => ?_, fun b o e n hx => ?_, fun b o e hx => ?_, fun b xs e => tups b xs (I.base.tups b xs e), fun b o xs e => frzs b o xs (I.base.frzs b o xs e), fun b ps e => ?_⟩, ?_, fun x c e => ?_, ?_, fun x c e => ?_, fun p hp => ?_, hok, I.len⟩
  · exact keep b o (neL b o e) hb (neC b o e hx) (I.base.keep b o e n hb hx) (I.base.free b o e n hx)
  · obtain ⟨sl, e1⟩ := I.base.slot b o e n hb hx
    obtain ⟨sl', e2⟩ := slot b _ (neL b o e) hb (neC b o e hx) e1 (I.base.free b o e n hx)
    exact ⟨sl', e2⟩
  · obtain ⟨o', e1⟩ := I.base.there b o e hx
    exact free b o' (neC b o e hx) e1 (I.base.free b o e n hx)
  · obtain ⟨o', e1⟩ := I.base.there b o e hx
    exact there b o' (neC b o e hx) e1
  · obtain ⟨m1, e1⟩ := I.base.tbls b ps e
    obtain ⟨m2, e2⟩ := tbls b _ e1
    exact ⟨m1 ++ m2, by rw [e2, Array.append_assoc]⟩
  · obtain ⟨m, hn, hl⟩ := I.loc
    refine ⟨m, ns m hn, fun i x v e1 e2 e3 => ?_⟩
    obtain ⟨u, r, l⟩ := hl i x v e1 e2 e3
    refine ⟨u, r, ?_⟩
    rcases l with l | ⟨k, c, e, z⟩
    · exact .inl l
    · exact .inr ⟨k, c, e, cellK x c e _ z⟩
  · obtain ⟨v, z⟩ := I.cell x c e
    exact ⟨v, cellK x c e v z⟩
  · obtain ⟨m, ⟨o, _, _, ho, _⟩, _⟩ := I.loc
    exact free _ o (fun z => (hch _ z).2.1 rfl) ho I.free
  · obtain ⟨v, o, ho, hd⟩ := I.cell x c e
    exact free c o (fun z => (hch c z).2.2.1 x c e rfl) ho (I.freeC x c e)
  · obtain ⟨e, n, ne, nf, d⟩ := I.pin p hp
    have nch : p.1 ∉ ch := fun z => (hch p.1 z).2.2.2 p hp rfl
    exact ⟨keep p.1 p.2 ne nf nch e n, free p.1 p.2 nch e n, ne, nf, d⟩
theorem Inv.un {t' : Nat} (I : Inv X pins σ H s) (u : Un X.fs [] H H' s.heap h') (hok : HOk X.prog X.w H' h') : Inv X pins σ H' { s with heap := h', toks := t' } := by
  obtain ⟨m, ⟨o, es, ep, ho, r⟩, _⟩ := id I.loc
  obtain ⟨sl, hL⟩ := u.any ho I.free (by simp)
  exact I.step (g' := s.gens) (d' := s.drawn) (ch := []) (fun _ z => nomatch z) (fun b o _ hb _ e n => u.keep b o e n hb (by simp)) (fun b o _ hb _ e n => u.slot b o e n hb (by simp)) (fun b o _ e n => u.free b o e n (by simp)) (fun b o _ e => u.there b o e (by simp)) u.tups u.frzs u.tbls (fun m' hm => by
    obtain ⟨o', es', ep', ho', r'⟩ := hm
    rw [ho] at ho'; cases ho'
    exact ⟨_, es', ep', hL, r'⟩) hok I.bare
theorem Inv.call {g' : Array GenState} {t' : Nat} {d' : Drawn} {ch : List Addr} (I : Inv X pins σ H s) (u : Un (frs X.stack) ch H H' s.heap h') (hok : HOk X.prog X.w H' h') (hg : AllBare g')
    (hch : ∀ b ∈ ch, (b ∈ X.ex ∨ X.s_0.heap.objs.size ≤ b) ∧ b ≠ X.env.locals ∧ (∀ x c, X.env.cells.lookup x = some c → c ≠ b) ∧ ∀ p ∈ X.pn ++ pins, p.1 ≠ b) :
    Inv X pins σ H' { s with heap := h', gens := g', drawn := d', toks := t' } := by
  obtain ⟨m, ⟨o, es, ep, ho, r⟩, _⟩ := id I.loc
  obtain ⟨sl, hL⟩ := u.any ho I.free fun z => (hch _ z).2.1 rfl
  exact I.step (ch := ch) hch (fun b o hL hb hc e n => u.keep b o e n (fun z => (List.mem_cons.mp (I.stkSub b z)).elim hL hb) hc) (fun b o _ _ hc e n => u.any e n hc) (fun b o hc e n => u.free b o e n hc) (fun b o hc e => u.there b o e hc) u.tups u.frzs u.tbls (fun m' hm => by
    obtain ⟨o', es', ep', ho', r'⟩ := hm
    rw [ho] at ho'; cases ho'
    exact ⟨_, es', ep', hL, r'⟩) hok hg
theorem Inv.turned {t' : Nat} {it : Addr} (I : Inv X pins σ H s) (k : ∀ b o, b ≠ it → s.heap.get? b = some o → h'.get? b = some o) (hn : H it = none) (hL : it ≠ X.env.locals)
    (h1 : it ∈ X.ex ∨ X.s_0.heap.objs.size ≤ it) (h2 : ∀ x c, X.env.cells.lookup x = some c → c ≠ it) (h3 : ∀ p ∈ X.pn ++ pins, p.1 ≠ it) : Inv X pins σ H { s with heap := h', toks := t' } := by
  have nit : ∀ b u, H b = some u → b ≠ it := fun b u e z => by rw [z, hn] at e; cases e
  refine I.step (g' := s.gens) (d' := s.drawn) (ch := [it]) (fun b hb => ?_) (fun b o _ _ hc e _ => k b o (fun z => hc (by simp [z])) e) (fun b o _ _ hc e _ => ⟨o.slots, k b o (fun z => hc (by simp [z])) e⟩) (fun _ _ _ _ n => n)
    (fun b o hc e => ⟨o, k b o (fun z => hc (by simp [z])) e⟩) (fun _ _ e => e) (fun _ _ _ e => e) (fun b ps e => ⟨#[], by rw [e]; simp⟩) (fun m hm => ?_) (fun b u e => ?_) I.bare
  · have e : b = it := by simpa using hb
    subst e
    exact ⟨h1, hL, h2, h3⟩
  · obtain ⟨o, es, ep, ho, r⟩ := hm
    exact ⟨o, es, ep, k _ o (Ne.symm hL) ho, r⟩
  · refine (I.hok b u e).stay (fun c v hc q => k c v ?_ q) (fun _ q => q) fun _ _ q => q
    rcases hc with z | z
    · rw [z]; exact nit b u e
    · exact nit c _ z
theorem Inv.tok (I : Inv X pins σ H s) (t : Nat) : Inv X pins σ H { s with toks := t } := I.un (h' := s.heap) (t' := t) Un.refl I.hok
theorem Inv.kept {t' : Nat} (I : Inv X pins σ H s) (k : ∀ b u, s.heap.get? b = some u → h'.get? b = some u) : Inv X pins σ H { s with heap := h', toks := t' } := I.un (Un.kept k) (I.hok.kept k)
theorem Inv.laid {a : Addr} {o : HO} {t' : Nat} (I : Inv X pins σ H s) (k : ∀ b u, s.heap.get? b = some u → h'.get? b = some u) (hp : s.heap.objs.size ≤ a) (new : ObjOk X.prog X.w (upd H a o) h' a o) :
    Inv X pins σ (upd H a o) { s with heap := h', toks := t' } := I.un (Un.laid k hp (I.hok.fresh hp)) (I.hok.laid k hp new)
theorem Inv.write {x e : Addr} {o : HO} {t' : Nat} (I : Inv X pins σ H s) (mu : Mut (H x)) (he : e = x ∨ H e = some (.own x)) (k : ∀ b u, b ≠ e → s.heap.get? b = some u → h'.get? b = some u) (heo : ∃ u, h'.get? e = some u)
    (new : ObjOk X.prog X.w (upd H x o) h' x o) : Inv X pins σ (upd H x o) { s with heap := h', toks := t' } := I.un (Un.write mu he k heo) (I.hok.write mu he k heo new)
theorem Inv.weak {σ' : List (Option V)} (I : Inv X pins σ H s) (hl : σ'.length = σ.length) (w : ∀ (i : Nat) v, σ'[i]? = some (some v) → σ[i]? = some (some v)) : Inv X pins σ' H s :=
  ⟨I.ok, I.os, I.bare, I.base, let ⟨m, hn, hl'⟩ := I.loc; ⟨m, hn, fun i x v e1 e2 e3 => hl' i x v e1 (w i v e2) e3⟩, I.cell, I.free, I.freeC, I.pin, I.hok, hl.trans I.len⟩
theorem Inv.pins_of {pins' : List (Addr × Obj)} (I : Inv X pins σ H s) (h : ∀ p ∈ pins', s.heap.get? p.1 = some p.2 ∧ H p.1 = none ∧ p.1 ≠ X.env.locals ∧ p.1 ∉ X.fs ∧ ∀ v, p.2.data ≠ .cell v) : Inv X pins' σ H s :=
  ⟨I.ok, I.os, I.bare, I.base, I.loc, I.cell, I.free, I.freeC, fun p hp => (List.mem_append.mp hp).elim (fun z => I.pin p (List.mem_append_left _ z)) (h p), I.hok, I.len⟩
theorem nodup_ix {N : List Str} (hN : N.Nodup) {i j : Nat} {x : Str} (a : N[i]? = some x) (b : N[j]? = some x) : i = j := by
  obtain ⟨h1, e1⟩ := List.getElem?_eq_some_iff.mp a
  obtain ⟨h2, e2⟩ := List.getElem?_eq_some_iff.mp b
  exact (List.getElem_inj hN).mp (e1.trans e2.symm)
theorem store_ok2 {M : Model} {A : Around} {E : Value → Shared → Prop} {i : Nat} {x : Str} {v : V} {u : Value} {Q : Unit → Shared → Prop} (I : Inv X pins σ H s) (hN : X.N.Nodup) (hi : X.N[i]? = some x) (hx : Loc X.env.scope x) (r : RelV v u)
    (h : ∀ s', Inv X pins (σ.set i (some v)) H s' → (∃ a, Heap.SameBut a s.heap s'.heap ∧ (a = X.env.locals ∨ X.env.cells.lookup x = some a)) → Q () s') (hf : X.fn x = true ∨ X.env.scope.names.lookup x = some .local := by first | exact .inl rfl | exact .inr rfl | assumption) : wpAny M A (storeName X.env x u) Q E s := by
  obtain ⟨m, hn, hl⟩ := id I.loc
  have hcls : (X.env.scope.kind == .class || (X.env.scope.kind == .module && X.env.locals != X.env.globals)) = false := by rw [I.ok.kind]; rfl
  have hiσ : i < σ.length := by rw [I.len]; exact (List.getElem?_eq_some_iff.mp hi).1
  have cne := I.cne
  have tracked : ∀ {a : Addr} {h' : Heap}, (∃ o, s.heap.get? a = some o ∧ H a = none) → Heap.SameBut a s.heap h' → HOk X.prog X.w H h' := fun {a h'} ha hs b ob e => by
    obtain ⟨_, _, hfree⟩ := ha
    refine (I.hok b ob e).stay (fun c w' hc q => (hs.2 c ?_).trans q) (fun _ q => q) fun _ _ q => q
    rintro rfl
    rcases hc with rfl | hc
    · rw [hfree] at e; cases e
    · rw [hfree] at hc; cases hc
  rcases hx with hk | hk
  · refine wpAny_storeName_local hk hn (fun h' hn' hs => ?_) hcls
    obtain ⟨oL, _, _, hoL, _⟩ := id hn
    refine h _ ⟨I.ok, I.os, I.bare, ⟨fun b o e n hb hx => ?_, fun b o e n hb hx => ?_, I.base.free, fun b o e hx => ?_, I.base.tups, I.base.frzs, I.base.tbls⟩, ⟨_, hn', fun j y v' e1 e2 e3 => ?_⟩, fun y c e => ?_, I.free, I.freeC, fun p hp => ?_, tracked ⟨oL, hoL, I.free⟩ hs, by simpa using I.len⟩ ⟨_, hs, .inl rfl⟩
    · exact (hs.2 b (Nat.ne_of_lt (Nat.lt_of_lt_of_le (Heap.lt_size e) I.ok.above))).trans (I.base.keep b o e n hb hx)
    · obtain ⟨sl, e1⟩ := I.base.slot b o e n hb hx
      exact ⟨sl, (hs.2 b (Nat.ne_of_lt (Nat.lt_of_lt_of_le (Heap.lt_size e) I.ok.above))).trans e1⟩
    · obtain ⟨o', e1⟩ := I.base.there b o e hx
      exact ⟨o', (hs.2 b (Nat.ne_of_lt (Nat.lt_of_lt_of_le (Heap.lt_size e) I.ok.above))).trans e1⟩
    · by_cases hj : j = i
      · subst hj
        rw [hi] at e1; cases e1
        rw [List.getElem?_set_self hiσ] at e2
        cases e2
        exact ⟨u, r, .inl ⟨hk, by simp⟩⟩
      · rw [List.getElem?_set_ne (Ne.symm hj)] at e2
        obtain ⟨u', r', q⟩ := hl j y v' e1 e2 e3
        refine ⟨u', r', ?_⟩
        rcases q with ⟨k, e⟩ | ⟨k, c, e, z⟩
        · refine .inl ⟨k, ?_⟩
          have : y ≠ x := fun e => hj (nodup_ix hN e1 (e ▸ hi))
          simp [this, e]
        · exact .inr ⟨k, c, e, z.sameBut hs (cne y c e)⟩
    · obtain ⟨w', z⟩ := I.cell y c e
      exact ⟨w', z.sameBut hs (cne y c e)⟩
    · obtain ⟨e, n, ne, nf, d⟩ := I.pin p hp
      exact ⟨(hs.2 p.1 ne).trans e, n, ne, nf, d⟩
  · have hfn : X.fn x = true := by
      rcases hf with z | z
      · exact z
      · rw [z] at hk; cases hk
    obtain ⟨c, hc⟩ := I.ok.has x (.inl hk)
    obtain ⟨w', z⟩ := I.cell x c hc
    refine wpAny_storeName_cell I.ok.kind hk hc z (fun h' hc' hs => ?_)
    obtain ⟨oc, hoc, hocd⟩ := id z
    refine h { s with heap := h' } ⟨I.ok, I.os, I.bare, ⟨fun b o e n hb hx => ?_, fun b o e n hb hx => ?_, I.base.free, fun b o e hx => ?_, I.base.tups, I.base.frzs, I.base.tbls⟩, ⟨m, hn.sameBut hs (Ne.symm (cne x c hc)), fun j y v' e1 e2 e3 => ?_⟩, fun y c' e => ?_, I.free, I.freeC, fun p hp => ?_, tracked ⟨oc, hoc, I.freeC x c hc⟩ hs, by simpa using I.len⟩ ⟨c, hs, .inr hc⟩
    · exact (hs.2 b (Nat.ne_of_lt (Nat.lt_of_lt_of_le (Heap.lt_size e) (I.ok.cab x c hfn hc)))).trans (I.base.keep b o e n hb hx)
    · obtain ⟨sl, e1⟩ := I.base.slot b o e n hb hx
      exact ⟨sl, (hs.2 b (Nat.ne_of_lt (Nat.lt_of_lt_of_le (Heap.lt_size e) (I.ok.cab x c hfn hc)))).trans e1⟩
    · obtain ⟨o', e1⟩ := I.base.there b o e hx
      exact ⟨o', (hs.2 b (Nat.ne_of_lt (Nat.lt_of_lt_of_le (Heap.lt_size e) (I.ok.cab x c hfn hc)))).trans e1⟩
    · by_cases hj : j = i
      · subst hj
        rw [hi] at e1; cases e1
        rw [List.getElem?_set_self hiσ] at e2
        cases e2
        exact ⟨u, r, .inr ⟨.inl hk, c, hc, hc'⟩⟩
      · rw [List.getElem?_set_ne (Ne.symm hj)] at e2
        obtain ⟨u', r', q⟩ := hl j y v' e1 e2 e3
        refine ⟨u', r', ?_⟩
        rcases q with q | ⟨k, c', e, z'⟩
        · exact .inl q
        · refine .inr ⟨k, c', e, z'.sameBut hs ?_⟩
          rintro rfl
          exact hj (nodup_ix hN e1 (I.ok.inj _ _ _ e hc ▸ hi))
    · by_cases hcc : c' = c
      · subst hcc; exact ⟨_, hc'⟩
      · obtain ⟨w2, z2⟩ := I.cell y c' e
        exact ⟨w2, z2.sameBut hs hcc⟩
    · obtain ⟨e, n, ne, nf, d⟩ := I.pin p hp
      refine ⟨(hs.2 p.1 ?_).trans e, n, ne, nf, d⟩
      intro q
      rw [q, hoc] at e
      have q' : oc = p.2 := Option.some.inj e
      exact d w' (by rw [← q']; exact hocd)
theorem store_ok {M : Model} {A : Around} {E : Value → Shared → Prop} {i : Nat} {x : Str} {v : V} {u : Value} {Q : Unit → Shared → Prop} (I : Inv X pins σ H s) (hN : X.N.Nodup) (hi : X.N[i]? = some x) (hx : Loc X.env.scope x) (r : RelV v u)
    (h : ∀ s', Inv X pins (σ.set i (some v)) H s' → Q () s') (hf : X.fn x = true ∨ X.env.scope.names.lookup x = some .local := by first | exact .inl rfl | exact .inr rfl | assumption) : wpAny M A (storeName X.env x u) Q E s :=
  store_ok2 I hN hi hx r (fun s' I' _ => h s' I') hf
theorem Inv.call' {s' : Shared} {ch : List Addr} (I : Inv X pins σ H s) (ho : s'.os = s.os) (u : Un (frs X.stack) ch H H' s.heap s'.heap) (hok : HOk X.prog X.w H' s'.heap) (hg : AllBare s'.gens)
    (hch : ∀ b ∈ ch, (b ∈ X.ex ∨ X.s_0.heap.objs.size ≤ b) ∧ b ≠ X.env.locals ∧ (∀ x c, X.env.cells.lookup x = some c → c ≠ b) ∧ ∀ p ∈ X.pn ++ pins, p.1 ≠ b) : Inv X pins σ H' s' := by
  obtain ⟨h', g', d', t', o'⟩ := s'
  have e : o' = s.os := ho
  subst e
  exact I.call (g' := g') (t' := t') (d' := d') u hok hg hch
end
abbrev XK := Value → Option Addr → Hp → Prop
abbrev St := List (Option V)
abbrev VK := V → Hp → Prop
abbrev TE := St → Hp → VK → Prop
abbrev TT := St → Hp → (Bool → Hp → Prop) → Prop
abbrev TA := St → Hp → (List V → Hp → Prop) → Prop
structure Ends where
  nx : St → Hp → Prop
  rt : VK
  bk : St → Hp → Prop := fun _ _ => False
  ct : St → Hp → Prop := fun _ _ => False
abbrev TS := Ends → St → Hp → Prop
def EP (X : Cx) (pins : List (Addr × Obj)) (σ : St) (Q : VK) (u : Value) (s' : Shared) : Prop := ∃ v H', Inv X pins σ H' s' ∧ RelV v u ∧ Q v H'
def TP (X : Cx) (pins : List (Addr × Obj)) (σ : St) (Q : Bool → Hp → Prop) (b : Bool) (s' : Shared) : Prop := ∃ H', Inv X pins σ H' s' ∧ Q b H'
def AP (X : Cx) (pins : List (Addr × Obj)) (σ : St) (Q : List V → Hp → Prop) (us : List Value) (s' : Shared) : Prop := ∃ vs H', Inv X pins σ H' s' ∧ Vals vs us ∧ Q vs H'
def SP (X : Cx) (pins : List (Addr × Obj)) (D : Ends) (f : Flow) (s' : Shared) : Prop :=
  match f with
  | .next => ∃ σ' H', Inv X pins σ' H' s' ∧ D.nx σ' H'
  | .brk => ∃ σ' H', Inv X pins σ' H' s' ∧ D.bk σ' H'
  | .cont => ∃ σ' H', Inv X pins σ' H' s' ∧ D.ct σ' H'
  | .ret u => ∃ v σ' H', Inv X pins σ' H' s' ∧ RelV v u ∧ D.rt v H'
def PE (X : Cx) (e : Expr) (t : TE) : Prop :=
  ∀ (pins : List (Addr × Obj)) (s : Shared) (σ : St) (H : Hp) (Q : VK), Inv X pins σ H s → t σ H Q → wpAny (model X.prog X.w) X.A (eval e X.env) (EP X pins σ Q) X.xe s
def PT (X : Cx) (e : Expr) (t : TT) : Prop :=
  ∀ (pins : List (Addr × Obj)) (s : Shared) (σ : St) (H : Hp) (Q : Bool → Hp → Prop), Inv X pins σ H s → t σ H Q → wpAny (model X.prog X.w) X.A (isTrue e X.env (eval e X.env)) (TP X pins σ Q) X.xe s
def PW (X : Cx) (e : Expr) (t : TT) : Prop :=
  ∀ (whole : Sem Value) (pins : List (Addr × Obj)) (s : Shared) (σ : St) (H : Hp) (Q : Bool → Hp → Prop), Inv X pins σ H s → t σ H Q → wpAny (model X.prog X.w) X.A (isTrue e X.env whole) (TP X pins σ Q) X.xe s
theorem PW.pt {X : Cx} {e : Expr} {t : TT} (h : PW X e t) : PT X e t := h _
def PA (X : Cx) (es : List Expr) (t : TA) : Prop :=
  ∀ (pos : Pos) (pins : List (Addr × Obj)) (s : Shared) (σ : St) (H : Hp) (Q : List V → Hp → Prop), Inv X pins σ H s → t σ H Q → wpAny (model X.prog X.w) X.A (spliced (backTo pos (starEach es X.env))) (AP X pins σ Q) X.xe s
def PS (X : Cx) (st : Stmt) (t : TS) : Prop :=
  ∀ (pins : List (Addr × Obj)) (s : Shared) (σ : St) (H : Hp) (D : Ends), Inv X pins σ H s → t D σ H → wpAny (model X.prog X.w) X.A (exec st X.env) (SP X pins D) X.xe s
def PSs (X : Cx) (st : List Stmt) (t : TS) : Prop :=
  ∀ (pins : List (Addr × Obj)) (s : Shared) (σ : St) (H : Hp) (D : Ends), Inv X pins σ H s → t D σ H → wpAny (model X.prog X.w) X.A (execs st X.env) (SP X pins D) X.xe s
theorem thn {α : Type} {t : Sem α} {Q Q' : α → Shared → Prop} {M : Model} {A : Around} {E : Value → Shared → Prop} {s : Shared} (h : wpAny M A t Q E s) (hQ : ∀ a s, Q a s → Q' a s) : wpAny M A t Q' E s := wpAny_mono h hQ fun _ _ x => x
end L2
namespace L2
open PySem PySem.Spec PyProof.Rows
section
variable {X : Cx}
def tVar (i : Nat) : TE := fun σ H Q => ∃ v, σ[i]? = some (some v) ∧ Q v H
def tC (v : V) : TE := fun _ H Q => Q v H
theorem pe_var {i : Nat} {x : Str} {pos : Pos} (hN : X.N[i]? = some x) (hv : Vis X.env.scope x) (hd : (x == ("__debug__" : Str)) = false := by decide) (hcd : (x == ("__classdict__" : Str)) = false := by decide) : PE X (.Name x pos) (tVar i) := by
  intro pins s σ H Q I h
  obtain ⟨v, e, h⟩ := h
  obtain ⟨m, hn, hl⟩ := I.loc
  obtain ⟨u, r, l⟩ := hl i x v hN e hv
  have fin : EP X pins σ Q u s := ⟨v, H, I, r, h⟩
  rcases l with ⟨hk, hm⟩ | ⟨hk, c, hc, hcell⟩
  · exact wpAny_Name (wpAny_loadName_local I.ok.kind hk hn hm fin) hd
  · rcases hk with hk | hk
    · exact wpAny_Name (wpAny_loadName_cell I.ok.kind hk hc hcell fin) hd
    · exact wpAny_Name (wpAny_loadName_free I.ok.kind hk hc hcell fin hcd) hd
theorem pe_int {i j pos} : PE X (.Constant (.int i) j pos) (tC (.int i)) := fun _ _ _ H _ I h => wpAny_Constant_int ⟨.int i, H, I.tok _, ⟨_, rfl⟩, h⟩
theorem pe_bl {b j pos} : PE X (.Constant (.bool b) j pos) (tC (.bl b)) := fun _ _ _ H _ I h => Constant_bool ⟨.bl b, H, I, rfl, h⟩
def Gl (X : Cx) (x : Str) : Prop := X.env.kindOf x = some .globalImplicit
theorem ld_glob {E : Value → Shared → Prop} {pins : List (Addr × Obj)} {s : Shared} {σ : St} {H : Hp} {x : Str} {u : Value} {pos : Pos} {Q : Value → Shared → Prop} (I : Inv X pins σ H s) (hg : Gl X x) (hm : X.mg x = some u) (h : Q u s)
    (hd : (x == ("__debug__" : Str)) = false := by decide) : wpAny (model X.prog X.w) X.A (eval (.Name x pos) X.env) Q E s :=
  Calls.Name_function_global I.ok.kind hg (Calls.loadGlobal_global (by rw [I.ok.glob]; exact I.mod.glob.keeps I.bk) hm h) hd
theorem ld_blt {E : Value → Shared → Prop} {pins : List (Addr × Obj)} {s : Shared} {σ : St} {H : Hp} {x : Str} {u : Value} {pos : Pos} {Q : Value → Shared → Prop} (I : Inv X pins σ H s) (hg : Gl X x) (hm : X.mg x = none) (hv : bootBuiltins x = some u) (h : Q u s)
    (hn : x ≠ "__name__" := by decide) (hd : (x == ("__debug__" : Str)) = false := by decide) : wpAny (model X.prog X.w) X.A (eval (.Name x pos) X.env) Q E s := by
  obtain ⟨mb, h1, h2⟩ := I.mod.blt
  exact Calls.Name_function_global I.ok.kind hg (Calls.loadGlobal_builtin (by rw [I.ok.glob]; exact I.mod.glob.keeps I.bk) hm (by rw [I.ok.blt]; exact h1.keeps I.bk) ((h2 x hn).trans hv) h) hd
theorem pe_glob {x : Str} {v : V} {u : Value} {pos : Pos} (hg : Gl X x) (hm : X.mg x = some u) (r : RelV v u) (hd : (x == ("__debug__" : Str)) = false := by decide) : PE X (.Name x pos) (tC v) :=
  fun _ _ _ H _ I h => ld_glob I hg hm ⟨v, H, I, r, h⟩ hd
theorem pe_bltn {x : Str} {v : V} {u : Value} {pos : Pos} (hg : Gl X x) (hm : X.mg x = none) (hv : bootBuiltins x = some u) (r : RelV v u) (hn : x ≠ "__name__" := by decide) (hd : (x == ("__debug__" : Str)) = false := by decide) : PE X (.Name x pos) (tC v) :=
  fun _ _ _ H _ I h => ld_blt I hg hm hv ⟨v, H, I, r, h⟩ hn hd
variable {a b : Expr} {ta tb : TE} {pos : Pos}
theorem nobehind (b : Expr) {op : CmpOp} (h : op ≠ .In) (h2 : op ≠ .NotIn) : behindInMarks op b = false := by
  have e1 : (op == CmpOp.In) = false := by cases op <;> first | rfl | exact absurd rfl h
  have e2 : (op == CmpOp.NotIn) = false := by cases op <;> first | rfl | exact absurd rfl h2
  cases b <;> simp [behindInMarks, e1, e2]
variable {tA tB' : TT} {rest : List Expr}
def tOr (t u : TT) : TT := fun σ H Q => t σ H fun c H1 => if c = true then Q true H1 else u σ H1 Q
def tNot (t : TT) : TT := fun σ H Q => t σ H fun c H1 => Q (!c) H1
theorem pw_or1 (ha : PT X a tA) : PW X (.BoolOp .Or [a] pos) tA := by
  intro wh pins s σ H Q I h
  refine isTrue_or (thn (ha pins s σ H Q I h) fun c s1 e => ?_)
  cases c with
  | false => exact isTrue_or_nil e
  | true => exact e
theorem pw_or (ha : PT X a tA) (hb : PW X (.BoolOp .Or (b :: rest) pos) tB') : PW X (.BoolOp .Or (a :: b :: rest) pos) (tOr tA tB') := by
  intro wh pins s σ H Q I h
  refine isTrue_or (thn (ha pins s σ H _ I h) fun c s1 ⟨H1, I1, q1⟩ => ?_)
  cases c with
  | true => exact ⟨H1, I1, q1⟩
  | false => exact hb wh pins s1 σ H1 Q I1 q1
theorem pt_not (ha : PT X a tA) : PT X (.UnaryOp .Not a pos) (tNot tA) := by
  intro pins s σ H Q I h
  exact isTrue_not (ha pins s σ H (fun c H1 => Q (!c) H1) I h)
def tAndV (ta tb : TE) : TE := fun σ H Q => ta σ H fun x H1 => ∃ c, x = .bl c ∧ if c = true then tb σ H1 Q else Q (.bl false) H1
def tNotV (ta : TE) : TE := fun σ H Q => ta σ H fun x H1 => ∃ c, x = .bl c ∧ Q (.bl (!c)) H1
theorem pe_one {op} {t : TE} (h : PE X a t) : PE X (.BoolOp op [a] pos) t := fun pins s σ H Q I hw => BoolOp_one (h pins s σ H Q I hw)
theorem pe_and (ha : PE X a ta) (hb : PE X (.BoolOp .And (b :: rest) pos) tb) : PE X (.BoolOp .And (a :: b :: rest) pos) (tAndV ta tb) := by
  intro pins s σ H Q I h
  refine BoolOp_and (thn (ha pins s σ H _ I h) fun v s1 ⟨x, H1, I1, r1, q1⟩ => ?_)
  obtain ⟨c, rfl, q1⟩ := q1
  cases r1
  refine wpAny_truthy_bool ?_
  cases c with
  | true => exact hb pins s1 σ H1 Q I1 q1
  | false => exact ⟨.bl false, H1, I1, rfl, q1⟩
theorem pe_not (ha : PE X a ta) : PE X (.UnaryOp .Not a pos) (tNotV ta) := by
  intro pins s σ H Q I h
  refine UnaryOp_ (thn (ha pins s σ H _ I h) fun v s1 ⟨x, H1, I1, r1, q1⟩ => ?_)
  obtain ⟨c, rfl, q1⟩ := q1
  cases r1
  exact not_of (wpAny_truthy_bool ⟨.bl (!c), H1, I1, rfl, q1⟩)
def tIf (t : TT) (ta tb : TE) : TE := fun σ H Q => t σ H fun c H1 => if c = true then ta σ H1 Q else tb σ H1 Q
theorem pe_ifExp {c : Expr} (hc : PT X c tA) (ha : PE X a ta) (hb : PE X b tb) : PE X (.IfExp c a b pos) (tIf tA ta tb) := by
  intro pins s σ H Q I h
  refine wpAny_IfExp (thn (hc pins s σ H _ I h) fun d s1 ⟨H1, I1, q1⟩ => ?_)
  cases d with
  | true => exact ha pins s1 σ H1 Q I1 q1
  | false => exact hb pins s1 σ H1 Q I1 q1
end
end L2
namespace L2
open PySem PySem.Spec PyProof.Rows
def SqL (K : PySem.W.Frag) (H : Hp) (a : Addr) (xs : List V) : Prop :=
  Rd H a (.lst xs) ∨
    ∃ (o : Obj) (its : Array Value) (n : Nat), K.lookup a = some o ∧ o.cls = .type "list" ∧ o.dict = none ∧ o.data = .seq its n ∧ its.size ≤ sizeLine ∧ Vals xs its.toList
def SqT (K : PySem.W.Frag) (H : Hp) (a : Addr) (xs : List V) : Prop :=
  Rd H a (.tup xs) ∨
    ∃ (o : Obj) (its : Array Value) (n : Nat), K.lookup a = some o ∧ o.cls = .type "tuple" ∧ o.data = .seq its n ∧ its.size ≤ sizeLine ∧ Vals xs its.toList
def absV : Value → Option V
  | .none => some .non
  | .bool b => some (.bl b)
  | .int i _ => some (.int i)
  | .str x _ => some (.str x)
  | .bytes b _ => some (.byt b)
  | .float b _ => some (.flt b)
  | .ref a => some (.ref a)
  | .type n => some (.ty n)
  | _ => none
theorem RelV.abs {x : V} {u : Value} (r : RelV x u) : absV u = some x := by
  cases x with
  | non => cases r; rfl
  | bl _ => cases r; rfl
  | int _ => obtain ⟨t, rfl⟩ := r; rfl
  | str _ => obtain ⟨t, rfl⟩ := r; rfl
  | byt _ => obtain ⟨t, rfl⟩ := r; rfl
  | flt _ => obtain ⟨t, rfl⟩ := r; rfl
  | ref _ => cases r; rfl
  | ty _ => cases r; rfl
theorem RelV.inj {x y : V} {u : Value} (r : RelV x u) (q : RelV y u) : x = y := Option.some.inj (r.abs.symm.trans q.abs)
theorem Vals.inj : ∀ {xs ys : List V} {us : List Value}, Vals xs us → Vals ys us → xs = ys
  | _, _, _, .nil, .nil => rfl
  | _, _, _, .cons r t, .cons r' t' => by rw [r.inj r', Vals.inj t t']
section
variable {X : Cx} {pins : List (Addr × Obj)} {σ : St} {H : Hp} {s : Shared} {a : Addr} {xs ys : List V}
theorem SqL.of {K : PySem.W.Frag} (h : H a = some (.lst xs)) : SqL K H a xs := .inl (.inl h)
theorem SqT.of {K : PySem.W.Frag} (h : H a = some (.tup xs)) : SqT K H a xs := .inl (.inl h)
theorem Inv.list (I : Inv X pins σ H s) (h : SqL X.K H a xs) : ∃ its : List Value, Vals xs its ∧ PlainL s.heap a its.toArray ∧ xs.length ≤ sizeLine := by
  rcases h with h | ⟨o, its, n, hk, hc, hd, hs, hz, r⟩
  · obtain ⟨z, its, n, r, e⟩ := h.ok I.hok
    exact ⟨its, r, ⟨_, n, e, rfl, rfl, rfl⟩, z⟩
  · refine ⟨its.toList, r, ⟨o, n, I.kIn a o hk, hc, hd, by simpa using hs⟩, ?_⟩
    have e := r.length
    simp only [Array.length_toList] at e
    omega
theorem Inv.tuple (I : Inv X pins σ H s) (h : SqT X.K H a xs) : ∃ its : List Value, Vals xs its ∧ IsTup s.heap a its.toArray ∧ xs.length ≤ sizeLine := by
  rcases h with h | ⟨o, its, n, hk, hc, hs, hz, r⟩
  · obtain ⟨z, its, r, p⟩ := h.ok I.hok
    exact ⟨its, r, p, z⟩
  · refine ⟨its.toList, r, ⟨o, I.kIn a o hk, hc, n, by simpa using hs⟩, ?_⟩
    have e := r.length
    simp only [Array.length_toList] at e
    omega
theorem Inv.list_inj (I : Inv X pins σ H s) (h : SqL X.K H a xs) (h' : SqL X.K H a ys) : xs = ys := by
  obtain ⟨its, r, ⟨o, n, e, _, _, d⟩, _⟩ := I.list h
  obtain ⟨its', r', ⟨o', n', e', _, _, d'⟩, _⟩ := I.list h'
  rw [e] at e'; cases e'
  rw [d] at d'
  injection d' with d1 _
  have : its = its' := by simpa using congrArg Array.toList d1
  subst this
  exact r.inj r'
end
abbrev Cx.wish (X : Cx) (E : Value → Shared → Prop) : Cx := { X with xe := E }
abbrev Cx.nox (X : Cx) : Cx := X.wish fun _ _ => False
theorem Cx.Ok.wish {X : Cx} (ok : X.Ok) (E : Value → Shared → Prop) : (X.wish E).Ok :=
  ⟨ok.mod, ok.kind, ok.glob, ok.blt, ok.above, ok.inj, ok.has, ok.cab, ok.hd, ok.frames, ok.stk, ok.exf, ok.bs, ok.bsz, ok.noex, ok.exfs, ok.funs, ok.frf⟩
theorem Cx.Ok.unwish {X : Cx} {E : Value → Shared → Prop} (ok : (X.wish E).Ok) : X.Ok :=
  ⟨ok.mod, ok.kind, ok.glob, ok.blt, ok.above, ok.inj, ok.has, ok.cab, ok.hd, ok.frames, ok.stk, ok.exf, ok.bs, ok.bsz, ok.noex, ok.exfs, ok.funs, ok.frf⟩
section
variable {X : Cx} {pins : List (Addr × Obj)} {σ : St} {H : Hp} {s : Shared} {E : Value → Shared → Prop}
theorem Inv.wish (I : Inv X pins σ H s) (E : Value → Shared → Prop) : Inv (X.wish E) pins σ H s := ⟨I.ok.wish E, I.os, I.bare, I.base, I.loc, I.cell, I.free, I.freeC, I.pin, I.hok, I.len⟩
theorem Inv.unwish (I : Inv (X.wish E) pins σ H s) : Inv X pins σ H s := ⟨I.ok.unwish, I.os, I.bare, I.base, I.loc, I.cell, I.free, I.freeC, I.pin, I.hok, I.len⟩
theorem SP.unwish {D : Ends} {f : Flow} {s' : Shared} (h : SP (X.wish E) pins D f s') : SP X pins D f s' := by
  cases f with
  | next => obtain ⟨σ', H', I, q⟩ := h; exact ⟨σ', H', I.unwish, q⟩
  | brk => obtain ⟨σ', H', I, q⟩ := h; exact ⟨σ', H', I.unwish, q⟩
  | cont => obtain ⟨σ', H', I, q⟩ := h; exact ⟨σ', H', I.unwish, q⟩
  | ret u => obtain ⟨v, σ', H', I, r, q⟩ := h; exact ⟨v, σ', H', I.unwish, r, q⟩
theorem PE.nox {e : Expr} {t : TE} (h : PE X.nox e t) : PE X e t := fun pins s σ H Q I hw =>
  wpAny_mono (h pins s σ H Q (I.wish _) hw) (fun _ _ ⟨v, H', I', r, q⟩ => ⟨v, H', I'.unwish, r, q⟩) fun _ _ z => False.elim z
theorem PT.nox {e : Expr} {t : TT} (h : PT X.nox e t) : PT X e t := fun pins s σ H Q I hw =>
  wpAny_mono (h pins s σ H Q (I.wish _) hw) (fun _ _ ⟨H', I', q⟩ => ⟨H', I'.unwish, q⟩) fun _ _ z => False.elim z
theorem PSs.nox {st : List Stmt} {t : TS} (h : PSs X.nox st t) : PSs X st t := fun pins s σ H D I hw =>
  wpAny_mono (h pins s σ H D (I.wish _) hw) (fun _ _ q => q.unwish) fun _ _ z => False.elim z
end
section
variable {X : Cx} {st : Stmt} {rest : List Stmt} {t u : TS} {e : Expr} {te : TE} {pos : Pos}
def tNext : TS := fun D σ H => D.nx σ H
def tSeq (t u : TS) : TS := fun D σ H => t { D with nx := u D } σ H
theorem pss_nil : PSs X [] tNext := fun _ _ σ H _ I h => wpAny_execs_nil ⟨σ, H, I, h⟩
theorem pss_cons (h1 : PS X st t) (h2 : PSs X rest u) : PSs X (st :: rest) (tSeq t u) := by
  intro pins s σ H D I h
  refine wpAny_execs_cons (thn (h1 pins s σ H { D with nx := u D } I h) fun f s1 q => ?_)
  cases f with
  | next =>
    obtain ⟨σ', H', I', q⟩ := q
    exact h2 pins s1 σ' H' D I' q
  | ret v => exact q
  | brk => exact q
  | cont => exact q
theorem Inv.quiet {pins : List (Addr × Obj)} {σ : St} {H : Hp} {s : Shared} (I : Inv X pins σ H s) : interactive X.env = false := by simp [interactive, I.ok.kind]
def tDrop (te : TE) : TS := fun D σ H => te σ H fun _ H1 => D.nx σ H1
theorem ps_expr (he : PE X e te) (hs : swapsWith e none pos.line X.env = pure false := by rfl) : PS X (.Expr e pos) (tDrop te) := by
  intro pins s σ H D I h
  exact wpAny_Expr_any (thn (he pins s σ H _ I h) fun v s1 ⟨x, H1, I1, r1, q1⟩ => ⟨σ, H1, I1, q1⟩) I.quiet hs
def tRet (te : TE) : TS := fun D σ H => te σ H D.rt
theorem ps_ret (he : PE X e te) : PS X (.Return (some e) pos) (tRet te) := by
  intro pins s σ H D I h
  exact wpAny_Return_some (thn (he pins s σ H _ I h) fun v s1 ⟨x, H1, I1, r1, q1⟩ => ⟨x, σ, H1, I1, r1, q1⟩)
def tIfS (c : TT) (t u : TS) : TS := fun D σ H => c σ H fun b H1 => if b = true then t D σ H1 else u D σ H1
theorem ps_if {c : Expr} {a b : List Stmt} {tc : TT} (hc : PT X c tc) (ha : PSs X a t) (hb : PSs X b u) : PS X (.If c a b pos) (tIfS tc t u) := by
  intro pins s σ H D I h
  refine wpAny_If (thn (hc pins s σ H _ I h) fun d s1 ⟨H1, I1, q1⟩ => ?_)
  cases d with
  | true => exact ha pins s1 σ H1 D I1 q1
  | false => exact hb pins s1 σ H1 D I1 q1
end
abbrev TG := V → St → Hp → (St → Hp → Prop) → Prop
abbrev TGs := List V → St → Hp → (St → Hp → Prop) → Prop
def PG (X : Cx) (target : Expr) (t : TG) : Prop :=
  ∀ (pins : List (Addr × Obj)) (s : Shared) (σ : St) (H : Hp) (v : V) (u : Value) (Q : St → Hp → Prop), Inv X pins σ H s → RelV v u → t v σ H Q →
    wpAny (model X.prog X.w) X.A (assign target X.env u) (fun _ s' => ∃ σ' H', Inv X pins σ' H' s' ∧ Q σ' H') X.xe s
def PGs (X : Cx) (ts : List Expr) (t : TGs) : Prop :=
  ∀ (pins : List (Addr × Obj)) (s : Shared) (σ : St) (H : Hp) (vs : List V) (us : List Value) (Q : St → Hp → Prop), Inv X pins σ H s → Vals vs us → t vs σ H Q →
    wpAny (model X.prog X.w) X.A (assignInOrder ((assignEach ts X.env).map (·.2)) us) (fun _ s' => ∃ σ' H', Inv X pins σ' H' s' ∧ Q σ' H') X.xe s
section
variable {X : Cx} {pos : Pos}
def gName (i : Nat) : TG := fun v σ H Q => Q (σ.set i (some v)) H
theorem pg_name {i : Nat} {x : Str} (hN : X.N.Nodup) (hi : X.N[i]? = some x) (hx : Loc X.env.scope x) (hf : X.fn x = true ∨ X.env.scope.names.lookup x = some .local := by first | exact .inl rfl | exact .inr rfl | assumption) : PG X (.Name x pos) (gName i) := by
  intro pins s σ H v u Q I r h
  exact wpAny_assign_Name (store_ok I hN hi hx r (fun s' I' => ⟨_, H, I', h⟩) hf)
def gNil : TGs := fun vs σ H Q => vs = [] ∧ Q σ H
def gCons (t : TG) (u : TGs) : TGs := fun vs σ H Q => ∃ v r, vs = v :: r ∧ t v σ H fun σ' H' => u r σ' H' Q
theorem pgs_nil : PGs X [] gNil := by
  intro pins s σ H vs us Q I r h
  obtain ⟨e, h⟩ := h
  subst e
  cases r
  exact assignInOrder_nil ⟨σ, H, I, h⟩
theorem pgs_cons {e : Expr} {es : List Expr} {t : TG} {u : TGs} (h1 : PG X e t) (h2 : PGs X es u)
    (hs : (assignEach (e :: es) X.env).map (·.2) = assign e X.env :: (assignEach es X.env).map (·.2) := by rfl) : PGs X (e :: es) (gCons t u) := by
  intro pins s σ H vs us Q I r h
  obtain ⟨v, vr, e1, h⟩ := h
  subst e1
  cases r with
  | cons r rr =>
    rw [hs]
    refine assignInOrder_cons (thn (h1 pins s σ H _ _ _ I r h) fun _ s1 ⟨σ1, H1, I1, q1⟩ => ?_)
    exact h2 pins s1 σ1 H1 _ _ Q I1 rr q1
def gTup (K : PySem.W.Frag) (n : Nat) (t : TGs) : TG := fun v σ H Q => ∃ a xs, v = .ref a ∧ SqT K H a xs ∧ xs.length = n ∧ t xs σ H Q
theorem pg_tup {es : List Expr} {k : Nat} {t : TGs} {n : Nat} (hc : X.calm = true) (h : PGs X es t)
    (hn : (assignEach es X.env).length = n := by rfl) (hst : (assignEach es X.env).findIdx? (·.1) = none := by rfl) : PG X (.Tuple es k pos) (gTup X.K n t) := by
  intro pins s σ H v u Q I r hw
  obtain ⟨a, xs, e1, hq, hl, hw⟩ := hw
  subst e1
  cases r
  obtain ⟨its, rv, ht, hz⟩ := I.tuple hq
  refine assign_Tuple_tuple (I.ok.hd hc) ht (by simp [hn, ← hl, rv.length]) hst fun h' hx => ?_
  have I1 : Inv X pins σ H { s with heap := h' } := I.kept (t' := s.toks) fun b o e => hx b o (Nat.ne_of_lt (Heap.lt_size e)) e
  exact h pins _ σ H xs _ Q I1 (by simpa using rv) hw
def tAsg (te : TE) (g : TG) : TS := fun D σ H => te σ H fun x H1 => g x σ H1 D.nx
theorem ps_asg {tg e : Expr} {te : TE} {g : TG} (he : PE X e te) (hg : PG X tg g) (hs : swapsWithSole [tg] e pos.line X.env = pure false := by rfl) (hw : swappedStores [tg] e X.env = pure none := by rfl)
    (h1 : (assignEach [tg] X.env).map (·.2) = [assign tg X.env] := by rfl) : PS X (.Assign [tg] e pos) (tAsg te g) := by
  intro pins s σ H D I h
  refine wpAny_Assign_stores (thn (he pins s σ H _ I h) fun v s1 ⟨x, H1, I1, r1, q1⟩ => ?_) hs hw
  rw [h1]
  exact thn (hg pins s1 σ H1 x v _ I1 r1 q1) fun _ s2 q => q
theorem ps_set {i : Nat} {x : Str} {e : Expr} {te : TE} {pos' : Pos} (hN : X.N.Nodup) (hi : X.N[i]? = some x) (hx : Loc X.env.scope x) (he : PE X e te) (hs : swapsWith e (some (.Name x pos')) pos.line X.env = pure false := by rfl) (hf : X.fn x = true ∨ X.env.scope.names.lookup x = some .local := by first | exact .inl rfl | exact .inr rfl | assumption) :
    PS X (.Assign [.Name x pos'] e pos) (tAsg te (gName i)) := by
  intro pins s σ H D I h
  refine wpAny_Assign_Name (thn (he pins s σ H _ I h) fun v s1 ⟨y, H1, I1, r1, q1⟩ => ?_) hs
  exact store_ok I1 hN hi hx r1 (fun s2 I2 => ⟨_, H1, I2, q1⟩) hf
def tPar (i j : Nat) (ta : TA) : TS := fun D σ H => ta σ H fun vs H1 => ∃ v w, vs = [v, w] ∧ D.nx ((σ.set i (some v)).set j (some w)) H1
theorem ps_par {i j : Nat} {x y : Str} {a b : Expr} {ta : TA} {px py pt : Pos} {kt k2 pt2} (hc : X.calm = true) (hN : X.N.Nodup) (hi : X.N[i]? = some x) (hj : X.N[j]? = some y) (hij : i ≠ j)
    (hx : X.env.scope.names.lookup x = some .local) (hy : X.env.scope.names.lookup y = some .local) (ha : PA X [a, b] ta)
    (hw : swappedStores [.Tuple [.Name x px, .Name y py] kt pt] (.Tuple [a, b] k2 pt2) X.env = pure (some [x, y]))
    (hs : swapsWithSole [.Tuple [.Name x px, .Name y py] kt pt] (.Tuple [a, b] k2 pt2) pos.line X.env = pure false := by rfl) :
    PS X (.Assign [.Tuple [.Name x px, .Name y py] kt pt] (.Tuple [a, b] k2 pt2) pos) (tPar i j ta) := by
  intro pins s σ H D I h
  rw [exec_Assign_arm]
  refine wpAny_bind (wpAny_standAt ?_)
  rw [hs]
  refine wpAny_bind (wpAny_pure ?_)
  rw [if_neg (by decide)]
  refine wpAny_bind (Tuple_ (thn (ha _ pins s σ H _ I h) fun us s1 ⟨vs, H1, I1, r1, q1⟩ => ?_))
  obtain ⟨v, w, e1, q1⟩ := q1
  subst e1
  obtain ⟨u1, u2, rfl, rv, rw'⟩ : ∃ u1 u2, us = [u1, u2] ∧ RelV v u1 ∧ RelV w u2 := by
    cases r1 with
    | cons p q =>
      cases q with
      | cons p' q' =>
        cases q'
        exact ⟨_, _, rfl, p, p'⟩
  refine wpAny_newObj_type ?_ (by show 2 ≤ sizeLine; decide)
  have I2 : Inv X pins σ H1 { s1 with heap := s1.heap.push { cls := .type "tuple", data := .seq [u1, u2].toArray } } := I1.kept (t' := s1.toks) fun b o e => Heap.get?_push_of_some _ e
  rw [hw]
  refine wpAny_bind (wpAny_pure ?_)
  show wpAny (model X.prog X.w) X.A (do rule "assign.swapped-stores"; let items ← unpackItems (.ref s1.heap.objs.size) 2 none; assignInOrder [fun v => bindName X.env y v, fun v => bindName X.env x v] items.reverse; pure Flow.next) _ _ _
  refine wpAny_bind (wpAny_rule (wpAny_bind (unpackItems_tuple (items := #[u1, u2]) (I.ok.hd hc) (IsTup.new s1.heap _) fun h' hx' => ?_)))
  have I3 := I2.kept (h' := h') (t' := s1.toks) fun b o e => hx' b o (Nat.ne_of_lt (Heap.lt_size e)) e
  show wpAny _ _ (assignInOrder [fun v => bindName X.env y v, fun v => bindName X.env x v] [u2, u1] >>= fun _ => pure Flow.next) _ _ _
  refine wpAny_bind (assignInOrder_cons (wpAny_bindName (store_ok I3 hN hj (.inl hy) rw' (fun s2 I4 => ?_) (.inr hy))))
  refine assignInOrder_cons (wpAny_bindName (store_ok I4 hN hi (.inl hx) rv (fun s3 I5 => assignInOrder_nil (wpAny_pure ?_)) (.inr hx)))
  rw [List.set_comm _ _ (Ne.symm hij)] at I5
  exact ⟨_, H1, I5, q1⟩
end
section
variable {X : Cx} {pos : Pos}
def tWhile (c : TT) (tb : TS) : TS := fun D σ H => ∃ W : Nat → St → Hp → Prop, (∃ m, W m σ H) ∧ ∀ m σ H, W m σ H →
  c σ H fun b H1 => if b = true then ∃ N : St → Hp → Prop, (∀ σ' H', N σ' H' → ∃ m', m' < m ∧ W m' σ' H') ∧ tb { D with nx := N, ct := N, bk := D.nx } σ H1 else D.nx σ H1
theorem ps_while {c : Expr} {body : List Stmt} {tc : TT} {tb : TS} (hp : PassesOwn (model X.prog X.w) X.A X.env X.xe) (hc : PT X c tc) (hb : PSs X body tb) : PS X (.While c body [] pos) (tWhile tc tb) := by
  intro pins s σ H D I h
  obtain ⟨W, ⟨m0, w0⟩, turn⟩ := h
  refine wpAny_While (codeAny_whileLoop (fun n s' => ∃ σ' H', Inv X pins σ' H' s' ∧ W n σ' H') ?_ m0 ⟨σ, H, I, w0⟩)
  rintro n s1 ⟨σ1, H1, I1, w1⟩
  refine wpAny_passesOwn hp (thn (hc pins s1 σ1 H1 _ I1 (turn n σ1 H1 w1)) fun b s2 ⟨H2, I2, q2⟩ => ?_)
  cases b with
  | true =>
    obtain ⟨N, hN, q2⟩ := q2
    rw [if_pos rfl]
    refine wpAny_passesOwn hp (thn (hb pins s2 σ1 H2 _ I2 q2) fun f s3 q3 => ?_)
    cases f with
    | next =>
      obtain ⟨σ3, H3, I3, n3⟩ := q3
      obtain ⟨m', hm, w3⟩ := hN σ3 H3 n3
      exact ⟨m', hm, σ3, H3, I3, w3⟩
    | cont =>
      obtain ⟨σ3, H3, I3, n3⟩ := q3
      obtain ⟨m', hm, w3⟩ := hN σ3 H3 n3
      exact ⟨m', hm, σ3, H3, I3, w3⟩
    | brk => exact q3
    | ret v => exact q3
  | false =>
    rw [if_neg Bool.false_ne_true]
    exact wpAny_execs_nil ⟨σ1, H2, I2, q2⟩
end
structure It where
  go : Nat → Hp → Prop
  yld : Nat → Hp → V → Hp → Prop
  stop : Nat → Hp → Prop
def FpOk (X : Cx) (pins : List (Addr × Obj)) (H : Hp) (b : Addr) : Prop :=
  H b = none ∧ b ≠ X.env.locals ∧ b ∉ X.fs ∧ (b ∈ X.ex ∨ X.s_0.heap.objs.size ≤ b) ∧ (∀ x c, X.env.cells.lookup x = some c → c ≠ b) ∧ ∀ p ∈ X.pn ++ pins, p.1 ≠ b
theorem Inv.fpOk {X : Cx} {pins : List (Addr × Obj)} {σ : St} {H H' : Hp} {s : Shared} {b : Addr} (I : Inv X pins σ H s) (hb : s.heap.objs.size ≤ b) (hn : H' b = none) : FpOk X pins H' b := by
  refine ⟨hn, Nat.ne_of_gt (Nat.lt_of_lt_of_le I.lt hb), I.nofs hb, .inr (Nat.le_trans I.sz hb), fun x c e z => ?_, fun p hp z => ?_⟩
  · obtain ⟨v, q⟩ := I.cell x c e
    exact absurd (Nat.lt_of_lt_of_le q.lt (by rw [z]; exact hb)) (Nat.lt_irrefl _)
  · exact absurd (Nat.lt_of_lt_of_le (Heap.lt_size (I.pin p hp).1) (by rw [z]; exact hb)) (Nat.lt_irrefl _)
structure Turn (P : Program) (w : World) (K : PySem.W.Frag) (tg : Expr) (J : It) (fp : List Addr) (it : Addr) (tn : Nat → Heap → Prop) : Prop where
  mem : it ∈ fp
  obj : ∀ i h, tn i h → ∀ b ∈ fp, ∃ o, h.get? b = some o ∧ ∀ v, o.data ≠ .cell v
  keep : ∀ i h h', tn i h → (∀ b ∈ fp, ∀ o, h.get? b = some o → h'.get? b = some o) → tn i h'
  item : ∀ (X : Cx), X.prog = P → X.w = w → X.K = K → X.calm = true → ∀ (i : Nat) (pins : List (Addr × Obj)) (s : Shared) (σ : St) (H : Hp) (E : Value → Shared → Prop), Inv X pins σ H s → (∀ b ∈ fp, FpOk X pins H b) → tn i s.heap → J.go i H →
    wpAny (model P w) X.A (pyNext (.ref it)) (fun r s1 => ∃ u, r = some u ∧
      wpAny (model P w) X.A (letOwnedTupleGo tg (.ref it) u) (fun _ s2 => ∃ x H', Inv X pins σ H' s2 ∧ RelV x u ∧ J.yld i H x H' ∧ tn (i + 1) s2.heap ∧ ∀ b ∈ fp, H' b = none) E s1) E s
  done : ∀ (X : Cx), X.prog = P → X.w = w → X.K = K → X.calm = true → ∀ (i : Nat) (pins : List (Addr × Obj)) (s : Shared) (σ : St) (H : Hp) (E : Value → Shared → Prop), Inv X pins σ H s → (∀ b ∈ fp, FpOk X pins H b) → tn i s.heap → J.stop i H →
    wpAny (model P w) X.A (pyNext (.ref it)) (fun r s1 => r = none ∧ Inv X pins σ H s1) E s
  self : ∀ (A : Around) (i : Nat) (s : Shared) (Q : Value → Shared → Prop) (E : Value → Shared → Prop), tn i s.heap → Q (.ref it) s → wpAny (model P w) A (pyIter (.ref it)) Q E s
abbrev TI := St → Hp → (It → Hp → Prop) → Prop
def PIE (X : Cx) (pins : List (Addr × Obj)) (σ : St) (tg : Expr) (R : It → Hp → Prop) (itv : Value) (s2 : Shared) : Prop :=
  ∃ (it : Addr) (fp : List Addr) (tn : Nat → Heap → Prop) (J : It) (H' : Hp), itv = .ref it ∧ Inv X pins σ H' s2 ∧ Turn X.prog X.w X.K tg J fp it tn ∧ tn 0 s2.heap ∧ (∀ b ∈ fp, FpOk X pins H' b) ∧ R J H'
def PI (X : Cx) (tg iter : Expr) (wi : TI) : Prop :=
  ∀ (pins : List (Addr × Obj)) (s : Shared) (σ : St) (H : Hp) (R : It → Hp → Prop), Inv X pins σ H s → wi σ H R →
    wpAny (model X.prog X.w) X.A (eval iter X.env) (fun v s1 => wpAny (model X.prog X.w) X.A (pyIter v) (PIE X pins σ tg R) X.xe s1) X.xe s
theorem go_of {M : Model} {A : Around} {E : Value → Shared → Prop} {s : Shared} {tg : Expr} {it : Addr} {u : Value} {o : Obj} {n : String} {vs : Array Value} {Q : Unit → Shared → Prop} (ho : s.heap.get? it = some o) (hc : o.cls = .type n) (hd : o.data = .fields vs)
    (hn : ["enumerate", "zip", "dict_itemiterator", "dict_reverseitemiterator", "odict_iterator", "itertools.zip_longest", "itertools.pairwise"].contains n = false) (hQ : Q () s) : wpAny M A (letOwnedTupleGo tg (.ref it) u) Q E s := by
  unfold letOwnedTupleGo
  cases tg <;> first
    | exact wpAny_pure hQ
    | (cases u <;> first
        | exact wpAny_pure hQ
        | (refine wpAny_bind (wpAny_load ho ?_)
           rw [hc, hd]
           show wpAny M A (if (["enumerate", "zip", "dict_itemiterator", "dict_reverseitemiterator", "odict_iterator", "itertools.zip_longest", "itertools.pairwise"].contains n && vs[0]? == some (rawInt _)) = true then _ else _) Q E s
           rw [if_neg (by intro h; rw [hn, Bool.false_and] at h; cases h)]
           exact wpAny_pure hQ))
def Itl (K : PySem.W.Frag) (a : Addr) : It :=
  ⟨fun i H => ∃ xs x, SqL K H a xs ∧ xs[i]? = some x, fun i H x H' => H' = H ∧ ∀ xs, SqL K H a xs → xs[i]? = some x, fun i H => ∃ xs, SqL K H a xs ∧ xs.length ≤ i⟩
def Itr (lo : Int) (n : Nat) : It := ⟨fun i _ => i < n, fun i H x H' => H' = H ∧ x = .int (lo + i), fun i _ => n ≤ i⟩
theorem turn_list {P : Program} {w : World} {K : PySem.W.Frag} {tg : Expr} (a it : Addr) : Turn P w K tg (Itl K a) [it] it (fun i h => h.IsListIter it a i) where
  mem := by simp
  obj := fun i h st b hb => by
    have e : b = it := by simpa using hb
    subst e
    obtain ⟨o, e, c, d⟩ := st
    exact ⟨o, e, fun v z => by rw [d] at z; cases z⟩
  keep := fun i h h' st k => st.at fun o e => k it (by simp) o e
  item := by
    intro X hP hw hK hc i pins s σ H E I hf st hg
    subst hP hw hK
    obtain ⟨xs, x, hq, hx⟩ := hg
    obtain ⟨its, rv, p, hz⟩ := I.list hq
    obtain ⟨u, hu, ru⟩ := rv.get hx
    obtain ⟨f0, f1, f2, f3, f4, f5⟩ := hf it (by simp)
    refine wpAny_pyNext_list_item st p.isList (x := u) (by simpa using hu) fun h' st' sb => ?_
    have I1 : Inv X pins σ H { s with heap := h' } := I.turned (t' := s.toks) (fun b o hb e => (sb.2 b hb).trans e) f0 f1 f3 f4 f5
    obtain ⟨o, e, c, d⟩ := id st'
    exact ⟨u, rfl, go_of (s := { s with heap := h' }) e c d (by decide) ⟨x, H, I1, ru, ⟨rfl, fun ys hy => by rw [I.list_inj hy hq]; exact hx⟩, st', fun b hb => (hf b hb).1⟩⟩
  done := by
    intro X hP hw hK hc i pins s σ H E I hf st hg
    subst hP hw hK
    obtain ⟨xs, hq, hx⟩ := hg
    obtain ⟨its, rv, p, hz⟩ := I.list hq
    obtain ⟨f0, f1, f2, f3, f4, f5⟩ := hf it (by simp)
    have hl := rv.length
    exact wpAny_pyNext_list_end (I.ok.hd hc) st p.isList (by simp; omega) fun h' eb => ⟨rfl, I.turned (t' := s.toks) (fun b o hb e => eb b o hb e) f0 f1 f3 f4 f5⟩
  self := fun _ _ _ _ _ st h => wpAny_pyIter_listiter st h
theorem turn_range {P : Program} {w : World} {K : PySem.W.Frag} {tg : Expr} (it : Addr) (lo : Int) (n : Nat) : Turn P w K tg (Itr lo n) [it] it (fun i h => IsRangeIter h it (lo + (i : Nat) * 1) ((n : Int) - (i : Nat)) 1) where
  mem := by simp
  obj := fun i h st b hb => by
    have e : b = it := by simpa using hb
    subst e
    exact ⟨_, st, fun v z => by
      have z' : Data.fields _ = Data.cell v := z
      cases z'⟩
  keep := fun i h h' st k => k it (by simp) _ st
  item := by
    intro X hP hw hK hc i pins s σ H E I hf st hg
    subst hP hw hK
    obtain ⟨f0, f1, f2, f3, f4, f5⟩ := hf it (by simp)
    have W := Walks.range (prog := X.prog) (w := X.w) (I.ok.hd hc) it lo 1 n
    refine W.item i s _ _ hg st fun v h' tk hv st' kk => ?_
    obtain ⟨t, rfl⟩ := hv
    have I1 : Inv X pins σ H { s with heap := h', toks := tk } := I.turned (fun b o hb e => kk b o (by simpa using hb) e) f0 f1 f3 f4 f5
    refine ⟨_, rfl, go_of (s := { s with heap := h', toks := tk }) (n := "range_iterator") st' rfl rfl (by decide) ⟨.int (lo + i), H, I1, ⟨t, ?_⟩, ⟨rfl, rfl⟩, st', fun b hb => (hf b hb).1⟩⟩
    rw [Int.mul_one]
  done := by
    intro X hP hw hK hc i pins s σ H E I hf st hg
    subst hP hw hK
    obtain ⟨f0, f1, f2, f3, f4, f5⟩ := hf it (by simp)
    exact wpAny_pyNext_range_end (I.ok.hd hc) st (by have : n ≤ i := hg; omega) fun h' eb => ⟨rfl, I.turned (t' := s.toks) (fun b o hb e => eb b o hb e) f0 f1 f3 f4 f5⟩
  self := fun _ _ _ _ _ st h => wpAny_pyIter_rangeiter st h
end L2
namespace L2
open PySem PySem.Spec PyProof.Rows
section
variable {X : Cx} {tg : Expr}
def iList (K : PySem.W.Frag) (tl : TE) : TI := fun σ H R => tl σ H fun x H1 => ∃ a, x = .ref a ∧ (∃ xs, SqL K H1 a xs) ∧ R (Itl K a) H1
theorem pi_list {l : Expr} {tl : TE} (hl : PE X l tl) : PI X tg l (iList X.K tl) := by
  intro pins s σ H R I h
  refine thn (hl pins s σ H _ I h) fun v s1 ⟨x, H1, I1, r1, q1⟩ => ?_
  obtain ⟨a, e, ⟨xs, hq⟩, q⟩ := q1
  subst e
  cases r1
  obtain ⟨its, rv, p, hz⟩ := I1.list hq
  refine wpAny_pyIter_list p.isList ?_
  refine ⟨s1.heap.objs.size, [s1.heap.objs.size], _, _, H1, rfl, I1.kept (t' := s1.toks) fun b o e => Heap.get?_push_of_some _ e, turn_list a _, ⟨_, Heap.get?_push_size _ rfl, rfl, rfl⟩, fun b hb => ?_, q⟩
  have e : b = s1.heap.objs.size := by simpa using hb
  subst e
  exact I1.fpOk (Nat.le_refl _) (I1.hok.fresh (Nat.le_refl _))
theorem range_it {pins : List (Addr × Obj)} {σ : St} {H : Hp} {s : Shared} {R : It → Hp → Prop} {E : Value → Shared → Prop} {lo hi : Int} {t u v : Tok} {tk : Nat} (I : Inv X pins σ H s) (h1 : -(2 ^ 62) ≤ lo) (h2 : lo < 2 ^ 62) (h3 : -(2 ^ 62) ≤ hi) (h4 : hi < 2 ^ 62)
    (q : R (Itr lo (hi - lo).toNat) H) : wpAny (model X.prog X.w) X.A (pyIter (.ref s.heap.objs.size)) (PIE X pins σ tg R) E { s with heap := s.heap.push { cls := .type "range", data := .fields #[.int lo t, .int hi u, .int 1 v] }, toks := tk } := by
  refine wpAny_pyIter_range (IsRange.new ..) (small_one h1 h2 h3 h4) ?_
  have I1 : Inv X pins σ H { s with heap := s.heap.push { cls := .type "range", data := .fields #[.int lo t, .int hi u, .int 1 v] }, toks := tk } := I.kept fun b o e => Heap.get?_push_of_some _ e
  refine ⟨(s.heap.push { cls := .type "range", data := .fields #[.int lo t, .int hi u, .int 1 v] }).objs.size, [(s.heap.push { cls := .type "range", data := .fields #[.int lo t, .int hi u, .int 1 v] }).objs.size], _, _, H, rfl,
    I1.kept (t' := tk) fun b o e => Heap.get?_push_of_some _ e, turn_range _ lo (hi - lo).toNat, ?_, fun b hb => ?_, q⟩
  · have e1 : lo + ((0 : Nat) : Int) * 1 = lo := by simp
    have e2 : (((hi - lo).toNat : Nat) : Int) - ((0 : Nat) : Int) = Builtin.Range.rangeSize lo hi 1 := by rw [rangeSize_one]; split <;> omega
    show IsRangeIter _ _ (lo + ((0 : Nat) : Int) * 1) ((((hi - lo).toNat : Nat) : Int) - ((0 : Nat) : Int)) 1
    rw [e1, e2]
    exact Heap.get?_push_size _ rfl
  · have e : b = (s.heap.push { cls := .type "range", data := .fields #[.int lo t, .int hi u, .int 1 v] }).objs.size := by simpa using hb
    subst e
    exact I1.fpOk (Nat.le_refl _) (I1.hok.fresh (Nat.le_refl _))
def iRng1 (ta : TA) : TI := fun σ H R => ta σ H fun vs H1 => ∃ j : Int, vs = [.int j] ∧ -(2 ^ 62) ≤ j ∧ j < 2 ^ 62 ∧ R (Itr 0 j.toNat) H1
def iRng2 (ta : TA) : TI := fun σ H R => ta σ H fun vs H1 => ∃ i j : Int, vs = [.int i, .int j] ∧ (-(2 ^ 62) ≤ i ∧ i < 2 ^ 62 ∧ -(2 ^ 62) ≤ j ∧ j < 2 ^ 62) ∧ R (Itr i (j - i).toNat) H1
theorem pi_range1 {a : Expr} {ta : TA} {p pos : Pos} (hg : Gl X "range") (hm : X.mg "range" = none) (ha : PA X [a] ta) (hs : starEach [a] X.env = [(false, eval a X.env)] := by rfl) : PI X tg (.Call (.Name "range" p) [a] [] pos) (iRng1 ta) := by
  intro pins s σ H R I h
  refine Call_ (ld_blt I hg hm boot_range (PyProof.Rows.callWith_type1 (thn (ha pos pins s σ H _ I h) fun us s1 ⟨vs, H1, I1, r1, q1⟩ => ?_) hs rfl))
  obtain ⟨j, e, q1, q2, q⟩ := q1
  subst e
  cases r1 with
  | cons r rr =>
    cases rr
    obtain ⟨t, rfl⟩ := r
    exact call_range_1 (range_it I1 (by omega) (by omega) q1 q2 (by simpa using q))
theorem pi_range2 {a b : Expr} {ta : TA} {p pos : Pos} (hg : Gl X "range") (hm : X.mg "range" = none) (ha : PA X [a, b] ta) (hs : starEach [a, b] X.env = [(false, eval a X.env), (false, eval b X.env)] := by rfl) (hs2 : starEach [b] X.env = [(false, eval b X.env)] := by rfl) :
    PI X tg (.Call (.Name "range" p) [a, b] [] pos) (iRng2 ta) := by
  intro pins s σ H R I h
  refine Call_ (ld_blt I hg hm boot_range (PyProof.Rows.callWith_type1 (thn (ha pos pins s σ H _ I h) fun us s1 ⟨vs, H1, I1, r1, q1⟩ => ?_) (by rw [hs, hs2]) (by rw [hs2]; rfl)))
  obtain ⟨i, j, e, ⟨q1, q2, q3, q4⟩, q⟩ := q1
  subst e
  cases r1 with
  | cons r rr =>
    cases rr with
    | cons r' rr =>
      cases rr
      obtain ⟨t, rfl⟩ := r
      obtain ⟨t', rfl⟩ := r'
      exact call_range_2 (range_it I1 q1 q2 q3 q4 q)
def tFor (wi : TI) (g : TG) (tb : TS) : TS := fun D σ H => wi σ H fun J H1 => ∃ W : Nat → Nat → St → Hp → Prop, (∃ m, W 0 m σ H1) ∧ ∀ i m σ H, W i m σ H →
  (J.stop i H ∧ D.nx σ H) ∨ (J.go i H ∧ ∃ N : St → Hp → Prop, (∀ σ' H', N σ' H' → ∃ m', m' < m ∧ W (i + 1) m' σ' H') ∧ ∀ x H', J.yld i H x H' → g x σ H' fun σ2 H2 => tb { D with nx := N, ct := N, bk := D.nx } σ2 H2)
def pinsAt (fp : List Addr) (h : Heap) : List (Addr × Obj) := fp.filterMap fun b => (h.get? b).map fun o => (b, o)
theorem mem_pinsAt {fp : List Addr} {h : Heap} {b : Addr} {o : Obj} (hb : b ∈ fp) (e : h.get? b = some o) : (b, o) ∈ pinsAt fp h := List.mem_filterMap.mpr ⟨b, hb, by rw [e]; rfl⟩
theorem of_pinsAt {fp : List Addr} {h : Heap} {p : Addr × Obj} (hp : p ∈ pinsAt fp h) : p.1 ∈ fp ∧ h.get? p.1 = some p.2 := by
  obtain ⟨b, hb, e⟩ := List.mem_filterMap.mp hp
  cases q : h.get? b with
  | none => rw [q] at e; cases e
  | some o =>
    rw [q] at e
    have e' : (b, o) = p := Option.some.inj e
    subst e'
    exact ⟨hb, q⟩
theorem Inv.pinned {pins : List (Addr × Obj)} {σ : St} {H : Hp} {s : Shared} {fp : List Addr} (I : Inv X pins σ H s) (hf : ∀ b ∈ fp, FpOk X pins H b) (ho : ∀ b ∈ fp, ∃ o, s.heap.get? b = some o ∧ ∀ v, o.data ≠ .cell v) : Inv X (pins ++ pinsAt fp s.heap) σ H s :=
  I.pins_of fun p hp => (List.mem_append.mp hp).elim (fun z => I.pin p (List.mem_append_right _ z)) fun z => by
    obtain ⟨hb, e⟩ := of_pinsAt z
    obtain ⟨f0, f1, f2, _⟩ := hf p.1 hb
    obtain ⟨o, e', d⟩ := ho p.1 hb
    rw [e] at e'; cases e'
    exact ⟨e, f0, f1, f2, d⟩
theorem Inv.unpinned {pins pl : List (Addr × Obj)} {σ : St} {H : Hp} {s : Shared} (I : Inv X (pins ++ pl) σ H s) : Inv X pins σ H s := I.pins_of fun p hp => I.pin p (List.mem_append_right _ (List.mem_append_left _ hp))
theorem ps_for {iter : Expr} {body : List Stmt} {wi : TI} {g : TG} {tb : TS} {pos : Pos} (hp : PassesOwn (model X.prog X.w) X.A X.env X.xe) (hc : X.calm = true) (hi : PI X tg iter wi) (hg : PG X tg g) (hb : PSs X body tb)
    (hs : ∀ x, foldedSetIterable iter X.env x = pure x := by intro _; rfl) : PS X (.For tg iter body [] pos) (tFor wi g tb) := by
  intro pins s σ H D I h
  refine wpAny_For (thn (hi pins s σ H _ I h) fun v s1 h1 => thn h1 fun itv s2 h2 => ?_) hs
  obtain ⟨it, fp, tn, J, H2, e, I2, T, st2, f2, W, ⟨m0, w0⟩, turn⟩ := h2
  subst e
  have stat : ∀ {H' : Hp}, (∀ b ∈ fp, H' b = none) → ∀ b ∈ fp, FpOk X pins H' b := fun hn b hb => ⟨hn b hb, (f2 b hb).2⟩
  refine codeAny_forLoop_any (fun n s' => ∃ i σ' H', Inv X pins σ' H' s' ∧ tn i s'.heap ∧ (∀ b ∈ fp, H' b = none) ∧ W i n σ' H') ?_ m0 ⟨0, σ, H2, I2, st2, fun b hb => (f2 b hb).1, w0⟩
  rintro n s3 ⟨i, σ3, H3, I3, st3, fr3, w3⟩
  rcases turn i n σ3 H3 w3 with ⟨stop, qn⟩ | ⟨go, N, hN, step⟩
  · refine wpAny_passesOwn hp (thn (T.done X rfl rfl rfl hc i pins s3 σ3 H3 X.xe I3 (stat fr3) st3 stop) fun r s4 ⟨hr, I4⟩ => ?_)
    subst hr
    exact wpAny_execs_nil ⟨σ3, H3, I4, qn⟩
  · refine wpAny_passesOwn hp (thn (T.item X rfl rfl rfl hc i pins s3 σ3 H3 X.xe I3 (stat fr3) st3 go) fun r s4 ⟨u, hr, h4⟩ => ?_)
    subst hr
    refine wpAny_passesOwn hp (thn h4 fun _ s5 ⟨x, H5, I5, r5, y5, st5, fr5⟩ => ?_)
    have I5' := I5.pinned (stat fr5) (T.obj _ _ st5)
    refine wpAny_passesOwn hp (thn (hg _ s5 σ3 H5 x u _ I5' r5 (step x H5 y5)) fun _ s6 ⟨σ6, H6, I6, q6⟩ => ?_)
    refine wpAny_passesOwn hp (thn (hb _ s6 σ6 H6 _ I6 q6) fun f s7 q7 => ?_)
    have again : ∀ {σ7 : St} {H7 : Hp}, Inv X (pins ++ pinsAt fp s5.heap) σ7 H7 s7 → N σ7 H7 → ∃ m, m < n ∧ ∃ i σ' H', Inv X pins σ' H' s7 ∧ tn i s7.heap ∧ (∀ b ∈ fp, H' b = none) ∧ W i m σ' H' := fun {σ7 H7} I7 n7 => by
      obtain ⟨m', hm, w7⟩ := hN σ7 H7 n7
      refine ⟨m', hm, i + 1, σ7, H7, I7.unpinned, T.keep _ _ _ st5 fun b hb o e => (I7.pin (b, o) (List.mem_append_right _ (List.mem_append_right _ (mem_pinsAt hb e)))).1, fun b hb => ?_, w7⟩
      obtain ⟨o, e, d⟩ := T.obj _ _ st5 b hb
      exact (I7.pin (b, o) (List.mem_append_right _ (List.mem_append_right _ (mem_pinsAt hb e)))).2.1
    cases f with
    | next => obtain ⟨σ7, H7, I7, n7⟩ := q7; exact again I7 n7
    | cont => obtain ⟨σ7, H7, I7, n7⟩ := q7; exact again I7 n7
    | brk => obtain ⟨σ7, H7, I7, q7⟩ := q7; exact ⟨σ7, H7, I7.unpinned, q7⟩
    | ret v => obtain ⟨x7, σ7, H7, I7, r7, q7⟩ := q7; exact ⟨x7, σ7, H7, I7.unpinned, r7, q7⟩
end
end L2
namespace L2
open PySem PySem.Spec PyProof.Rows
abbrev R2 := V → V → Hp → VK → Prop
def OpR (X : Cx) (f : Value → Value → Sem Value) (r : R2) : Prop :=
  ∀ (pins : List (Addr × Obj)) (s : Shared) (σ : St) (H : Hp) (x y : V) (v u : Value) (Q : VK), Inv X pins σ H s → RelV x v → RelV y u → r x y H Q →
    wpAny (model X.prog X.w) X.A (f v u) (EP X pins σ Q) X.xe s
def UnR (X : Cx) (f : Value → Sem Value) (r : V → Hp → VK → Prop) : Prop :=
  ∀ (pins : List (Addr × Obj)) (s : Shared) (σ : St) (H : Hp) (x : V) (v : Value) (Q : VK), Inv X pins σ H s → RelV x v → r x H Q →
    wpAny (model X.prog X.w) X.A (f v) (EP X pins σ Q) X.xe s
def CallR (X : Cx) (f : Value) (r : List V → Hp → VK → Prop) : Prop :=
  ∀ (pins : List (Addr × Obj)) (s : Shared) (σ : St) (H : Hp) (xs : List V) (us : List Value) (Q : VK), Inv X pins σ H s → Vals xs us → r xs H Q →
    wpAny (model X.prog X.w) X.A (call f us) (EP X pins σ Q) X.xe s
def TruR (X : Cx) (r : V → Hp → (Bool → Hp → Prop) → Prop) : Prop :=
  ∀ (pins : List (Addr × Obj)) (s : Shared) (σ : St) (H : Hp) (x : V) (v : Value) (Q : Bool → Hp → Prop), Inv X pins σ H s → RelV x v → r x H Q →
    wpAny (model X.prog X.w) X.A (truthy v) (TP X pins σ Q) X.xe s
def tOp (r : R2) (ta tb : TE) : TE := fun σ H Q => ta σ H fun x H1 => tb σ H1 fun y H2 => r x y H2 Q
def tUn (r : V → Hp → VK → Prop) (ta : TE) : TE := fun σ H Q => ta σ H fun x H1 => r x H1 Q
def rI (C : Int → Int → Prop) (g : Int → Int → V) : R2 := fun x y H Q => ∃ i j, x = .int i ∧ y = .int j ∧ C i j ∧ Q (g i j) H
def rI0 (g : Int → Int → V) : R2 := fun x y H Q => ∃ i j, x = .int i ∧ y = .int j ∧ Q (g i j) H
def rU (g : Int → V) : V → Hp → VK → Prop := fun x H Q => ∃ i, x = .int i ∧ Q (g i) H
section
variable {X : Cx} {a b c : Expr} {ta tb tc : TE} {pos : Pos}
theorem binT (ha : PE X a ta) (hb : PE X b tb) {pins : List (Addr × Obj)} {s : Shared} {σ : St} {H : Hp} {R : V → V → Hp → Prop} (I : Inv X pins σ H s)
    (h : ta σ H fun x H1 => tb σ H1 fun y H2 => R x y H2) {Q : Value → Shared → Prop} {f : Value → Value → Sem Value}
    (hf : ∀ v u s2 x y H2, Inv X pins σ H2 s2 → RelV x v → RelV y u → R x y H2 → wpAny (model X.prog X.w) X.A (f v u) Q X.xe s2) :
    wpAny (model X.prog X.w) X.A (eval a X.env) (fun v s₁ => wpAny (model X.prog X.w) X.A (eval b X.env) (fun u s₂ => wpAny (model X.prog X.w) X.A (f v u) Q X.xe s₂) X.xe s₁) X.xe s := by
  refine thn (ha pins s σ H _ I h) fun v s1 ⟨x, H1, I1, r1, q1⟩ => ?_
  refine thn (hb pins s1 σ H1 _ I1 q1) fun u s2 ⟨y, H2, I2, r2, q2⟩ => ?_
  exact hf v u s2 x y H2 I2 r1 r2 q2
theorem pe_op {op : Operator} {r : R2} (ho : OpR X (binaryOp op) r) (ha : PE X a ta) (hb : PE X b tb) : PE X (.BinOp a op b pos) (tOp r ta tb) := by
  intro pins s σ H Q I h
  exact wpAny_BinOp (binT ha hb I h fun v u s2 x y H2 I2 rx ry q => ho pins s2 σ H2 x y v u Q I2 rx ry q)
theorem pe_un {op : UnaryOp} {r : V → Hp → VK → Prop} (ho : UnR X (unaryOp op) r) (ha : PE X a ta) : PE X (.UnaryOp op a pos) (tUn r ta) := by
  intro pins s σ H Q I h
  exact UnaryOp_ (thn (ha pins s σ H _ I h) fun v s1 ⟨x, H1, I1, r1, q1⟩ => ho pins s1 σ H1 x v Q I1 r1 q1)
theorem opI {f : Value → Value → Sem Value} {C : Int → Int → Prop} {g : Int → Int → Int}
    (rule : ∀ (i j : Int) (t u : Tok) (s : Shared) (Q : Value → Shared → Prop) (E : Value → Shared → Prop), C i j → Q (.int (g i j) s.toks) { s with toks := s.toks + 1 } → wpAny (model X.prog X.w) X.A (f (.int i t) (.int j u)) Q E s) :
    OpR X f (rI C fun i j => .int (g i j)) := by
  intro pins s σ H x y v u Q I rx ry h
  obtain ⟨i, j, rfl, rfl, hc, q⟩ := h
  obtain ⟨t, rfl⟩ := rx
  obtain ⟨t', rfl⟩ := ry
  exact rule i j t t' s _ _ hc ⟨.int (g i j), H, I.tok _, ⟨_, rfl⟩, q⟩
theorem opI0 {f : Value → Value → Sem Value} {g : Int → Int → Int}
    (rule : ∀ (i j : Int) (t u : Tok) (s : Shared) (Q : Value → Shared → Prop) (E : Value → Shared → Prop), Q (.int (g i j) s.toks) { s with toks := s.toks + 1 } → wpAny (model X.prog X.w) X.A (f (.int i t) (.int j u)) Q E s) :
    OpR X f (rI0 fun i j => .int (g i j)) := by
  intro pins s σ H x y v u Q I rx ry h
  obtain ⟨i, j, rfl, rfl, q⟩ := h
  obtain ⟨t, rfl⟩ := rx
  obtain ⟨t', rfl⟩ := ry
  exact rule i j t t' s _ _ ⟨.int (g i j), H, I.tok _, ⟨_, rfl⟩, q⟩
theorem opB0 {f : Value → Value → Sem Value} {g : Int → Int → Bool}
    (rule : ∀ (i j : Int) (t u : Tok) (s : Shared) (Q : Value → Shared → Prop) (E : Value → Shared → Prop), Q (.bool (g i j)) s → wpAny (model X.prog X.w) X.A (f (.int i t) (.int j u)) Q E s) :
    OpR X f (rI0 fun i j => .bl (g i j)) := by
  intro pins s σ H x y v u Q I rx ry h
  obtain ⟨i, j, rfl, rfl, q⟩ := h
  obtain ⟨t, rfl⟩ := rx
  obtain ⟨t', rfl⟩ := ry
  exact rule i j t t' s _ _ ⟨.bl (g i j), H, I, rfl, q⟩
def CPow (i j : Int) : Prop := 0 ≤ j ∧ j ≤ 1000000 ∧ i.natAbs < 2 ^ 64
def CMul (i j : Int) : Prop := (-(2 ^ 64) < i ∧ i < 2 ^ 64) ∨ (-(2 ^ 64) < j ∧ j < 2 ^ 64)
theorem CMul.ok {i j : Int} (h : CMul i j) : IntMulOk i j := by
  rcases h with ⟨h1, h2⟩ | ⟨h1, h2⟩
  · exact .of_left (intBits_le_64 h1 h2)
  · exact .of_right (intBits_le_64 h1 h2)
theorem op_add : OpR X (binaryOp .Add) (rI0 fun i j => .int (i + j)) := opI0 fun _ _ _ _ _ _ _ q => add_int q
theorem op_sub : OpR X (binaryOp .Sub) (rI0 fun i j => .int (i - j)) := opI0 fun _ _ _ _ _ _ _ q => sub_int q
theorem op_modN : OpR X (binaryOp .Mod) (rI (fun _ j => j ≠ 0) fun i j => .int (i.fmod j)) := opI fun _ _ _ _ _ _ _ hc q => mod_int' hc q
theorem op_pow : OpR X (binaryOp .Pow) (rI CPow fun i j => .int (i ^ j.toNat)) := opI fun _ _ _ _ _ _ _ hc q => pow_int_small hc.1 hc.2.1 hc.2.2 q
theorem unI {f : Value → Sem Value} {g : Int → Int}
    (rule : ∀ (i : Int) (t : Tok) (s : Shared) (Q : Value → Shared → Prop) (E : Value → Shared → Prop), Q (.int (g i) s.toks) { s with toks := s.toks + 1 } → wpAny (model X.prog X.w) X.A (f (.int i t)) Q E s) :
    UnR X f (rU fun i => .int (g i)) := by
  intro pins s σ H x v Q I rx h
  obtain ⟨i, rfl, q⟩ := h
  obtain ⟨t, rfl⟩ := rx
  exact rule i t s _ _ ⟨.int (g i), H, I.tok _, ⟨_, rfl⟩, q⟩
theorem un_neg : UnR X (unaryOp .USub) (rU fun i => .int (-i)) := unI fun _ _ _ _ _ q => neg_int q
end
section
variable {X : Cx} {a b c : Expr} {ta tb tc : TE} {pos : Pos}
theorem op_lt : OpR X (compareOp .Lt) (rI0 fun i j => .bl (decide (i < j))) := opB0 fun _ _ _ _ _ _ _ q => lt_int q
theorem op_le : OpR X (compareOp .LtE) (rI0 fun i j => .bl (decide (i ≤ j))) := opB0 fun _ _ _ _ _ _ _ q => le_int q
theorem op_gt : OpR X (compareOp .Gt) (rI0 fun i j => .bl (decide (j < i))) := opB0 fun _ _ _ _ _ _ _ q => gt_int q
theorem op_ge : OpR X (compareOp .GtE) (rI0 fun i j => .bl (decide (j ≤ i))) := opB0 fun _ _ _ _ _ _ _ q => ge_int q
def isObj : HO → Bool
  | .lst _ => true
  | .ins _ _ _ => true
  | _ => false
theorem obj_there {pins : List (Addr × Obj)} {s : Shared} {σ : St} {H : Hp} {a : Addr} {o : HO} (I : Inv X pins σ H s) (h : H a = some o) (p : isObj o = true) : ∃ ob, s.heap.get? a = some ob ∧ ob.cls ≠ .type "tuple" := by
  cases o with
  | lst xs =>
    obtain ⟨_, its, n, _, e⟩ : xs.length ≤ sizeLine ∧ ∃ (its : List Value) (n : Nat), Vals xs its ∧ s.heap.get? a = some { cls := .type "list", data := .seq its.toArray n } := I.hok a _ h
    exact ⟨_, e, (by show Value.type "list" ≠ .type "tuple"; decide +kernel)⟩
  | ins C dx fs =>
    have x := I.hok a _ h
    obtain ⟨_, _, _, e, _⟩ := x
    exact ⟨_, e, (by show Value.ref C ≠ .type "tuple"; exact fun z => by cases z)⟩
  | _ => exact absurd (show false = true from p) Bool.false_ne_true
theorem pe_cmpR {op : CmpOp} {r : R2} (ho : OpR X (compareOp op) r) (ha : PE X a ta) (hb : PE X b tb) (hm : behindInMarks op b = false) : PE X (.Compare a [op] [b] pos) (tOp r ta tb) := by
  intro pins s σ H Q I h
  exact wpAny_Compare1 (binT ha hb I h fun v u s2 x y H2 I2 rx ry q => ho pins s2 σ H2 x y v u Q I2 rx ry q) hm
def tTest (t : TE) : TT := fun σ H Q => t σ H fun x H' => ∃ k, x = .bl k ∧ Q k H'
theorem pt_cmpR {op : CmpOp} {r : R2} (ho : OpR X (compareOp op) r) (ha : PE X a ta) (hb : PE X b tb) (hm : behindInMarks op b = false) : PT X (.Compare a [op] [b] pos) (tTest (tOp r ta tb)) := by
  intro pins s σ H Q I h
  refine wpAny_isTrue_Compare1 (thn (ha pins s σ H _ I h) fun v s1 ⟨x, H1, I1, r1, q1⟩ => thn (hb pins s1 σ H1 _ I1 q1) fun u s2 ⟨y, H2, I2, r2, q2⟩ =>
    thn (ho pins s2 σ H2 x y v u _ I2 r1 r2 q2) fun c s3 ⟨z, H3, I3, r3, k, e, q3⟩ => ?_) hm
  subst e
  cases r3
  exact wpAny_truthy_bool ⟨H3, I3, q3⟩
def tChain (r r' : R2) (ta tb tc : TE) : TE := fun σ H Q => ta σ H fun x H1 => tb σ H1 fun y H2 => r x y H2 fun z H3 => ∃ k, z = .bl k ∧
  (if k = true then tc σ H3 fun w' H4 => r' y w' H4 Q else Q (.bl false) H3)
theorem pe_chain {op op' : CmpOp} {r r' : R2} (ho : OpR X (compareOp op) r) (ho' : OpR X (compareOp op') r') (ha : PE X a ta) (hb : PE X b tb) (hc : PE X c tc)
    (hm : lastMarks [op, op'] [b, c] = false := by with_unfolding_all rfl) : PE X (.Compare a [op, op'] [b, c] pos) (tChain r r' ta tb tc) := by
  intro pins s σ H Q I h
  refine Compare_chain (thn (ha pins s σ H _ I h) fun v s1 ⟨x, H1, I1, r1, q1⟩ => chain_link (thn (hb pins s1 σ H1 _ I1 q1) fun u s2 ⟨y, H2, I2, r2, q2⟩ =>
    thn (ho pins s2 σ H2 x y v u _ I2 r1 r2 q2) fun d s3 ⟨z, H3, I3, r3, k, e, q3⟩ => ?_)) hm
  subst e
  cases r3
  refine wpAny_truthy_bool ?_
  cases k with
  | false => exact ite_ff ⟨.bl false, H3, I3, rfl, q3⟩
  | true => exact ite_tt (chain_last (thn (hc pins s3 σ H3 _ I3 q3) fun w' s4 ⟨z', H4, I4, r4, q4⟩ => ho' pins s4 σ H4 y z' u w' Q I4 r2 r4 q4))
def TruV (K : PySem.W.Frag) (x : V) (H : Hp) (k : Bool) : Prop :=
  match x with
  | .non => k = false
  | .bl b => k = b
  | .int i => k = (i != 0)
  | .str y => y.length ≤ sizeLine ∧ k = ((y.length : Int) != 0)
  | .byt y => y.size ≤ sizeLine ∧ k = ((y.size : Int) != 0)
  | .ref p => (∃ xs, SqL K H p xs ∧ k = !xs.isEmpty) ∨ (∃ xs, SqT K H p xs ∧ k = !xs.isEmpty) ∨ ∃ kvs, H p = some (.dK kvs) ∧ k = !kvs.isEmpty
  | _ => False
theorem isEmpty_kv {κ : Type} {kvs : List (κ × V)} {vs : List (κ × Value)} (r : KV kvs vs) : (!vs.isEmpty) = !kvs.isEmpty := by
  cases r <;> rfl
theorem isEmpty_of {xs : List V} {its : List Value} (r : Vals xs its) : (!its.toArray.isEmpty) = !xs.isEmpty := by
  cases r <;> simp
theorem line63 : (sizeLine : Nat) < 2 ^ 63 := by rw [sizeLine_eq]; decide
theorem tru_ok : TruR X (fun x H Q => ∃ k, TruV X.K x H k ∧ Q k H) := by
  intro pins s σ H x v Q I rx h
  obtain ⟨k, e, q⟩ := h
  have hl := line63
  have hs : sizeLine = 16777216 := sizeLine_eq
  cases x with
  | non =>
    cases rx
    have e' : k = false := e
    subst e'
    exact truthy_none ⟨H, I, q⟩
  | bl b =>
    cases rx
    have e' : k = b := e
    subst e'
    exact wpAny_truthy_bool ⟨H, I, q⟩
  | int i =>
    obtain ⟨t, rfl⟩ := rx
    have e' : k = (i != 0) := e
    subst e'
    exact PySem.P.truthy_int ⟨H, I, q⟩
  | str y =>
    obtain ⟨t, rfl⟩ := rx
    obtain ⟨hy, e'⟩ : y.length ≤ sizeLine ∧ k = ((y.length : Int) != 0) := e
    subst e'
    exact PySem.P.truthy_str (by omega) ⟨H, I.tok _, q⟩
  | byt y =>
    obtain ⟨t, rfl⟩ := rx
    obtain ⟨hy, e'⟩ : y.size ≤ sizeLine ∧ k = ((y.size : Int) != 0) := e
    subst e'
    exact PySem.W.truthy_bytes (by omega) ⟨H, I.tok _, q⟩
  | ref p =>
    cases rx
    have e' : (∃ xs, SqL X.K H p xs ∧ k = !xs.isEmpty) ∨ (∃ xs, SqT X.K H p xs ∧ k = !xs.isEmpty) ∨ ∃ kvs, H p = some (.dK kvs) ∧ k = !kvs.isEmpty := e
    rcases e' with ⟨xs, hx, e'⟩ | ⟨xs, hx, e'⟩ | ⟨kvs, hx, e'⟩
    · subst e'
      obtain ⟨its, r, pl, hz⟩ := I.list hx
      have hlen := r.length
      exact wpAny_truthy_list pl.isList (by simp only [List.size_toArray]; omega) ⟨H, I.tok _, by rw [isEmpty_of r]; exact q⟩
    · subst e'
      obtain ⟨its, r, pl, hz⟩ := I.tuple hx
      have hlen := r.length
      exact truthy_tuple pl (by simp only [List.size_toArray]; omega) ⟨H, I.tok _, by rw [isEmpty_of r]; exact q⟩
    · subst e'
      obtain ⟨hz, hS, vs, r, m⟩ : kvs.length ≤ sizeLine ∧ (p == sysModules) = false ∧ ∃ vs, KV kvs vs ∧ s.heap.DictOf (mixKind X.prog X.w) p vs := I.hok p _ hx
      have hlen : kvs.length = vs.length := Paired.length r
      exact wpAny_truthy_dict hS m (by omega) ⟨H, I.tok _, by rw [isEmpty_kv r]; exact q⟩
  | _ => exact (show False from e).elim
theorem pt_truth (ha : PE X a ta) (he : ∀ whole, isTrue a X.env whole = (do let v ← whole; standAt a.pos; holding [v] (truthy v))) :
    PT X a (fun σ H Q => ta σ H fun x H' => ∃ k, TruV X.K x H' k ∧ Q k H') := by
  intro pins s σ H Q I h
  exact isTrue_plain (thn (ha pins s σ H _ I h) fun v s1 ⟨x, H1, I1, r1, q1⟩ => tru_ok pins s1 σ H1 x v Q I1 r1 q1) (he _)
theorem vals1 {x : V} {us : List Value} (r : Vals [x] us) : ∃ u, us = [u] ∧ RelV x u := by
  cases r with
  | cons r1 r2 => cases r2; exact ⟨_, rfl, r1⟩
theorem vals2 {x y : V} {us : List Value} (r : Vals [x, y] us) : ∃ u w', us = [u, w'] ∧ RelV x u ∧ RelV y w' := by
  cases r with
  | cons r1 r2 =>
    cases r2 with
    | cons r3 r4 => cases r4; exact ⟨_, _, rfl, r1, r3⟩
theorem call_abs : CallR X (.builtin "abs") (fun xs H Q => ∃ i, xs = [.int i] ∧ Q (.int (if i < 0 then -i else i)) H) := by
  intro pins s σ H xs us Q I r h
  obtain ⟨i, rfl, q⟩ := h
  obtain ⟨u, rfl, t, rfl⟩ := vals1 r
  exact call_abs_int fun u tk => ⟨.int (if i < 0 then -i else i), H, I.tok _, ⟨_, rfl⟩, q⟩
end
end L2
namespace L2
open PySem PySem.Spec PyProof.Rows
structure ObjM (h : Heap) (x dx C : Addr) (mA : Str → Option Value) : Prop where
  obj : h.get? x = some (PySem.W.instObj C dx)
  ns : h.Ns1 dx mA
  ne : dx ≠ x
theorem lookIn_ns {h : Heap} {dx : Addr} {mA : Str → Option Value} (n : h.Ns1 dx mA) : ∃ od, h.get? dx = some od ∧ ∀ name, PySem.W.lookIn name od = some (mA name) := by
  obtain ⟨o, es, ep, ho, hd, hk, _, hm⟩ := n
  refine ⟨o, ho, fun name => ?_⟩
  have e := hm name
  unfold nsFind findBy at e
  rw [← Array.find?_toList] at e
  unfold PySem.W.lookIn
  rw [hd]
  dsimp only
  split
  · rename_i y q
    rw [q] at e
    exact congrArg some e
  · rename_i q
    rw [q] at e
    have a : es.toList.any (·.refKey) = false := by
      rw [List.any_eq_false]
      intro y hy
      obtain ⟨z, t, hkey⟩ := hk y (Array.mem_toList_iff.mp hy)
      simp [DictEntry.refKey, hkey]
    have a' : ¬ es.toList.any (·.refKey) = true := by rw [a]; exact Bool.false_ne_true
    rw [if_neg a']
    exact congrArg some e
theorem ObjM.look {h : Heap} {x dx C : Addr} {mA : Str → Option Value} (I : ObjM h x dx C mA) : ∃ od, PySem.W.InstAt h x (PySem.W.instObj C dx) C (some od) ∧ ∀ name, PySem.W.lookIn name od = some (mA name) :=
  let ⟨od, ho, hl⟩ := lookIn_ns I.ns
  ⟨od, ⟨I.obj, rfl, rfl, ho⟩, hl⟩
section
variable {prog : Program} {w : World} {A : Around} {E : Value → Shared → Prop} {s : Shared} {K : PySem.W.Frag} {x dx C f : Addr} {mA : Str → Option Value} {name : Str} {v : Value}
theorem get_map {expr : Bool} {Q : Value → Shared → Prop} (X : K.In s.heap) (I : ObjM s.heap x dx C mA) (hg : PySem.W.plainGet K C name = true) (hh : PySem.W.hasDictIn K C = true)
    (ha : PySem.W.findIn K (.ref C) name = some none) (hv : mA name = some v) (hv' : PySem.W.handedIn v = true) (h : Q v { s with toks := s.toks + 1 }) :
    wpAny (model prog w) A (getAttr (.ref x) name expr) Q E s := by
  obtain ⟨od, J, hl⟩ := I.look
  exact PySem.W.get_value X J (PySem.W.plainGet_of hg).1 (PySem.W.findObj_own hh ha rfl (by rw [hl, hv])) hv' h
theorem get_meth {pl : Sem Bool} {Q : Value × List Value → Shared → Prop} (X : K.In s.heap) (I : ObjM s.heap x dx C mA) (hg : PySem.W.plainGet K C name = true)
    (hf : PySem.W.findIn K (.ref C) name = some (some (.ref f))) (ht : PySem.W.isFn K (.ref f) = true) (hv : mA name = none) (h : Q (.ref f, [.ref x]) s) :
    wpAny (model prog w) A (getMethod (.ref x) name pl) Q E s := by
  obtain ⟨od, J, hl⟩ := I.look
  exact PySem.W.method_fn X J (PySem.W.plainGet_of hg).1 (PySem.W.plainGet_of hg).2 hf (beq_iff_eq.mp ht) (by show (PySem.W.lookIn name od).map (·.isSome) = some false; rw [hl, hv]; rfl) h
theorem set_map {ns : List Str} {Q : Unit → Shared → Prop} (X : K.In s.heap) (I : ObjM s.heap x dx C mA)
    (hs : PySem.W.findIn K (.ref C) "__setattr__" = some (some (.builtin "object.__setattr__"))) (hp : PySem.W.plainOver K C = true) (ht : PySem.W.takerIn K C name = some none) (hh : PySem.W.hasDictIn K C = true)
    (hw : PySem.Within mA ns) (hsz : ns.length ≤ sizeLine)
    (h : ∀ h', ObjM h' x dx C (fun y => if y = name then some v else mA y) → Heap.SameBut dx s.heap h' → Q () { s with heap := h', toks := s.toks + 2 }) :
    wpAny (model prog w) A (setAttr (.ref x) name v) Q E s := by
  obtain ⟨od, J, hl⟩ := I.look
  refine PySem.W.set_plain X J hs (PySem.W.osa_open (s := { s with toks := s.toks + 1 }) (r := none) X J hp ht fun b => ?_)
  obtain ⟨cd, hc, hd'⟩ := PySem.W.any_some hh
  have hx : s.heap.get? x = some ⟨.ref C, some dx, .plain, #[]⟩ := I.obj
  refine wpAny_bind (wpAny_pure (wpAny_bind (wpAny_bind (wpAny_loadPart hx (wpAny_bind (PySem.W.Looks.here (s := { s with toks := s.toks + 1 }) (PySem.W.looks_clsIn X hc) ?_))))))
  rw [hd']
  refine wpAny_pure (a := some dx) (wpAny_bind (wpAny_pure (wpAny_bind ?_)))
  refine wpAny_nsSet1 (s := { s with toks := s.toks + 1 }) I.ns fun h' hn2 hs2 => ?_
  obtain ⟨oD, esD, epD, hoD, hdD, hcD⟩ := hn2.count (PySem.Within.cons name v hw)
  refine wpAny_bind (wpAny_lookBehind hoD (by rw [hdD]; exact pastItsLine_dict (Nat.le_trans hcD (by rw [List.length_cons]; omega))) ?_)
  exact wpAny_pure (h _ ⟨(hs2.2 _ (Ne.symm I.ne)).trans I.obj, hn2, I.ne⟩ hs2)
theorem make_map {R : Result → Shared → Prop} {vs : List Value} {kw : List (Str × Value)} (X : K.In s.heap) (hm : PySem.W.makesIn K C = true)
    (hi : PySem.W.findIn K (.ref C) "__init__" = some (some (.ref f))) (hf : PySem.W.typeIn K (.ref f) = some (.type "function"))
    (h : codeAny (model prog w) (A.under (.builtin "type.__call__" ⟨.ref C :: vs, kw⟩)) (.call (.ref f) ⟨.ref (s.heap.objs.size + 1) :: vs, kw⟩) (PySem.W.InitBack (s.heap.objs.size + 1) R)
      { s with heap := (s.heap.push PySem.W.emptyDict).push (PySem.W.instObj C s.heap.objs.size) }) :
    codeAny (model prog w) A (.call (.ref C) ⟨vs, kw⟩) R s := by
  obtain ⟨hh, g, d, t, os⟩ := s
  exact PySem.W.make_core (PySem.W.makes_of X hm) (PySem.W.looks_findIn X hi) (fun self => PySem.W.bind_fn X self hf) (.inl rfl) h
end
def putF (f : Str) (v : V) : List (Str × V) → List (Str × V)
  | [] => [(f, v)]
  | (g, x) :: r => if g = f then (g, v) :: r else (g, x) :: putF f v r
theorem lookup_putF (f g : Str) (v : V) : ∀ fs : List (Str × V), (putF f v fs).lookup g = if g = f then some v else fs.lookup g
  | [] => by
    show List.lookup g [(f, v)] = _
    by_cases h : g = f
    · have hb : (g == f) = true := beq_iff_eq.mpr h
      simp only [List.lookup, hb, if_pos h]
    · have hb : (g == f) = false := beq_eq_false_iff_ne.mpr h
      simp only [List.lookup, hb, if_neg h]
  | (k, x) :: r => by
    have ih := lookup_putF f g v r
    rw [show putF f v ((k, x) :: r) = (if k = f then (k, v) :: r else (k, x) :: putF f v r) from rfl]
    by_cases hk : k = f
    · rw [if_pos hk]
      by_cases h : g = k
      · have hb : (g == k) = true := beq_iff_eq.mpr h
        simp only [List.lookup, hb, if_pos (h.trans hk)]
      · have hb : (g == k) = false := beq_eq_false_iff_ne.mpr h
        simp only [List.lookup, hb, if_neg (fun e : g = f => h (e.trans hk.symm))]
    · rw [if_neg hk]
      by_cases h : g = k
      · have hb : (g == k) = true := beq_iff_eq.mpr h
        simp only [List.lookup, hb, if_neg (fun e : g = f => hk (h.symm.trans e))]
      · have hb : (g == k) = false := beq_eq_false_iff_ne.mpr h
        simp only [List.lookup, hb]
        exact ih
theorem keys_putF (f : Str) (v : V) : ∀ fs : List (Str × V), f ∈ (putF f v fs).map (·.1) ∧ ∀ g, g ∈ fs.map (·.1) → g ∈ (putF f v fs).map (·.1)
  | [] => ⟨by simp [putF], fun g h => by simp at h⟩
  | (k, x) :: r => by
    obtain ⟨i1, i2⟩ := keys_putF f v r
    rw [show putF f v ((k, x) :: r) = (if k = f then (k, v) :: r else (k, x) :: putF f v r) from rfl]
    by_cases hk : k = f
    · rw [if_pos hk]
      subst hk
      exact ⟨by simp, fun g h => by simpa using h⟩
    · rw [if_neg hk]
      refine ⟨?_, fun g h => ?_⟩
      · rw [List.map_cons]
        exact List.mem_cons_of_mem _ i1
      · rw [List.map_cons] at h ⊢
        rcases List.mem_cons.mp h with e | e
        · exact List.mem_cons.mpr (.inl e)
        · exact List.mem_cons_of_mem _ (i2 g e)
theorem length_putF (f : Str) (v : V) : ∀ fs : List (Str × V), (putF f v fs).length ≤ fs.length + 1
  | [] => by simp [putF]
  | (k, x) :: r => by
    have ih := length_putF f v r
    rw [show putF f v ((k, x) :: r) = (if k = f then (k, v) :: r else (k, x) :: putF f v r) from rfl]
    by_cases hk : k = f
    · rw [if_pos hk, List.length_cons, List.length_cons]; omega
    · rw [if_neg hk, List.length_cons, List.length_cons]; omega
theorem RelO.some_of {v : V} {o : Option Value} (r : RelO (some v) o) : ∃ u, o = some u ∧ RelV v u := by
  cases o with
  | none => exact (show False from r).elim
  | some u => exact ⟨u, rfl, r⟩
theorem RelO.none_of {o : Option Value} (r : RelO none o) : o = none := by
  cases o with
  | none => rfl
  | some u => exact (show False from r).elim
theorem handed_of {v : V} {u : Value} (r : RelV v u) : PySem.W.handedIn u = true := by
  cases v with
  | non => cases (show u = Value.none from r); rfl
  | bl b => cases (show u = Value.bool b from r); rfl
  | int i => obtain ⟨t, e⟩ := (show ∃ t, u = Value.int i t from r); cases e; rfl
  | str x => obtain ⟨t, e⟩ := (show ∃ t, u = Value.str x t from r); cases e; rfl
  | byt b => obtain ⟨t, e⟩ := (show ∃ t, u = Value.bytes b t from r); cases e; rfl
  | flt b => obtain ⟨t, e⟩ := (show ∃ t, u = Value.float b t from r); cases e; rfl
  | ref a => cases (show u = Value.ref a from r); rfl
  | ty n => cases (show u = Value.type n from r); rfl
section
variable {P : Program} {w : World} {H H' : Hp} {h h' : Heap} {a C dx : Addr} {fs fs' : List (Str × V)}
theorem ins_get (hok : HOk P w H h) (e : H a = some (.ins C dx fs)) : ∃ mA, ObjM h a dx C mA ∧ (∀ f, RelO (fs.lookup f) (mA f)) ∧ PySem.Within mA (fs.map (·.1)) ∧ fs.length ≤ 1000 ∧ H dx = some (.own a) := by
  obtain ⟨d, z, ne, ob, mA, n, r, q⟩ := (show ObjOk P w H h a (.ins C dx fs) from hok a _ e)
  exact ⟨mA, ⟨ob, n, ne⟩, r, q, z, d⟩
end
structure Cls (K : PySem.W.Frag) (C : Addr) : Prop where
  pg : PySem.W.plainGet K C Str.empty = true
  hd : PySem.W.hasDictIn K C = true
  po : PySem.W.plainOver K C = true
  sa : PySem.W.findIn K (.ref C) "__setattr__" = some (some (.builtin "object.__setattr__"))
theorem Cls.get {K : PySem.W.Frag} {C : Addr} (c : Cls K C) (f : Str) : PySem.W.plainGet K C f = true := c.pg
def NoAttr (K : PySem.W.Frag) (C : Addr) (f : Str) : Prop := PySem.W.findIn K (.ref C) f = some none
theorem NoAttr.taker {K : PySem.W.Frag} {C : Addr} {f : Str} (n : NoAttr K C f) : PySem.W.takerIn K C f = some none := by
  unfold PySem.W.takerIn
  rw [show PySem.W.findIn K (.ref C) f = some none from n]
  rfl
structure Con (K : PySem.W.Frag) (C : Addr) (f : Str) (v : V) (u : Value) : Prop where
  at_ : PySem.W.findIn K (.ref C) f = some (some u)
  rel : RelV v u
  get : PySem.W.specialIn K u "__get__" = some none
  cp : PySem.W.copiedNames.contains f = false
structure Meth (K : PySem.W.Frag) (C : Addr) (m : Str) (f : Addr) : Prop where
  at_ : PySem.W.findIn K (.ref C) m = some (some (.ref f))
  fn : PySem.W.isFn K (.ref f) = true
  kp : PySem.W.keepIn K (.ref f) = true
section
variable {X : Cx} {pins : List (Addr × Obj)} {σ : St} {H : Hp} {s : Shared} {a C dx : Addr} {fs : List (Str × V)} {f : Str} {v : V} {A : Around} {E : Value → Shared → Prop}
theorem getattr_ok {b : Bool} {Q : Value → Shared → Prop} (I : Inv X pins σ H s) (e : H a = some (.ins C dx fs)) (c : Cls X.K C) (n : NoAttr X.K C f) (l : fs.lookup f = some v)
    (h : ∀ u s', Inv X pins σ H s' → RelV v u → Q u s') : wpAny (model X.prog X.w) A (getAttr (.ref a) f b) Q E s := by
  obtain ⟨mA, O, r, _, _, _⟩ := ins_get I.hok e
  obtain ⟨u, hu, ru⟩ := RelO.some_of (v := v) (o := mA f) (by rw [← l]; exact r f)
  exact get_map I.kIn O (c.get f) c.hd n hu (handed_of ru) (h u _ (I.tok _) ru)
theorem getmeth_ok {m : Str} {g : Addr} {pl : Sem Bool} {Q : Value × List Value → Shared → Prop} (I : Inv X pins σ H s) (e : H a = some (.ins C dx fs)) (c : Cls X.K C) (k : Meth X.K C m g) (l : fs.lookup m = none)
    (h : Q (.ref g, [.ref a]) s) : wpAny (model X.prog X.w) A (getMethod (.ref a) m pl) Q E s := by
  obtain ⟨mA, O, r, _, _, _⟩ := ins_get I.hok e
  have hn : mA m = none := RelO.none_of (by rw [← l]; exact r m)
  exact get_meth I.kIn O (c.get m) k.at_ k.fn hn h
theorem setattr_ok {y : V} {u : Value} {Q : Unit → Shared → Prop} (I : Inv X pins σ H s) (e : H a = some (.ins C dx fs)) (c : Cls X.K C) (n : NoAttr X.K C f) (hl : fs.length < 1000) (ry : RelV y u)
    (h : ∀ s', Inv X pins σ (upd H a (.ins C dx (putF f y fs))) s' → Q () s') : wpAny (model X.prog X.w) A (setAttr (.ref a) f u) Q E s := by
  obtain ⟨mA, O, r, wi, _, ho⟩ := ins_get I.hok e
  have hz : (fs.map (·.1)).length ≤ sizeLine := by rw [List.length_map, sizeLine_eq]; omega
  refine set_map I.kIn O c.sa c.po n.taker c.hd wi hz fun h' O' sb => h _ ?_
  have hd : ∃ o, h'.get? dx = some o := let ⟨o, _, _, e', _⟩ := O'.ns; ⟨o, e'⟩
  refine I.write (x := a) (e := dx) (by rw [e]; exact True.intro) (.inr ho) (fun b q hb z => (sb.2 b hb).trans z) hd ?_
  refine ⟨by rw [upd_ne O.ne]; exact ho, ?_, O.ne, O'.obj, _, O'.ns, fun g => ?_, fun g hg => ?_⟩
  · have := length_putF f y fs; omega
  · show RelO ((putF f y fs).lookup g) (if g = f then some u else mA g)
    rw [lookup_putF]
    by_cases q : g = f
    · rw [if_pos q, if_pos q]; exact ry
    · rw [if_neg q, if_neg q]; exact r g
  · by_cases q : g = f
    · rw [q]; exact (keys_putF f y fs).1
    · refine (keys_putF f y fs).2 g (wi g fun z => hg ?_)
      show (if g = f then some u else mA g) = none
      rw [if_neg q]; exact z
theorem Inv.made (I : Inv X pins σ H s) : Inv X pins σ (upd (upd H s.heap.objs.size (.own (s.heap.objs.size + 1))) (s.heap.objs.size + 1) (.ins C s.heap.objs.size []))
    { s with heap := (s.heap.push PySem.W.emptyDict).push (PySem.W.instObj C s.heap.objs.size) } := by
  have e1 : (s.heap.push PySem.W.emptyDict).get? s.heap.objs.size = some PySem.W.emptyDict := Heap.get?_push_size s.heap rfl
  have e2 : ((s.heap.push PySem.W.emptyDict).push (PySem.W.instObj C s.heap.objs.size)).get? (s.heap.objs.size + 1) = some (PySem.W.instObj C s.heap.objs.size) := by
    have := Heap.get?_push_size (s.heap.push PySem.W.emptyDict) (o := PySem.W.instObj C s.heap.objs.size) rfl
    rwa [Heap.size_push] at this
  have e3 : (s.heap.push PySem.W.emptyDict).Ns s.heap.objs.size (fun _ => none) := ⟨PySem.W.emptyDict, #[], _, e1, rfl, (fun e he => absurd he (by simp)), fun _ => rfl⟩
  have I1 := I.laid (a := s.heap.objs.size) (o := .own (s.heap.objs.size + 1)) (h' := s.heap.push PySem.W.emptyDict) (t' := s.toks) (fun b u q => Heap.get?_push_of_some _ q) (Nat.le_refl _) ⟨_, e1⟩
  refine I1.laid (a := s.heap.objs.size + 1) (o := .ins C s.heap.objs.size []) (t' := s.toks) (fun b u q => Heap.get?_push_of_some _ q) (Nat.le_of_eq (Heap.size_push _ _)) ?_
  have ne : s.heap.objs.size ≠ s.heap.objs.size + 1 := Nat.ne_of_lt (Nat.lt_succ_self _)
  refine ⟨by rw [upd_ne ne, upd_same], Nat.zero_le _, ne, e2, fun _ => none, (Heap.Ns1.of_empty e3).at fun o q => Heap.get?_push_of_some _ q, fun _ => True.intro, fun y hy => absurd rfl hy⟩
theorem attr_of {prog : Program} {w : World} {env : Env} {e : Expr} {f : Str} {pos : Pos} {s : Shared} {Q : Value → Shared → Prop} (hb : attributeBase e f env (eval e env) = eval e env)
    (h : wpAny (model prog w) A (eval e env) (fun o s₁ => wpAny (model prog w) A (getAttr o f true) Q E s₁) E s) : wpAny (model prog w) A (eval (.Attribute e f pos) env) Q E s :=
  Attribute_any_ h (by rw [arm_eval_Attribute, hb])
end
def tFld (K : PySem.W.Frag) (ta : TE) (f : Str) : TE := fun σ H Q => ta σ H fun x H1 => ∃ a C dx fs v, x = .ref a ∧ H1 a = some (.ins C dx fs) ∧ Cls K C ∧ NoAttr K C f ∧ fs.lookup f = some v ∧ Q v H1
def sFld (K : PySem.W.Frag) (ta tv : TE) (f : Str) : TS := fun D σ H => tv σ H fun y H1 => ta σ H1 fun x H2 => ∃ a C dx fs, x = .ref a ∧ H2 a = some (.ins C dx fs) ∧ Cls K C ∧ NoAttr K C f ∧ fs.length < 1000 ∧
  D.nx σ (upd H2 a (.ins C dx (putF f y fs)))
section
variable {X : Cx} {o e value : Expr} {f : Str} {pos pos' tpos : Pos} {ta tv : TE}
theorem pe_fld (he : PE X e ta) (hb : attributeBase e f X.env (eval e X.env) = eval e X.env) : PE X (.Attribute e f pos) (tFld X.K ta f) := by
  intro pins s σ H Q I h
  refine attr_of hb (thn (he pins s σ H _ I h) fun u s1 ⟨x, H1, I1, rx, a, C, dx, fs, v, ex, ea, c, n, l, q⟩ => ?_)
  subst ex
  obtain rfl : u = Value.ref a := rx
  exact getattr_ok I1 ea c n l fun u' s2 I2 ru => ⟨v, H1, I2, ru, q⟩
theorem ps_fld (ha : PE X o ta) (hv : PE X value tv) (hs : swapsWith value (some (.Attribute o f pos')) pos.line X.env = pure false) : PS X (.Assign [.Attribute o f pos'] value pos) (sFld X.K ta tv f) := by
  intro pins s σ H D I h
  refine plainObj_wpAny_Assign_Attribute (thn (hv pins s σ H _ I h) fun u s1 ⟨y, H1, I1, ry, q⟩ => thn (ha pins s1 σ H1 _ I1 q) fun ov s2 ⟨x, H2, I2, rx, a, C, dx, fs, ex, ea, c, n, l, q2⟩ => ?_) hs
  subst ex
  obtain rfl : ov = Value.ref a := rx
  exact setattr_ok I2 ea c n l ry fun s3 I3 => ⟨σ, _, I3, q2⟩
end
section
variable {X : Cx} {pins : List (Addr × Obj)} {σ : St} {H : Hp} {s : Shared} {A : Around} {E : Value → Shared → Prop} {Q : Value → Shared → Prop} {c : Value} {b : Bool}
inductive TyOf (K : PySem.W.Frag) (H : Hp) : V → Value → Prop where
  | non : TyOf K H .non (.type "NoneType")
  | bl (x : Bool) : TyOf K H (.bl x) (.type "bool")
  | int (i : Int) : TyOf K H (.int i) (.type "int")
  | str (x : Str) : TyOf K H (.str x) (.type "str")
  | flt (x : UInt64) : TyOf K H (.flt x) (.type "float")
  | lst {a : Addr} {xs : List V} (e : H a = some (.lst xs)) : TyOf K H (.ref a) (.type "list")
  | frz {a : Addr} {o : Obj} {xs : List V} (e : H a = some (.frz o (.lst xs))) : TyOf K H (.ref a) (.type "list")
  | tup {a : Addr} {xs : List V} (e : H a = some (.tup xs)) : TyOf K H (.ref a) (.type "tuple")
  | dK {a : Addr} {kvs : List (Key × V)} (e : H a = some (.dK kvs)) : TyOf K H (.ref a) (.type "dict")
  | dT {a : Addr} {kvs : List (List Key × V)} (e : H a = some (.dT kvs)) : TyOf K H (.ref a) (.type "dict")
  | ins {a C dx : Addr} {fs : List (Str × V)} (e : H a = some (.ins C dx fs)) (cl : Cls K C) (ha : PySem.W.findIn K (.ref C) "__class__" = some (some (.builtin "object.__class__")))
      (hn : PySem.W.specialIn K (.builtin "object.__class__") "__get__" = some (some (.builtin "getset_descriptor.__get__"))) (htk : PySem.W.takesIn K (.builtin "object.__class__") = some true)
      (hm : PySem.W.mroIn K C (.type "object") = some true) : TyOf K H (.ref a) (.ref C)
end
end L2
namespace L2
open PySem PySem.Spec PyProof.Rows
structure Room (k : Nat) (A : Around) : Prop where
  hd : A.handled = none
  dp : A.depth + 3 * k + 5 < recursionLimit
  un : A.units + 16 * k + 200 < cLine
theorem Room.mono {j k : Nat} {A : Around} (r : Room k A) (h : j ≤ k) : Room j A := ⟨r.hd, by have := r.dp; omega, by have := r.un; omega⟩
theorem Room.deeper {k : Nat} {A : Around} (r : Room (k + 1) A) (env : Env) : Room k (A.deeper env) :=
  ⟨r.hd, by have := r.dp; show A.depth + 1 + 3 * k + 5 < _; omega, by have := r.un; show A.units + 3 + 16 * k + 200 < _; omega⟩
theorem Room.in1 {k : Nat} {A : Around} (r : Room (k + 1) A) : Room k A.in1 :=
  ⟨r.hd, by have := r.dp; show A.depth + 3 * k + 5 < _; omega, by have := r.un; show A.units + 1 + 16 * k + 200 < _; omega⟩
theorem make_depth {A : Around} {C : Addr} {us : List Value} {kw : List (Str × Value)} : (A.under (.builtin "type.__call__" ⟨.ref C :: us, kw⟩)).depth = A.depth + 1 := by
  first | rfl | simp [Around.under, Code.weight, Code.isCreation, Code.isGuard, Code.isCaller, Code.frames, Code.isFrame, guardIds]
theorem make_units {A : Around} {C : Addr} {us : List Value} {kw : List (Str × Value)} : (A.under (.builtin "type.__call__" ⟨.ref C :: us, kw⟩)).units = A.units + 1 := by
  first | rfl | simp [Around.under, Code.cUnits, Code.frames, Code.isFrame]
theorem Room.make {k : Nat} {A : Around} (r : Room (k + 1) A) (C : Addr) (us : List Value) (kw : List (Str × Value)) : Room k (A.under (.builtin "type.__call__" ⟨.ref C :: us, kw⟩)) :=
  ⟨r.hd, by have := r.dp; rw [make_depth]; omega, by have := r.un; rw [make_units]; omega⟩
theorem Room.depth {k : Nat} {A : Around} (r : Room k A) : A.depth < recursionLimit := by have := r.dp; omega
theorem Room.units {k : Nat} {A : Around} (r : Room k A) : A.units + 64 < cLine := by have := r.un; omega
def tNil : TA := fun _ H Q => Q [] H
def tCons (ta : TE) (tr : TA) : TA := fun σ H Q => ta σ H fun x H1 => tr σ H1 fun xs H2 => Q (x :: xs) H2
section
variable {X : Cx} {e : Expr} {es : List Expr} {te : TE} {t : TA} {pos : Pos}
theorem pa_nil : PA X [] tNil := fun _ _ _ _ H Q I h => Calls.spliced_nil ⟨[], H, I, .nil, h⟩
theorem pa_cons (ha : PE X e te) (hr : PA X es t) (hs : starEach (e :: es) X.env = (false, eval e X.env) :: starEach es X.env := by rfl) : PA X (e :: es) (tCons te t) := by
  intro pos pins s σ H Q I h
  rw [hs]
  show wpAny _ _ (spliced ((false, eval e X.env) :: backTo pos (starEach es X.env))) _ _ s
  refine Calls.spliced_cons (thn (ha pins s σ H _ I h) fun u s1 ⟨x, H1, I1, r1, q1⟩ => ?_)
  exact thn (hr pos pins s1 σ H1 _ I1 q1) fun us s2 ⟨xs, H2, I2, r2, q2⟩ => ⟨x :: xs, H2, I2, .cons r1 r2, q2⟩
def tTup (t : TA) : TE := fun σ H Q => t σ H fun xs H1 => xs.length ≤ sizeLine ∧ ∀ p, H1 p = none → Q (.ref p) (upd H1 p (.tup xs))
def tLst (t : TA) : TE := fun σ H Q => t σ H fun xs H1 => xs.length ≤ sizeLine ∧ ∀ p, H1 p = none → Q (.ref p) (upd H1 p (.lst xs))
theorem pe_tup {x1} (h : PA X es t) : PE X (.Tuple es x1 pos) (tTup t) := by
  intro pins s σ H Q I hq
  refine wpAny_Tuple_spliced (thn (h pos pins s σ H _ I hq) fun us s1 ⟨xs, H1, I1, r, z, q⟩ => ⟨by rw [← r.length]; exact z, ?_⟩)
  have hf : H1 s1.heap.objs.size = none := I1.hok.fresh (Nat.le_refl _)
  refine ⟨.ref s1.heap.objs.size, upd H1 s1.heap.objs.size (.tup xs), I1.laid (t' := s1.toks) (fun b u e => Heap.get?_push_of_some _ e) (Nat.le_refl _) ?_, rfl, q _ hf⟩
  exact ⟨z, us, r, ⟨_, Heap.get?_push_size _ rfl, rfl, _, rfl⟩⟩
theorem pe_lst (h : PA X es t) : PE X (.List es pos) (tLst t) := by
  intro pins s σ H Q I hq
  refine wpAny_List_spliced (thn (h pos pins s σ H _ I hq) fun us s1 ⟨xs, H1, I1, r, z, q⟩ => ⟨by rw [← r.length]; exact z, ?_⟩)
  have hf : H1 s1.heap.objs.size = none := I1.hok.fresh (Nat.le_refl _)
  refine ⟨.ref s1.heap.objs.size, upd H1 s1.heap.objs.size (.lst xs), I1.laid (t' := s1.toks) (fun b u e => Heap.get?_push_of_some _ e) (Nat.le_refl _) ?_, rfl, q _ hf⟩
  exact ⟨z, us, 0, r, Heap.get?_push_size _ rfl⟩
end
abbrev Sp := List V → Hp → VK → XK → Prop
abbrev CXT := List Env → Hp → Shared → XK → Value → Shared → Prop
structure Env0 (P : Program) (w : World) (K : PySem.W.Frag) (mg : Str → Option Value) (base : Heap) (A : Around) (outer : List Env) (s : Shared) (H : Hp) : Prop where
  frames : A.frames = some outer
  mod : Mod K mg base
  bs : ∀ b o, base.get? b = some o → s.heap.get? b = some o ∧ H b = none
  bsz : base.objs.size ≤ s.heap.objs.size
  funs : s.heap.FunFrames base outer
  frf : ∀ b ∈ frs outer, H b = none
  hok : HOk P w H s.heap
  bare : AllBare s.gens
def CE (outer : List Env) (P : Program) (w : World) (H : Hp) (s : Shared) (Q : VK) (u : Value) (s' : Shared) : Prop :=
  ∃ v H', s'.os = s.os ∧ AllBare s'.gens ∧ Un (frs outer) [] H H' s.heap s'.heap ∧ HOk P w H' s'.heap ∧ RelV v u ∧ Q v H'
def CR (CX : CXT) (outer : List Env) (P : Program) (w : World) (H : Hp) (s : Shared) (Q : VK) (E : XK) (r : Result) (s' : Shared) : Prop :=
  match r with
  | .ok (.ret u) => CE outer P w H s Q u s'
  | .ok _ => False
  | .error e => CX outer H s E e s'
structure FnOk (P : Program) (w : World) (K : PySem.W.Frag) (mg : Str → Option Value) (base : Heap) (CX : CXT) (k : Nat) (f : Addr) (fd : FuncData) (ps : List Str) (sp : Sp) : Prop where
  len : ∀ vs H Q E, sp vs H Q E → vs.length = ps.length
  run : ∀ (A : Around) (outer : List Env) (s : Shared) (H : Hp) (args : Args) (us : List Value) (vs : List V) (Q : VK) (E : XK), Room k A → Env0 P w K mg base A outer s H → BindsTo s fd args (ps.zip us) → Vals vs us → sp vs H Q E →
    codeAny (model P w) A (.call (.ref f) args) (CR CX outer P w H s Q E) s
theorem FnOk.mono {P : Program} {w : World} {K : PySem.W.Frag} {mg : Str → Option Value} {base : Heap} {CX : CXT} {j k : Nat} {f : Addr} {fd : FuncData} {ps : List Str} {sp : Sp} (F : FnOk P w K mg base CX j f fd ps sp) (h : j ≤ k) :
    FnOk P w K mg base CX k f fd ps sp := ⟨F.len, fun A outer s H args us vs Q E hr => F.run A outer s H args us vs Q E (hr.mono h)⟩
theorem FnOk.imp {P : Program} {w : World} {K : PySem.W.Frag} {mg : Str → Option Value} {base : Heap} {CX : CXT} {k : Nat} {f : Addr} {fd : FuncData} {ps : List Str} {sp sp' : Sp} (F : FnOk P w K mg base CX k f fd ps sp)
    (h : ∀ vs H Q E, sp' vs H Q E → sp vs H Q E) : FnOk P w K mg base CX k f fd ps sp' :=
  ⟨fun vs H Q E q => F.len vs H Q E (h _ _ _ _ q), fun A outer s H args us vs Q E hr he hb hv hs => F.run A outer s H args us vs Q E hr he hb hv (h _ _ _ _ hs)⟩
theorem Env0.make {P : Program} {w : World} {K : PySem.W.Frag} {mg : Str → Option Value} {base : Heap} {A : Around} {outer : List Env} {s : Shared} {H : Hp} (e : Env0 P w K mg base A outer s H) (C : Addr) (us : List Value) (kw : List (Str × Value)) :
    Env0 P w K mg base (A.under (.builtin "type.__call__" ⟨.ref C :: us, kw⟩)) outer s H := ⟨by first | exact e.frames | (simpa [Around.under, Code.envs, Code.isFrame, pushEnvs] using e.frames), e.mod, e.bs, e.bsz, e.funs, e.frf, e.hok, e.bare⟩
theorem Env0.in1 {P : Program} {w : World} {K : PySem.W.Frag} {mg : Str → Option Value} {base : Heap} {A : Around} {outer : List Env} {s : Shared} {H : Hp} (e : Env0 P w K mg base A outer s H) :
    Env0 P w K mg base A.in1 outer s H := ⟨e.frames, e.mod, e.bs, e.bsz, e.funs, e.frf, e.hok, e.bare⟩
section
variable {X : Cx} {pins : List (Addr × Obj)} {σ : St} {H : Hp} {s s' : Shared}
theorem Inv.env0 (I : Inv X pins σ H s) : Env0 X.prog X.w X.K X.mg X.base X.A X.stack s H :=
  ⟨I.ok.frames, I.ok.mod, I.bs, Nat.le_trans I.ok.bsz I.sz, I.stack, I.stkFree, I.hok, I.bare⟩
theorem Inv.after {Q : VK} {u : Value} (I : Inv X pins σ H s) (h : CE X.stack X.prog X.w H s Q u s') : EP X pins σ Q u s' := by
  obtain ⟨v, H', os, bare, un, hok, r, q⟩ := h
  obtain ⟨hh, g, d, t, os'⟩ := s'
  obtain rfl : os' = s.os := os
  exact ⟨v, H', I.call (h' := hh) (g' := g) (d' := d) (t' := t) (ch := []) un hok bare (fun b z => absurd z (by simp)), r, q⟩
end
def tCall (sp : Sp) (dvs : List V) (E : XK) (t : TA) : TE := fun σ H Q => t σ H fun vs H1 => sp (vs ++ dvs) H1 Q E
def tMeth (C : Addr) (m : Str) (sp : Sp) (dvs : List V) (E : XK) (ta : TE) (t : TA) : TE := fun σ H Q => ta σ H fun x H1 => ∃ a dx fs, x = .ref a ∧ H1 a = some (.ins C dx fs) ∧ fs.lookup m = none ∧
  t σ H1 fun vs H2 => sp (x :: (vs ++ dvs)) H2 Q E
def tMake (C : Addr) (sp : Sp) (dvs : List V) (E : XK) (t : TA) : TE := fun σ H Q => t σ H fun vs H1 => ∀ x dx, H1 x = none → H1 dx = none → dx ≠ x →
  sp (.ref x :: (vs ++ dvs)) (upd (upd H1 dx (.own x)) x (.ins C dx [])) (fun v H2 => v = .non ∧ Q (.ref x) H2) E
def Binds (K : PySem.W.Frag) (fd : FuncData) (ps : List Str) (ds : List Value) : Prop :=
  ∀ (s : Shared) (us : List Value), K.In s.heap → (us ++ ds).length = ps.length → BindsTo s fd ⟨us, []⟩ (ps.zip (us ++ ds))
theorem Binds.all {K : PySem.W.Frag} {fd : FuncData} {ps : List Str} (h : ∀ us : List Value, us.length = ps.length → bindArgs fd ⟨us, []⟩ = pure (ps.zip us)) : Binds K fd ps [] := fun s us _ hl => by
  rw [List.append_nil] at hl ⊢
  exact .of_eq (h us hl)
def Passes (CX : CXT) (X : Cx) (E : XK) : Prop := ∀ (pins : List (Addr × Obj)) (σ : St) (H : Hp) (s : Shared) (e : Value) (s' : Shared), Inv X pins σ H s → CX X.stack H s E e s' → X.xe e s'
section
variable {X : Cx} {CX : CXT} {k : Nat} {f C : Addr} {fd : FuncData} {ps : List Str} {sp : Sp} {dvs : List V} {ds : List Value} {E : XK} {x m : Str} {p pos apos : Pos} {e o : Expr} {es : List Expr} {ta : TE} {t : TA}
theorem run_fn {pins : List (Addr × Obj)} {σ : St} {H : Hp} {s : Shared} {Q : VK} {us : List Value} {vs : List V} (F : FnOk X.prog X.w X.K X.mg X.base CX k f fd ps sp) (hr : Room k X.A) (hb : Binds X.K fd ps ds) (hd : Vals dvs ds) (hx : Passes CX X E)
    (I : Inv X pins σ H s) (r : Vals vs us) (h : sp (vs ++ dvs) H Q E) : wpAny (model X.prog X.w) X.A (call (.ref f) us) (EP X pins σ Q) X.xe s := by
  have r2 : Vals (vs ++ dvs) (us ++ ds) := r.append hd
  have hl : (us ++ ds).length = ps.length := by rw [← r2.length]; exact F.len _ _ _ _ h
  refine wpAny_call (codeAny_mono (F.run X.A X.stack s H ⟨us, []⟩ (us ++ ds) (vs ++ dvs) Q E hr I.env0 (hb s us I.kIn hl) r2 h) fun r s' hq => ?_)
  cases r with
  | error e => exact hx pins σ H s e s' I hq
  | ok fl =>
    cases fl with
    | ret u => exact I.after hq
    | next => exact False.elim hq
    | brk => exact False.elim hq
    | cont => exact False.elim hq
theorem pe_call (F : FnOk X.prog X.w X.K X.mg X.base CX k f fd ps sp) (hr : Room k X.A) (hg : Gl X x) (hm : X.mg x = some (.ref f)) (hk : PySem.W.keepIn X.K (.ref f) = true) (hb : Binds X.K fd ps ds) (hd : Vals dvs ds) (hx : Passes CX X E)
    (ha : PA X (e :: es) t) (hdb : (x == ("__debug__" : Str)) = false := by decide) (he : starEach (e :: es) X.env = (false, eval e X.env) :: starEach es X.env := by rfl) (hpl : (backTo pos (starEach es X.env)).any (·.1) = false := by rfl) :
    PE X (.Call (.Name x p) (e :: es) [] pos) (tCall sp dvs E t) := by
  intro pins s σ H Q I h
  refine wpAny_Call_Name_kw (ld_glob I hg hm ?_ hdb)
  refine PySem.W.callWith_K (h₀ := X.base) I.ok.mod.kin hk (thn (ha pos pins s σ H _ I h) fun us s1 ⟨vs, H1, I1, r, q⟩ => ⟨I1.kIn, ?_⟩) he hpl
  exact run_fn F hr hb hd hx I1 r q
theorem pe_meth {pl : Sem Bool} (he : PE X o ta) (c : Cls X.K C) (hm : Meth X.K C m f) (F : FnOk X.prog X.w X.K X.mg X.base CX k f fd ps sp) (hr : Room k X.A) (hb : Binds X.K fd ps ds) (hd : Vals dvs ds) (hx : Passes CX X E) (ha : PA X (e :: es) t)
    (hst : starEach (e :: es) X.env = (false, eval e X.env) :: starEach es X.env := by rfl) (hpl : (backTo pos (starEach es X.env)).any (·.1) = false := by rfl)
    (ht : eval (.Call (.Attribute o m apos) (e :: es) [] pos) X.env = (do
      let ov ← eval o X.env
      standAt apos.atName
      let (f, first) ← holding [ov] (getMethod ov m pl)
      callWith pos f first (backTo pos (starEach (e :: es) X.env)) (backToKw pos (keywordEach [] X.env))) := by rfl) :
    PE X (.Call (.Attribute o m apos) (e :: es) [] pos) (tMeth C m sp dvs E ta t) := by
  intro pins s σ H Q I h
  refine PySem.W.methodCall_KW (pl := pl) (thn (he pins s σ H _ I h) fun u s1 ⟨x, H1, I1, rx, a, dx, fs, ex, ea, l, q⟩ => ?_) ht
  subst ex
  obtain rfl : u = Value.ref a := rx
  refine getmeth_ok I1 ea c hm l ?_
  refine PySem.W.callWith_K (first := [.ref a]) (h₀ := X.base) I.ok.mod.kin hm.kp (thn (ha pos pins s1 σ H1 _ I1 q) fun us s2 ⟨vs, H2, I2, r, q2⟩ => ⟨I2.kIn, ?_⟩) hst hpl
  exact run_fn (us := .ref a :: us) (vs := .ref a :: vs) F hr hb hd hx I2 (.cons rfl r) q2
structure Mk (K : PySem.W.Frag) (C f : Addr) : Prop where
  makes : PySem.W.makesIn K C = true
  init : PySem.W.findIn K (.ref C) "__init__" = some (some (.ref f))
  fn : PySem.W.isFn K (.ref f) = true
  kp : PySem.W.keepIn K (.ref C) = true
theorem run_make {pins : List (Addr × Obj)} {σ : St} {H : Hp} {s : Shared} {Q : VK} {us : List Value} {vs : List V} (M : Mk X.K C f) (F : FnOk X.prog X.w X.K X.mg X.base CX k f fd ps sp) (hr : Room (k + 1) X.A) (hb : Binds X.K fd ps ds) (hd : Vals dvs ds)
    (hx : Passes CX X E) (I : Inv X pins σ H s) (r : Vals vs us)
    (h : ∀ x dx, H x = none → H dx = none → dx ≠ x → sp (.ref x :: (vs ++ dvs)) (upd (upd H dx (.own x)) x (.ins C dx [])) (fun v H2 => v = .non ∧ Q (.ref x) H2) E) :
    wpAny (model X.prog X.w) X.A (call (.ref C) us) (EP X pins σ Q) X.xe s := by
  have hq := h (s.heap.objs.size + 1) s.heap.objs.size (I.hok.fresh (Nat.le_succ _)) (I.hok.fresh (Nat.le_refl _)) (Nat.ne_of_lt (Nat.lt_succ_self _))
  have I2 := Inv.made (C := C) I
  have r2 : Vals (V.ref (s.heap.objs.size + 1) :: (vs ++ dvs)) (Value.ref (s.heap.objs.size + 1) :: (us ++ ds)) := .cons rfl (r.append hd)
  have hl : (Value.ref (s.heap.objs.size + 1) :: us ++ ds).length = ps.length := by
    have e := r2.length
    rw [F.len _ _ _ _ hq] at e
    exact e.symm
  refine wpAny_call (make_map (f := f) I.kIn M.makes M.init (beq_iff_eq.mp M.fn) (codeAny_mono (F.run _ X.stack _ _ ⟨Value.ref (s.heap.objs.size + 1) :: us, []⟩ (Value.ref (s.heap.objs.size + 1) :: (us ++ ds)) _ _ E (hr.make C us [])
    (I2.env0.make C us []) (hb _ (Value.ref (s.heap.objs.size + 1) :: us) I2.kIn hl) r2 hq) fun r s' hq' => ?_))
  cases r with
  | error e => exact hx pins σ _ _ e s' I2 hq'
  | ok fl =>
    cases fl with
    | ret u =>
      obtain ⟨v, H', I3, rv, ev, q3⟩ := I2.after hq'
      subst ev
      exact ⟨rv, ⟨V.ref (s.heap.objs.size + 1), H', I3, rfl, q3⟩⟩
    | next => exact False.elim hq'
    | brk => exact False.elim hq'
    | cont => exact False.elim hq'
theorem pe_make (M : Mk X.K C f) (F : FnOk X.prog X.w X.K X.mg X.base CX k f fd ps sp) (hr : Room (k + 1) X.A) (hg : Gl X x) (hm : X.mg x = some (.ref C)) (hb : Binds X.K fd ps ds) (hd : Vals dvs ds) (hx : Passes CX X E)
    (ha : PA X (e :: es) t) (hdb : (x == ("__debug__" : Str)) = false := by decide) (he : starEach (e :: es) X.env = (false, eval e X.env) :: starEach es X.env := by rfl) (hpl : (backTo pos (starEach es X.env)).any (·.1) = false := by rfl) :
    PE X (.Call (.Name x p) (e :: es) [] pos) (tMake C sp dvs E t) := by
  intro pins s σ H Q I h
  refine wpAny_Call_Name_kw (ld_glob I hg hm ?_ hdb)
  refine PySem.W.callWith_K (h₀ := X.base) I.ok.mod.kin M.kp (thn (ha pos pins s σ H _ I h) fun us s1 ⟨vs, H1, I1, r, q⟩ => ⟨I1.kIn, ?_⟩) he hpl
  exact run_make M F hr hb hd hx I1 r q
end
section
variable {X : Cx} {CX : CXT} {k : Nat} {f C : Addr} {fd : FuncData} {ps ks : List Str} {sp : Sp} {E : XK} {x m : Str} {p pos apos kpos : Pos} {e o : Expr} {es : List Expr} {kws : List Keyword} {te ta : TE} {t tk : TA} {nm : Option Str}
structure KBinds (K : PySem.W.Frag) (fd : FuncData) (ps ks : List Str) (g : List Value → List Value → List Value) (gV : List V → List V → List V) : Prop where
  to : ∀ (s : Shared) (us ws : List Value), K.In s.heap → (g us ws).length = ps.length → BindsTo s fd ⟨us, ks.zip ws⟩ (ps.zip (g us ws))
  rel : ∀ {vs : List V} {us : List Value} {zs : List V} {ws : List Value}, Vals vs us → Vals zs ws → Vals (gV vs zs) (g us ws)
variable {g : List Value → List Value → List Value} {gV : List V → List V → List V}
end
structure FnScope (N P : List Str) (sc : Scope) : Prop where
  kind : sc.kind = .function
  co : sc.isCoroutine = false
  gen : sc.isGenerator = false
  nd : N.Nodup
  pre : N.take P.length = P
  par : ∀ x ∈ P, sc.names.lookup x = some .local ∨ sc.names.lookup x = some .cell
  nofree : ∀ y ∈ sc.names, y.2 ≠ .free
theorem bindL_out {kindOf : Str → Option NameKind} {x : Str} : ∀ {binds : List (Str × Value)} {m : Str → Option Value}, (∀ v, (x, v) ∉ binds) → bindL kindOf binds m x = m x
  | [], _, _ => rfl
  | (n, v) :: r, m, h => by
    unfold bindL
    rw [bindL_out fun w hw => h w (List.mem_cons_of_mem _ hw)]
    split
    · have : x ≠ n := by rintro rfl; exact h v List.mem_cons_self
      simp [this]
    · rfl
theorem bindC_out {kindOf : Str → Option NameKind} {x : Str} : ∀ {binds : List (Str × Value)} {m : Str → Option Value}, (∀ v, (x, v) ∉ binds) → bindC kindOf binds m x = m x
  | [], _, _ => rfl
  | (n, v) :: r, m, h => by
    unfold bindC
    rw [bindC_out fun w hw => h w (List.mem_cons_of_mem _ hw)]
    split
    · rfl
    · have : x ≠ n := by rintro rfl; exact h v List.mem_cons_self
      simp [this]
theorem bindL_get {kindOf : Str → Option NameKind} {x : Str} {v : Value} : ∀ {P : List Str} {vs : List Value} {i : Nat} {m : Str → Option Value}, P.Nodup → P[i]? = some x → vs[i]? = some v → kindOf x = some .local →
    bindL kindOf (P.zip vs) m x = some v
  | [], _, _, _, _, h, _, _ => by simp at h
  | _ :: _, [], _, _, _, _, h, _ => by simp at h
  | p :: P, w :: vs, 0, m, nd, h1, h2, hk => by
    simp at h1 h2; subst h1; subst h2
    show bindL kindOf ((p, w) :: P.zip vs) m p = _
    unfold bindL
    rw [bindL_out fun v hv => (List.nodup_cons.mp nd).1 (List.of_mem_zip hv).1, if_pos hk]
    simp
  | p :: P, w :: vs, i + 1, m, nd, h1, h2, hk => by
    show bindL kindOf ((p, w) :: P.zip vs) m x = _
    unfold bindL
    exact bindL_get (i := i) (List.nodup_cons.mp nd).2 (by simpa using h1) (by simpa using h2) hk
theorem bindC_get {kindOf : Str → Option NameKind} {x : Str} {v : Value} : ∀ {P : List Str} {vs : List Value} {i : Nat} {m : Str → Option Value}, P.Nodup → P[i]? = some x → vs[i]? = some v → kindOf x ≠ some .local →
    bindC kindOf (P.zip vs) m x = some v
  | [], _, _, _, _, h, _, _ => by simp at h
  | _ :: _, [], _, _, _, _, h, _ => by simp at h
  | p :: P, w :: vs, 0, m, nd, h1, h2, hk => by
    simp at h1 h2; subst h1; subst h2
    show bindC kindOf ((p, w) :: P.zip vs) m p = _
    unfold bindC
    rw [bindC_out fun v hv => (List.nodup_cons.mp nd).1 (List.of_mem_zip hv).1, if_neg hk]
    simp
  | p :: P, w :: vs, i + 1, m, nd, h1, h2, hk => by
    show bindC kindOf ((p, w) :: P.zip vs) m x = _
    unfold bindC
    exact bindC_get (i := i) (List.nodup_cons.mp nd).2 (by simpa using h1) (by simpa using h2) hk
def start (N : List Str) (vs : List V) : St := vs.map some ++ List.replicate (N.length - vs.length) none
def cxOf (CX : CXT) (P : Program) (w : World) (K : PySem.W.Frag) (mg : Str → Option Value) (base : Heap) (N : List Str) (qual : Str) (scope : Scope) (f : Addr) (cd : Value) (A : Around) (outer : List Env) (s : Shared) (H : Hp) (E : XK) : Cx where
  prog := P
  w := w
  K := K
  mg := mg
  base := base
  A := A.deeper (envOfC qual scope s.heap.objs.size f cd)
  N := N
  s_0 := s
  H_0 := H
  env := envOfC qual scope s.heap.objs.size f cd
  outer := outer
  stack := envOfC qual scope s.heap.objs.size f cd :: outer
  ex := []
  calm := true
  fn := fun _ => true
  pn := []
  xe := fun e s' => wpAny (model P w) (A.deeper (envOfC qual scope s.heap.objs.size f cd)) (leaving (envOfC qual scope s.heap.objs.size f cd) e) (fun _ s'' => CX outer H s E e s'') (fun e' s'' => CX outer H s E e' s'') s'
theorem cell_has {sc : Scope} {n : Nat} {x : Str} (h : sc.names.lookup x = some .cell) : ∃ c, (cellsFrom n sc.names []).lookup x = some c := by
  have q := PySem.W.cellsFrom_some sc.names n [] (.inl h)
  exact Option.isSome_iff_exists.mp q
theorem inv_start {CX : CXT} {P : Program} {w : World} {K : PySem.W.Frag} {mg : Str → Option Value} {base : Heap} {N ps : List Str} {qual : Str} {scope : Scope} {f : Addr} {cd : Value} {A : Around} {outer : List Env} {s s1 : Shared} {H : Hp} {E : XK} {us : List Value} {vs : List V}
    (S : FnScope N ps scope) (hd : A.handled = none) (e0 : Env0 P w K mg base A outer s H) (hl : vs.length = ps.length) (r : Vals vs us)
    (x : InCallC s s.heap.objs.size (bindL (envOfC qual scope s.heap.objs.size f cd).kindOf (ps.zip us) fun _ => none) (cellsFrom (s.heap.objs.size + 1) scope.names []) (bindC (envOfC qual scope s.heap.objs.size f cd).kindOf (ps.zip us) fun _ => none) s1) :
    Inv (cxOf CX P w K mg base N qual scope f cd A outer s H E) [] (start N vs) H s1 := by
  have hpl : ps.length ≤ N.length := by have := congrArg List.length S.pre; rw [List.length_take] at this; omega
  obtain ⟨h1, tk, rfl, hk⟩ := x.done
  have noA : ∀ b : Addr, b ∉ (cxOf CX P w K mg base N qual scope f cd A outer s H E).ex := fun b z => absurd (show b ∈ ([] : List Addr) from z) (by simp)
  refine ⟨⟨e0.mod, S.kind, rfl, rfl, Nat.le_refl _, fun y z c h1 h2 => ?_, fun y hy => ?_, fun y c _ h => ?_, fun _ => hd, Around.frames_deeper e0.frames, .inr ⟨rfl, rfl⟩, fun b z => absurd z (noA b), e0.bs, e0.bsz, fun b _ _ => noA b, fun b z => absurd z (noA b), e0.funs, e0.frf⟩,
    rfl, e0.bare, Un.kept hk, ⟨_, x.toInCall.ns, fun i y v h1 h2 h3 => ?_⟩, fun y c h => ⟨_, x.cell y c h⟩, e0.hok.fresh (Nat.le_refl _), fun y c h => ?_, fun p hp => absurd (show p ∈ ([] : List (Addr × Obj)) from hp) (by simp), e0.hok.kept hk, ?_⟩
  · exact name_of_addr x.apart (PySem.mem_of_lookup h1) (PySem.mem_of_lookup h2)
  · have hy : scope.names.lookup y = some .cell ∨ scope.names.lookup y = some .free := hy
    rcases hy with hy | hy
    · exact cell_has hy
    · exact absurd rfl (S.nofree _ (PySem.mem_of_lookup hy))
  · exact Nat.le_of_lt (x.above y c (PySem.mem_of_lookup h))
  · have hi : i < vs.length := by
      unfold start at h2
      by_cases hi : i < vs.length
      · exact hi
      · rw [List.getElem?_append_right (by simpa using hi)] at h2
        rw [List.getElem?_replicate] at h2
        split at h2 <;> cases h2
    have ha : vs[i]? = some v := by
      unfold start at h2
      rw [List.getElem?_append_left (by simpa using hi), List.getElem?_map] at h2
      cases e : vs[i]? with
      | none => rw [e] at h2; cases h2
      | some a => rw [e] at h2; cases h2; rfl
    obtain ⟨u, hu, rv⟩ := r.get ha
    have hp : ps[i]? = some y := by
      rw [← S.pre, List.getElem?_take_of_lt (by omega)]; exact h1
    have ndP : ps.Nodup := by rw [← S.pre]; exact S.nd.sublist (List.take_sublist _ _)
    refine ⟨u, rv, ?_⟩
    rcases S.par y (List.mem_of_getElem? hp) with k | k
    · exact .inl ⟨k, bindL_get ndP hp hu k⟩
    · obtain ⟨c, e⟩ := cell_has (n := s.heap.objs.size + 1) k
      refine .inr ⟨.inl k, c, e, ?_⟩
      have q := x.cell y c e
      rw [bindC_get ndP hp hu (by show scope.names.lookup y ≠ _; rw [k]; decide)] at q
      exact q
  · exact e0.hok.fresh (Nat.le_of_lt (x.above y c (PySem.mem_of_lookup h)))
  · unfold start
    show _ = N.length
    rw [List.length_append, List.length_map, List.length_replicate]
    omega
theorem fn_of {CX : CXT} {P : Program} {w : World} {K : PySem.W.Frag} {mg : Str → Option Value} {base : Heap} {k : Nat} {f : Addr} {name qual : Str} {params : Arguments} {body : List Stmt} {scope : Scope} {dV kV doc pm cdv ct oc : Value} {an od : Option Addr}
    {osl : Array (Option Value)} {N ps : List Str} {sp : Sp} (lk : K.lookup f = some ⟨oc, od, .func (PySem.W.fnOf name qual params body scope dV kV doc pm an cdv ct), osl⟩) (hcd : PySem.W.codeIn K cdv qual = true) (S : FnScope N ps scope)
    (len : ∀ vs H Q E, sp vs H Q E → vs.length = ps.length)
    (hbody : ∀ (A : Around) (outer : List Env) (s : Shared) (H : Hp) (vs : List V) (Q : VK) (E : XK), Room k (A.deeper (envOfC qual scope s.heap.objs.size f cdv)) → sp vs H Q E →
      ∃ t, PSs (cxOf CX P w K mg base N qual scope f cdv A outer s H E) body t ∧ t { nx := fun _ H' => Q .non H', rt := Q } (start N vs) H) :
    FnOk P w K mg base CX (k + 1) f (PySem.W.fnOf name qual params body scope dV kV doc pm an cdv ct) ps sp := by
  refine ⟨len, fun A outer s H args us vs Q E hr e0 hb r hsp => ?_⟩
  have hl := len _ _ _ _ hsp
  have KX : K.In s.heap := e0.mod.kin.keeps fun b o e => (e0.bs b o e).1
  have lim : s.heap.NoLimit := e0.mod.nolimit.keeps fun b o e => (e0.bs b o e).1
  have hkind : ∀ y ∈ ps.zip us, scope.names.lookup y.1 = some .local ∨ (scope.names.lookup y.1 = some .cell ∧ ((cellsFrom (s.heap.objs.size + 1) scope.names []).lookup y.1).isSome = true) := fun ⟨n, v⟩ hy => by
    rcases S.par n (List.of_mem_zip hy).1 with q | q
    · exact .inl q
    · exact .inr ⟨q, PySem.W.cellsFrom_some _ _ _ (.inl q)⟩
  refine codeAny_call_function hr.depth (KX _ _ lk) rfl S.co S.gen rfl (PySem.W.codeRec_of KX hcd) (hb _ _ _ _ ?_)
  refine wpAny_newFunctionEnv_cells S.kind hkind fun env he s1 x => ?_
  subst he
  refine ⟨lim.keeps x.toInCall.keep, codeAny_func ?_⟩
  obtain ⟨t, ht, hq⟩ := hbody A outer s H vs Q E (hr.deeper _) hsp
  have I : Inv (cxOf CX P w K mg base N qual scope f cdv A outer s H E) [] (start N vs) H s1 := inv_start S hr.hd e0 hl r x
  refine wpAny_mono (ht [] s1 (start N vs) H _ I hq) (fun fl s' hs => ?_) fun e s' hs => hs
  have fin : ∀ {σ' : St} {H' : Hp} {v : V} {u : Value}, Inv (cxOf CX P w K mg base N qual scope f cdv A outer s H E) [] σ' H' s' → RelV v u → Q v H' → CE outer P w H s Q u s' :=
    fun {σ' H' v u} J rv q => ⟨v, H', J.os, J.bare, J.base, J.hok, rv, q⟩
  cases fl with
  | ret u =>
    obtain ⟨v, σ', H', J, rv, q⟩ := hs
    exact fin J rv q
  | next =>
    obtain ⟨σ', H', J, q⟩ := hs
    exact fin (v := V.non) (u := Value.none) J rfl q
  | brk =>
    obtain ⟨_, _, _, q⟩ := hs
    exact False.elim q
  | cont =>
    obtain ⟨_, _, _, q⟩ := hs
    exact False.elim q
end L2
namespace L2
open PySem PySem.Spec PyProof.Rows
section
variable {X : Cx} {x : Str} {p pos : Pos} {e : Expr} {es : List Expr} {t : TA} {id T : String} {r : List V → Hp → VK → Prop}
def tCB (r : List V → Hp → VK → Prop) (t : TA) : TE := fun σ H Q => t σ H fun vs H1 => r vs H1 Q
theorem pe_callB (hc : CallR X (.builtin id) r) (hg : Gl X x) (hm : X.mg x = none) (hv : bootBuiltins x = some (.builtin id)) (ha : PA X (e :: es) t) (hn : x ≠ "__name__" := by decide) (hdb : (x == ("__debug__" : Str)) = false := by decide)
    (he : starEach (e :: es) X.env = (false, eval e X.env) :: starEach es X.env := by rfl) (hpl : (backTo pos (starEach es X.env)).any (·.1) = false := by rfl) : PE X (.Call (.Name x p) (e :: es) [] pos) (tCB r t) := by
  intro pins s σ H Q I h
  refine wpAny_Call_Name_kw (ld_blt I hg hm hv ?_ hn hdb)
  exact PyProof.Rows.callWith_builtin1 (thn (ha pos pins s σ H _ I h) fun us s1 ⟨vs, H1, I1, r1, q1⟩ => hc pins s1 σ H1 vs us Q I1 r1 q1) he hpl
end
end L2
namespace HT
open PySem PyProof.Rows
section
open PySem.SeqAt
open PySem.AutoSeq1 (wpAny_loadPart')
open PySem.MeetsSeq PySem.MeetsSeq2 PySem.MeetsSeq3
end
section
variable {prog : Program} {w : World} {A : Around} {E : Value → Shared → Prop} {s : Shared}
def sIx (n d : Nat) : Option Int → Nat
  | none => d
  | some v => if v < 0 then (v + (n : Int)).toNat else min v.toNat n
theorem sIx_nat (n d k : Nat) : sIx n d (some (k : Int)) = min k n := by
  show (if (k : Int) < 0 then ((k : Int) + (n : Int)).toNat else min (k : Int).toNat n) = min k n
  rw [if_neg (by omega), Int.toNat_natCast]
theorem sIx_le (n d : Nat) (hd : d ≤ n) (o : Option Int) : sIx n d o ≤ n := by
  cases o with
  | none => exact hd
  | some v =>
    show (if v < 0 then (v + (n : Int)).toNat else min v.toNat n) ≤ n
    by_cases hv : v < 0
    · rw [if_pos hv]; omega
    · rw [if_neg hv]; exact Nat.min_le_right _ _
theorem clip_eq (v : Int) (n d : Nat) : (if v < 0 then max (v + (n : Int)) 0 else min v (n : Int)) = ((sIx n d (some v) : Nat) : Int) := by
  show (if v < 0 then max (v + (n : Int)) 0 else min v (n : Int)) = (((if v < 0 then (v + (n : Int)).toNat else min v.toNat n) : Nat) : Int)
  by_cases hv : v < 0
  · simp only [if_pos hv]; omega
  · simp only [if_neg hv]; omega
theorem adjust_gen (lo hi : Option Int) (n : Nat) : Builtin.Slice.sliceAdjust lo hi 1 (n : Int) = (((sIx n 0 lo : Nat) : Int), ((sIx n n hi : Nat) : Int)) := by
  have h1 : ¬ ((1 : Int) < 0) := by omega
  unfold Builtin.Slice.sliceAdjust
  simp only [h1, if_false]
  refine Prod.ext ?_ ?_
  · cases lo with
    | none => rfl
    | some v => exact clip_eq v n 0
  · cases hi with
    | none => rfl
    | some v => exact clip_eq v n n
theorem places_gen (i j : Nat) : Builtin.Slice.slicePlaces (i : Int) (j : Int) 1 = j - i := by
  unfold Builtin.Slice.slicePlaces
  have h1 : (1 : Int) > 0 := by omega
  simp only [h1, if_true, Int.ediv_one]
  split <;> omega
theorem slicePart_ {v : Value} {o : Option Int} {Q : Option Int → Shared → Prop} (p : IsPart v o) (h : Q o s) : wpAny (model prog w) A (Builtin.Slice.slicePartIndex v) Q E s := by
  cases p with
  | none => exact slicePart_none h
  | int i t => exact slicePart_int h
theorem sliceApplied_gen {sl : Addr} {vl vu : Value} {lo hi : Option Int} {n : Nat} {Q : Int × Int × Nat → Shared → Prop} (hs : s.heap.IsSliceOf sl vl vu .none) (pl : IsPart vl lo) (pu : IsPart vu hi)
    (h : Q (((sIx n 0 lo : Nat) : Int), 1, sIx n n hi - sIx n 0 lo) s) : wpAny (model prog w) A (Builtin.Slice.sliceApplied (.ref sl) (pure (n : Int))) Q E s := by
  obtain ⟨os, hos, hcs, hds⟩ := id hs
  unfold Builtin.Slice.sliceApplied Builtin.Slice.sliceFields
  refine wpAny_bind (wpAny_bind (wpAny_field hos hds (x := vl) rfl (wpAny_bind (wpAny_field hos hds (x := vu) rfl (wpAny_bind (wpAny_field hos hds (x := .none) rfl (wpAny_pure ?_)))))))
  refine wpAny_bind (slicePart_none ?_)
  show wpAny _ _ (if ((1 : Int) == 0) = true then _ else _) _ _ s
  rw [if_neg (by decide)]
  refine wpAny_bind (slicePart_ pl (wpAny_bind (slicePart_ pu (wpAny_bind (wpAny_pure ?_)))))
  show wpAny _ _ (match Builtin.Slice.sliceAdjust lo hi 1 (n : Int) with | (lo, hi) => pure (lo, (1 : Int), Builtin.Slice.slicePlaces lo hi 1)) _ _ s
  rw [adjust_gen lo hi n]
  show wpAny _ _ (pure (((sIx n 0 lo : Nat) : Int), (1 : Int), Builtin.Slice.slicePlaces ((sIx n 0 lo : Nat) : Int) ((sIx n n hi : Nat) : Int) 1)) _ _ s
  rw [places_gen]
  exact wpAny_pure h
theorem pick_gen (xs : Array Value) (i k : Nat) : ((List.range k).filterMap fun (m : Nat) => xs[((i : Int) + (m : Int) * 1).toNat]?).toArray = ((xs.toList.drop i).take k).toArray := by
  have e : (fun (m : Nat) => xs[((i : Int) + (m : Int) * 1).toNat]?) = fun m => xs[i + m]? := by
    funext m
    have : ((i : Int) + (m : Int) * 1).toNat = i + m := by omega
    rw [this]
  rw [e]
  have := pick_run xs i k
  rw [List.filterMap_map] at this
  have e2 : ((fun x => xs[x]?) ∘ fun x => i + x) = fun m => xs[i + m]? := rfl
  rw [e2] at this
  rw [this]
theorem getItem_tuple_cut {t sl : Addr} {items : Array Value} {vl vu : Value} {lo hi : Option Int} {Q : Value → Shared → Prop} (ht : IsTup s.heap t items) (hs : s.heap.IsSliceOf sl vl vu .none) (pl : IsPart vl lo) (pu : IsPart vu hi)
    (hw : ¬ (sIx items.size 0 lo = 0 ∧ sIx items.size items.size hi = items.size))
    (h : Q (.ref s.heap.objs.size) { s with heap := s.heap.push { cls := .type "tuple", data := .seq ((items.toList.drop (sIx items.size 0 lo)).take (sIx items.size items.size hi - sIx items.size 0 lo)).toArray } })
    (hsz : items.size ≤ sizeLine) : wpAny (model prog w) A (getItem (.ref t) (.ref sl)) Q E s := by
  have htake : sizeOk (.seq ((items.toList.drop (sIx items.size 0 lo)).take (sIx items.size items.size hi - sIx items.size 0 lo)).toArray) := by
    show ((items.toList.drop (sIx items.size 0 lo)).take (sIx items.size items.size hi - sIx items.size 0 lo)).toArray.size ≤ sizeLine
    rw [List.size_toArray, List.length_take, List.length_drop, Array.length_toList]
    omega
  have hj : sIx items.size items.size hi ≤ items.size := sIx_le _ _ (Nat.le_refl _) hi
  obtain ⟨os, hos, hcs, hds⟩ := id hs
  have hTs : s.TypeIs (.ref sl) "slice" := ⟨os, hos, hcs⟩
  unfold getItem
  try with_reducible refine wpAny_holding ?_
  first | refine wpAny_bind (wpAny_pure ?_) | skip
  refine wpAny_bind (wpAny_sequenceKey ht.typeIs (by decide) ?_)
  refine wpAny_bind (wpAny_callSpecial?_slot (name := Str.ofString "__getitem__") ht.typeIs PyProof.Rows.slot_tuple_getitem
    (wpAny_call_entry PyProof.Rows.slot_tuple_getitem ht.typeIs entry_tuple_getitem ?_ (args_tuple_getitem _ _)))
  show wpAny _ _ (Builtin.Tuple.tupleItemsOf (.ref t) >>= _) _ _ s
  refine wpAny_bind (tupleItemsOf_ ht ?_)
  refine wpAny_bind (wpAny_typeOf hTs ?_)
  rw [if_pos (by decide)]
  refine wpAny_bind (sliceApplied_gen hs pl pu ?_)
  have hno : ¬ ((((sIx items.size 0 lo : Nat) : Int) == 0 && (1 : Int) == 1 && (sIx items.size items.size hi - sIx items.size 0 lo) == items.size) = true) := by
    intro q
    rw [Bool.and_eq_true, Bool.and_eq_true] at q
    have q1 : ((sIx items.size 0 lo : Nat) : Int) = 0 := eq_of_beq q.1.1
    have q2 : sIx items.size items.size hi - sIx items.size 0 lo = items.size := eq_of_beq q.2
    exact hw ⟨by omega, by omega⟩
  show wpAny _ _ (if (((sIx items.size 0 lo : Nat) : Int) == 0 && (1 : Int) == 1 && (sIx items.size items.size hi - sIx items.size 0 lo) == items.size) = true then _ else _) _ _ s
  rw [if_neg hno, pick_gen]
  first
    | exact wpAny_bind (m := Builtin.Tuple.tupleExact _) (wpAny_newObj_type (wpAny_pure ⟨_, rfl, wpAny_pure h⟩) htake)
    | exact wpAny_bind (m := Builtin.Tuple.tupleExact _) (wpAny_newObj_type (wpAny_bind (wpAny_pure (wpAny_pure ⟨_, rfl, wpAny_pure h⟩))) htake)
    | exact wpAny_bind (wpAny_bind (m := Builtin.Tuple.tupleExact _) (wpAny_newObj_type (wpAny_pure (wpAny_pure ⟨_, rfl, wpAny_pure h⟩)) htake))
    | exact wpAny_bind (wpAny_bind (m := Builtin.Tuple.tupleExact _) (wpAny_newObj_type (wpAny_pure ⟨_, rfl, wpAny_pure h⟩) htake))
end
end HT
namespace L2
open PySem PySem.Spec PyProof.Rows
abbrev TO := St → Hp → (Option Int → Hp → Prop) → Prop
def PO (X : Cx) (e : Option Expr) (t : TO) : Prop :=
  ∀ (pins : List (Addr × Obj)) (s : Shared) (σ : St) (H : Hp) (Q : Option Int → Hp → Prop), Inv X pins σ H s → t σ H Q →
    wpAny (model X.prog X.w) X.A (evalPart e X.env) (fun u s' => ∃ o H', Inv X pins σ H' s' ∧ IsPart u o ∧ Q o H') X.xe s
def tNoPart : TO := fun _ H Q => Q none H
def tPart (t : TE) : TO := fun σ H Q => t σ H fun x H1 => ∃ i, x = .int i ∧ Q (some i) H1
section
variable {X : Cx} {e : Expr} {te : TE} {lo hi : Option Expr} {tl th : TO} {pos p2 : Pos}
theorem po_none : PO X none tNoPart := by
  intro pins s σ H Q I h
  rw [evalPart_none]
  exact wpAny_pure ⟨none, H, I, .none, h⟩
theorem po_some (h : PE X e te) : PO X (some e) (tPart te) := by
  intro pins s σ H Q I hw
  rw [evalPart_some]
  refine thn (h pins s σ H _ I hw) fun u s1 ⟨x, H1, I1, r1, q1⟩ => ?_
  obtain ⟨i, rfl, q⟩ := q1
  obtain ⟨t, rfl⟩ := r1
  exact ⟨some i, H1, I1, .int i t, q⟩
def SlR (X : Cx) (r : V → Option Int → Option Int → Hp → VK → Prop) : Prop :=
  ∀ (pins : List (Addr × Obj)) (s : Shared) (σ : St) (H : Hp) (x : V) (v vl vu : Value) (lo hi : Option Int) (sl : Addr) (Q : VK), Inv X pins σ H s → RelV x v → s.heap.IsSliceOf sl vl vu .none → IsPart vl lo → IsPart vu hi → r x lo hi H Q →
    ∃ T id, typeLookup (.type T) "__getitem__" = pure (some (.builtin id)) ∧ s.TypeIs v T ∧ wpAny (model X.prog X.w) X.A (getItem v (.ref sl)) (EP X pins σ Q) X.xe s
def tSl (r : V → Option Int → Option Int → Hp → VK → Prop) (te : TE) (tl th : TO) : TE := fun σ H Q => te σ H fun x H1 => tl σ H1 fun l H2 => th σ H2 fun u H3 => r x l u H3 Q
theorem pe_slice {r : V → Option Int → Option Int → Hp → VK → Prop} (hr : SlR X r) (he : PE X e te) (hl : PO X lo tl) (hu : PO X hi th) : PE X (.Subscript e (.Slice lo hi none p2) pos) (tSl r te tl th) := by
  intro pins s σ H Q I h
  refine Subscript_ (thn (he pins s σ H _ I h) fun v s1 ⟨x, H1, I1, r1, q1⟩ => ?_)
  refine wpAny_Slice (thn (hl pins s1 σ H1 _ I1 q1) fun vl s2 ⟨l, H2, I2, pl, q2⟩ => thn (hu pins s2 σ H2 _ I2 q2) fun vu s3 ⟨u, H3, I3, pu, q3⟩ => ?_)
  rw [evalPart_none]
  refine wpAny_pure ?_
  have I4 : Inv X pins σ H3 { s3 with heap := s3.heap.push { cls := .type "slice", data := .fields #[vl, vu, .none] } } := I3.kept (t' := s3.toks) fun b ob q => Heap.get?_push_of_some _ q
  obtain ⟨T, id, hT, ht, hg⟩ := hr pins { s3 with heap := s3.heap.push { cls := .type "slice", data := .fields #[vl, vu, .none] } } σ H3 x v vl vu l u s3.heap.objs.size Q I4 r1 (Heap.IsSliceOf.new ..) pl pu q3
  show wpAny (model X.prog X.w) X.A (subscriptTail e (.Slice lo hi none p2) v (.ref s3.heap.objs.size)) (EP X pins σ Q) X.xe { s3 with heap := s3.heap.push { cls := .type "slice", data := .fields #[vl, vu, .none] } }
  exact tail_any (ops := [.ref s3.heap.objs.size, v]) ht hT hg (by with_unfolding_all rfl)
def cutV (xs : List V) (lo hi : Option Int) : List V := (xs.drop (HT.sIx xs.length 0 lo)).take (HT.sIx xs.length xs.length hi - HT.sIx xs.length 0 lo)
theorem cutV_length (xs : List V) (lo hi : Option Int) : (cutV xs lo hi).length ≤ xs.length := by
  unfold cutV
  rw [List.length_take, List.length_drop]
  omega
def rSlT (K : PySem.W.Frag) : V → Option Int → Option Int → Hp → VK → Prop := fun x lo hi H Q => ∃ a xs, x = .ref a ∧ SqT K H a xs ∧
  ¬ (HT.sIx xs.length 0 lo = 0 ∧ HT.sIx xs.length xs.length hi = xs.length) ∧ ∀ p, H p = none → Q (.ref p) (upd H p (.tup (cutV xs lo hi)))
theorem sl_tup : SlR X (rSlT X.K) := by
  intro pins s σ H x v vl vu lo hi sl Q I rx hs pl pu h
  obtain ⟨a, xs, rfl, hx, hw, q⟩ := h
  cases rx
  obtain ⟨its, r, ht, hz⟩ := I.tuple hx
  have hlen : its.toArray.size = xs.length := by rw [List.size_toArray]; exact r.length.symm
  refine ⟨"tuple", _, PyProof.Rows.slot_tuple_getitem.lookup, ht.typeIs, ?_⟩
  refine HT.getItem_tuple_cut ht hs pl pu (by rw [hlen]; exact hw) ?_ (by rw [hlen]; exact hz)
  rw [hlen]
  refine ⟨.ref s.heap.objs.size, _, I.laid (t' := s.toks) (o := .tup (cutV xs lo hi)) (fun b ob q => Heap.get?_push_of_some _ q) (Nat.le_refl _) ?_, rfl, q _ (I.hok.fresh (Nat.le_refl _))⟩
  exact ⟨Nat.le_trans (cutV_length xs lo hi) hz, _, (r.drop (HT.sIx xs.length 0 lo)).take (HT.sIx xs.length xs.length hi - HT.sIx xs.length 0 lo), IsTup.new _ _⟩
end
end L2
namespace L2
open PySem PySem.Spec PyProof.Rows
def ixN (n : Nat) (i : Int) : Option Nat := if 0 ≤ i then (if i < n then some i.toNat else none) else if -(n : Int) ≤ i then some (i + n).toNat else none
def atI {α : Type} (xs : List α) (i : Int) : Option α := (ixN xs.length i).bind fun j => xs[j]?
theorem ixN_seq {n : Nat} {i : Int} {j : Nat} (h : ixN n i = some j) : seqIndex? i n = some j ∧ j < n ∧ -(n : Int) ≤ i ∧ i < n := by
  unfold ixN at h
  by_cases h0 : 0 ≤ i
  · rw [if_pos h0] at h
    by_cases h1 : i < n
    · rw [if_pos h1] at h
      have e : i.toNat = j := Option.some.inj h
      exact ⟨by rw [seqIndex_of h0 h1, e], by omega, by omega, h1⟩
    · rw [if_neg h1] at h; cases h
  · rw [if_neg h0] at h
    by_cases h1 : -(n : Int) ≤ i
    · rw [if_pos h1] at h
      have e : (i + n).toNat = j := Option.some.inj h
      exact ⟨by rw [seqIndex_neg (by omega) h1, e], by omega, h1, by omega⟩
    · rw [if_neg h1] at h; cases h
theorem atI_get {α : Type} {xs : List α} {i : Int} {v : α} (h : atI xs i = some v) : ∃ j, seqIndex? i xs.length = some j ∧ xs[j]? = some v ∧ j < xs.length ∧ -(xs.length : Int) ≤ i ∧ i < xs.length := by
  unfold atI at h
  cases e : ixN xs.length i with
  | none => rw [e] at h; cases h
  | some j =>
    rw [e] at h
    obtain ⟨h1, h2, h3, h4⟩ := ixN_seq e
    exact ⟨j, h1, h, h2, h3, h4⟩
def PlainIx (b : Expr) : Prop := ∀ o i, subscripted b false o i = operate [o, i] (getItem o i)
def IxR (X : Cx) (r : R2) : Prop :=
  ∀ (value slice : Expr) (pins : List (Addr × Obj)) (s : Shared) (σ : St) (H : Hp) (x y : V) (v u : Value) (Q : VK), Inv X pins σ H s → RelV x v → RelV y u → r x y H Q →
    subscripted slice false v u = operate [v, u] (getItem v u) → wpAny (model X.prog X.w) X.A (subscriptTail value slice v u) (EP X pins σ Q) X.xe s
def MtR (X : Cx) (id : String) (r : V → List V → Hp → VK → Prop) : Prop :=
  ∀ (pins : List (Addr × Obj)) (s : Shared) (σ : St) (H : Hp) (x : V) (xs : List V) (v : Value) (us : List Value) (Q : VK), Inv X pins σ H s → RelV x v → Vals xs us → r x xs H Q →
    wpAny (model X.prog X.w) X.A (call (.builtin id) (v :: us)) (EP X pins σ Q) X.xe s
section
variable {X : Cx} {a b : Expr} {ta tb : TE} {pos : Pos}
theorem pe_ix {r : R2} (hr : IxR X r) (ha : PE X a ta) (hb : PE X b tb) (hs : PlainIx b) : PE X (.Subscript a b pos) (tOp r ta tb) := by
  intro pins s σ H Q I h
  exact Subscript_ (binT ha hb I h fun v u s2 x y H2 I2 rx ry q => hr a b pins s2 σ H2 x y v u Q I2 rx ry q (hs _ _))
def rIxL (K : PySem.W.Frag) : R2 := fun x y H Q => ∃ p xs i v, x = .ref p ∧ y = .int i ∧ SqL K H p xs ∧ atI xs i = some v ∧ Q v H
def rIxT (K : PySem.W.Frag) : R2 := fun x y H Q => ∃ p xs i v, x = .ref p ∧ y = .int i ∧ SqT K H p xs ∧ atI xs i = some v ∧ Q v H
theorem ix_list : IxR X (rIxL X.K) := by
  intro value slice pins s σ H x y v u Q I rx ry h hs
  obtain ⟨p, xs, i, z, rfl, rfl, hq, he, q⟩ := h
  cases rx
  obtain ⟨t, rfl⟩ := ry
  obtain ⟨its, r, pl, hz⟩ := I.list hq
  obtain ⟨j, h1, h2, h3, h4, h5⟩ := atI_get he
  obtain ⟨w, ew, rw'⟩ := r.get h2
  have hl := r.length
  have hn := line63
  have fin : EP X pins σ Q w s := ⟨z, H, I, rw', q⟩
  by_cases h0 : 0 ≤ i
  · have hj : i.toNat = j := by
      rw [seqIndex_of h0 h5] at h1
      exact Option.some.inj h1
    exact item_listR pl.isList h0 (by omega) (by rw [hj]; simpa using ew) fin hs
  · have hj : (i + (its.toArray.size : Int)).toNat = j := by
      rw [seqIndex_neg (by omega) h4] at h1
      rw [List.size_toArray, ← hl]
      exact Option.some.inj h1
    exact subscriptTail_builtinR (x := w) pl.isList.typeIs slot_list_getitem.lookup
      (wpAny_getItem_list_neg (Q := fun r s' => r = w ∧ EP X pins σ Q r s') pl.isList (by omega) (by rw [List.size_toArray] <;> omega) (by omega) (by rw [hj]; simpa using ew) ⟨rfl, fin⟩) hs
theorem ix_tup : IxR X (rIxT X.K) := by
  intro value slice pins s σ H x y v u Q I rx ry h hs
  obtain ⟨p, xs, i, z, rfl, rfl, hq, he, q⟩ := h
  cases rx
  obtain ⟨t, rfl⟩ := ry
  obtain ⟨its, r, pl, hz⟩ := I.tuple hq
  obtain ⟨j, h1, h2, h3, h4, h5⟩ := atI_get he
  obtain ⟨w, ew, rw'⟩ := r.get h2
  have hl := r.length
  have hn := line63
  have fin : EP X pins σ Q w s := ⟨z, H, I, rw', q⟩
  exact subscriptTail_builtinR (x := w) pl.typeIs slot_tuple_getitem.lookup
    (getItem_tuple (j := j) (Q := fun r s' => r = w ∧ EP X pins σ Q r s') pl (by omega) (by omega) (by rw [List.size_toArray, ← hl]; exact h1) (by simpa using ew) ⟨rfl, fin⟩) hs
theorem Inv.lst {pins : List (Addr × Obj)} {σ : St} {H : Hp} {s : Shared} {p : Addr} {xs : List V} (I : Inv X pins σ H s) (h : H p = some (.lst xs)) :
    ∃ (its : List Value) (n : Nat), Vals xs its ∧ s.heap.get? p = some { cls := .type "list", data := .seq its.toArray n } ∧ xs.length ≤ sizeLine := by
  obtain ⟨z, its, n, r, e⟩ := I.hok p _ h
  exact ⟨its, n, r, e, z⟩
theorem slice_bounds (lo hi : Option Int) (n : Nat) : (sliceBounds lo hi none n).1 = ((HT.sIx n 0 lo : Nat) : Int) ∧ (sliceBounds lo hi none n).2.1 = ((HT.sIx n n hi : Nat) : Int) ∧ (sliceBounds lo hi none n).2.2 = 1 := by
  refine ⟨?_, ?_, rfl⟩
  · cases lo with
    | none => simp [sliceBounds, HT.sIx]
    | some i =>
      simp only [sliceBounds, HT.sIx, Option.getD_none, show (1 : Int) > 0 by decide, if_true]
      by_cases h : i < 0
      · simp only [h, if_true] <;> omega
      · simp only [h, if_false] <;> omega
  · cases hi with
    | none => simp [sliceBounds, HT.sIx]
    | some i =>
      simp only [sliceBounds, HT.sIx, Option.getD_none, show (1 : Int) > 0 by decide, if_true]
      by_cases h : i < 0
      · simp only [h, if_true] <;> omega
      · simp only [h, if_false] <;> omega
theorem slicePick_cut (its : List Value) (lo hi : Option Int) : slicePick its.toArray lo hi none = ((its.drop (HT.sIx its.length 0 lo)).take (HT.sIx its.length its.length hi - HT.sIx its.length 0 lo)).toArray := by
  obtain ⟨h1, h2, h3⟩ := slice_bounds lo hi its.toArray.size
  unfold slicePick
  rw [h1, h2, h3]
  simp only [sliceRange_one, pick_run, List.size_toArray] <;> rfl
def rSlL (K : PySem.W.Frag) : V → Option Int → Option Int → Hp → VK → Prop := fun x lo hi H Q => ∃ a xs, x = .ref a ∧ SqL K H a xs ∧ ∀ p, H p = none → Q (.ref p) (upd H p (.lst (cutV xs lo hi)))
theorem sl_list : SlR X (rSlL X.K) := by
  intro pins s σ H x v vl vu lo hi sl Q I rx hs pl pu h
  obtain ⟨a, xs, rfl, hx, q⟩ := h
  cases rx
  obtain ⟨its, r, ht, hz⟩ := I.list hx
  have hlen := r.length
  refine ⟨"list", _, slot_list_getitem.lookup, ht.isList.typeIs, ?_⟩
  refine wpAny_getItem_list_slice ht.isList hs pl pu .none (by simp) ?_ (by rw [List.size_toArray] <;> omega)
  rw [slicePick_cut, ← hlen]
  refine ⟨.ref s.heap.objs.size, _, I.laid (t' := s.toks) (o := .lst (cutV xs lo hi)) (fun b ob q => Heap.get?_push_of_some _ q) (Nat.le_refl _) ?_, rfl, q _ (I.hok.fresh (Nat.le_refl _))⟩
  exact ⟨Nat.le_trans (cutV_length xs lo hi) hz, _, 0, (r.drop (HT.sIx xs.length 0 lo)).take (HT.sIx xs.length xs.length hi - HT.sIx xs.length 0 lo), Heap.get?_push_size _ rfl⟩
theorem call_len_seq : CallR X (.builtin "len") (fun xs H Q => ∃ p ys, xs = [.ref p] ∧ (SqL X.K H p ys ∨ SqT X.K H p ys) ∧ Q (.int ys.length) H) := by
  intro pins s σ H xs us Q I r h
  obtain ⟨p, ys, rfl, hq, q⟩ := h
  obtain ⟨u, rfl, rx⟩ := vals1 r
  cases rx
  have hn := line63
  rcases hq with hq | hq
  · obtain ⟨its, r', pl, hz⟩ := I.list hq
    have hlen := r'.length
    exact Calls.call_len_list pl.isList (by simp only [List.size_toArray] <;> omega) ⟨.int ys.length, H, I.tok _, ⟨s.toks + 1, by rw [List.size_toArray, hlen]⟩, q⟩
  · obtain ⟨its, r', pl, hz⟩ := I.tuple hq
    have hlen := r'.length
    exact len_tuple pl (by simp only [List.size_toArray] <;> omega) ⟨.int ys.length, H, I.tok _, ⟨s.toks + 1, by rw [List.size_toArray, hlen]⟩, q⟩
def tyV (K : PySem.W.Frag) (T : String) (x : V) (H : Hp) : Prop := match x with
  | .str _ => T = "str"
  | .int _ => T = "int"
  | .ref p => (T = "list" ∧ ∃ xs, SqL K H p xs) ∨ (T = "tuple" ∧ ∃ o, K.lookup p = some o ∧ o.cls = .type "tuple" ∧ o.dict = none) ∨
      (T = "dict" ∧ ((∃ kvs, H p = some (.dK kvs)) ∨ ∃ kvs, H p = some (.dT kvs))) ∨ (T = "set" ∧ ∃ S n, H p = some (.set S n))
  | _ => False
theorem tyV_is {pins : List (Addr × Obj)} {σ : St} {H : Hp} {s : Shared} {T : String} {x : V} {v : Value} (I : Inv X pins σ H s) (r : RelV x v) (ty : tyV X.K T x H) :
    s.TypeIs v T ∧ ∀ a, v = .ref a → ∃ ob, s.heap.get? a = some ob ∧ ob.dict = none := by
  cases x with
  | str z =>
    obtain ⟨t, rfl⟩ := r
    cases (show T = "str" from ty)
    exact ⟨typeIs_str s z t, fun _ e => nomatch e⟩
  | int i =>
    obtain ⟨t, rfl⟩ := r
    cases (show T = "int" from ty)
    exact ⟨typeIs_int s i t, fun _ e => nomatch e⟩
  | ref p =>
    cases r
    rcases ty with ⟨rfl, xs, hq⟩ | ⟨rfl, o, hk, hc, hd⟩ | ⟨rfl, hk⟩ | ⟨rfl, S, n, hk⟩
    · obtain ⟨its, _, pl, _⟩ := I.list hq
      refine ⟨pl.isList.typeIs, fun a e => ?_⟩
      cases e
      obtain ⟨o, n, e, c, hd, _⟩ := pl
      exact ⟨o, e, hd⟩
    · refine ⟨⟨o, I.kIn p o hk, hc⟩, fun a e => ?_⟩
      cases e
      exact ⟨o, I.kIn _ o hk, hd⟩
    · have z : ∃ o, s.heap.get? p = some o ∧ o.ExactDict := by
        rcases hk with ⟨kvs, hk⟩ | ⟨kvs, hk⟩
        · obtain ⟨_, _, _, _, o, _, _, e, ex, _⟩ := I.hok p _ hk
          exact ⟨o, e, ex⟩
        · obtain ⟨_, _, _, _, o, _, _, e, ex, _⟩ := I.hok p _ hk
          exact ⟨o, e, ex⟩
      obtain ⟨o, e, ex⟩ := z
      refine ⟨⟨o, e, ex.1⟩, fun a e2 => ?_⟩
      cases e2
      exact ⟨o, e, ex.2.1⟩
    · obtain ⟨o, _, _, _, e, ex, _⟩ := I.hok p _ hk
      refine ⟨⟨o, e, ex.1⟩, fun a e2 => ?_⟩
      cases e2
      exact ⟨o, e, ex.2.1⟩
  | _ => exact False.elim ty
def tBM (K : PySem.W.Frag) (T : String) (r : V → List V → Hp → VK → Prop) (to : TE) (t : TA) : TE := fun σ H Q => to σ H fun x H1 => tyV K T x H1 ∧ t σ H1 fun xs H2 => r x xs H2 Q
variable {o e : Expr} {es : List Expr} {to : TE} {t : TA} {name : Str} {apos cpos : Pos} {T id : String} {r : V → List V → Hp → VK → Prop}
theorem pe_bm (pa : PlainAttrs T) (slot : Slot T name id) (hty : typeOf (.builtin id) = pure (.type "method_descriptor")) (hm : MtR X id r) (ho : PE X o to) (ha : PA X (e :: es) t)
    (hbase : attributeBase o name X.env (eval o X.env) = eval o X.env := by rfl)
    (hfew : ((backTo cpos (starEach (e :: es) X.env)).all (fun x => !x.1) && (backToKw cpos (keywordEach [] X.env)).all (fun x => x.1.isSome)
      && decide ((e :: es).length + ([] : List Keyword).length + (if ([] : List Keyword).isEmpty then 0 else 1) < 30)) = true := by rfl)
    (hline : (apos.endLine == cpos.line) = true := by rfl) (hs : starEach (e :: es) X.env = (false, eval e X.env) :: starEach es X.env := by rfl) (hplain : (backTo cpos (starEach es X.env)).any (·.1) = false := by rfl) :
    PE X (.Call (.Attribute o name apos) (e :: es) [] cpos) (tBM X.K T r to t) := by
  intro pins s σ H Q I h
  refine wpAny_Call_method_late hbase hfew hline rfl (thn (ho pins s σ H _ I h) fun v s1 ⟨x, H1, I1, r1, ty, q1⟩ => ?_)
  obtain ⟨h1, h2⟩ := tyV_is I1 r1 ty
  refine ⟨T, id, pa, slot, hty, h1, h2, ?_⟩
  have hA := ha cpos pins s1 σ H1 _ I1 q1
  rw [hs] at hA ⊢
  refine Calls.callWith_builtin (by show (false || (backTo cpos (starEach es X.env)).any (·.1)) = false; rw [hplain] <;> rfl) (Calls.evalArgs_plain ?_)
  exact thn hA fun us s2 ⟨vs, H2, I2, r2, q2⟩ => hm pins s2 σ H2 x vs v us Q I2 r1 r2 q2
end
end L2
namespace L2
open PySem PySem.Spec PyProof.Rows
def MtM (X : Cx) (id : String) (r : V → List V → Hp → VK → Prop) : Prop :=
  ∀ (pins : List (Addr × Obj)) (s : Shared) (σ : St) (H : Hp) (x : V) (xs : List V) (v : Value) (us : List Value) (Q : VK), Inv X pins σ H s → RelV x v → Vals xs us → r x xs H Q →
    wpAny (model X.prog X.w) X.A (call (.builtin id) (v :: us)) (EP X pins σ Q) X.xe s
theorem Vals.one : ∀ {x : V} {us : List Value}, Vals [x] us → ∃ u, us = [u] ∧ RelV x u
  | _, _, .cons r .nil => ⟨_, rfl, r⟩
theorem Vals.two : ∀ {x y : V} {us : List Value}, Vals [x, y] us → ∃ u v, us = [u, v] ∧ RelV x u ∧ RelV y v
  | _, _, _, .cons r (.cons q .nil) => ⟨_, _, rfl, r, q⟩
theorem Vals.zero : ∀ {us : List Value}, Vals [] us → us = []
  | _, .nil => rfl
theorem Vals.reverse {xs : List V} {us : List Value} (h : Vals xs us) : Vals xs.reverse us.reverse := by
  induction h with
  | nil => exact .nil
  | cons r t ih => rw [List.reverse_cons, List.reverse_cons]; exact Vals.append ih (.cons r .nil)
section
variable {X : Cx} {pins : List (Addr × Obj)} {σ : St} {H : Hp} {s : Shared} {l b : Addr} {xs ys zs : List V}
theorem Inv.lset {its its' : List Value} {n : Nat} {f : Array Value → Array Value} {t' : Nat} (I : Inv X pins σ H s) (hH : H l = some (.lst xs))
    (e : s.heap.get? l = some { cls := .type "list", data := .seq its.toArray n }) (hf : f its.toArray = its'.toArray) (hv : Vals ys its') (hz : ys.length ≤ sizeLine) :
    Inv X pins σ (upd H l (.lst ys)) { s with heap := s.heap.update l (Obj.mapSeq f), toks := t' } := by
  have q := PySem.IsL.update e f
  rw [hf] at q
  refine I.write (x := l) (e := l) (by rw [hH]; exact trivial) (.inl rfl) (fun b' u hb hu => (Heap.get?_update_other s.heap (Obj.mapSeq f) (Ne.symm hb)).trans hu) ⟨_, q⟩ ?_
  exact ⟨hz, its', _, hv, q⟩
theorem Inv.lnew {its : List Value} {t' : Nat} (I : Inv X pins σ H s) (hv : Vals ys its) (hz : ys.length ≤ sizeLine) :
    Inv X pins σ (upd H s.heap.objs.size (.lst ys)) { s with heap := s.heap.push { cls := .type "list", data := .seq its.toArray }, toks := t' } :=
  I.laid (fun _ _ q => Heap.get?_push_of_some _ q) (Nat.le_refl _) ⟨hz, its, 0, hv, Heap.get?_push_size _ rfl⟩
theorem Inv.fresh (I : Inv X pins σ H s) : H s.heap.objs.size = none := I.hok.fresh (Nat.le_refl _)
theorem Inv.lstM (I : Inv X pins σ H s) (hH : H l = some (.lst xs)) : xs.length ≤ sizeLine ∧ ∃ (its : List Value) (n : Nat), Vals xs its ∧ xs.length = its.length ∧ s.heap.get? l = some { cls := .type "list", data := .seq its.toArray n } := by
  obtain ⟨z, its, n, r, e⟩ := I.hok l _ hH
  exact ⟨z, its, n, r, r.length, e⟩
end
section
variable {X : Cx}
def rAppend : V → List V → Hp → VK → Prop := fun x vs H Q => ∃ l xs y, x = .ref l ∧ vs = [y] ∧ H l = some (.lst xs) ∧ xs.length < sizeLine ∧ Q .non (upd H l (.lst (xs ++ [y])))
theorem mt_append : MtM X "list.append" rAppend := by
  intro pins s σ H x vs v us Q I rx rv h
  obtain ⟨l, xs, y, rfl, rfl, hH, hz, q⟩ := h
  cases rx
  obtain ⟨u, rfl, ru⟩ := rv.one
  obtain ⟨z, its, n, r, hl, e⟩ := I.lstM hH
  refine call_meets F.slot_list_append ⟨_, e, rfl⟩ F.entry_list_append (F.args_list_append_2 _ _) (PySem.list_append l its.toArray n u (by rw [List.size_toArray]; omega)) ⟨e, ?_⟩
  refine ⟨.non, _, I.lset (its' := its ++ [u]) hH e (by simp) (r.append (.cons ru .nil)) ?_, rfl, q⟩
  rw [List.length_append, List.length_singleton]
  omega
end
section
variable {prog : Program} {w : World} {A : Around} {E : Value → Shared → Prop} {s : Shared}
end
section
variable {X : Cx}
end
end L2
namespace L2
open PySem PySem.Spec PyProof.Rows
theorem Vals.ints : ∀ {ns : List Int} {us : List Value}, Vals (ns.map V.int) us → IntsAre us ns
  | [], us, h => by
    rw [List.map_nil] at h
    cases h
    exact IntsAre.nil
  | n :: ns, us, h => by
    rw [List.map_cons] at h
    cases h with
    | cons r t =>
      obtain ⟨k, rfl⟩ := r
      exact IntsAre.cons n k (Vals.ints t)
theorem Vals.strs : ∀ {xs : List Str} {us : List Value}, Vals (xs.map V.str) us → StrsAre us xs
  | [], us, h => by
    rw [List.map_nil] at h
    cases h
    exact StrsAre.nil
  | x :: xs, us, h => by
    rw [List.map_cons] at h
    cases h with
    | cons r t =>
      obtain ⟨k, rfl⟩ := r
      exact StrsAre.cons x k (Vals.strs t)
theorem Vals.bls : ∀ {bs : List Bool} {us : List Value}, Vals (bs.map V.bl) us → us = bs.map Value.bool
  | [], us, h => by
    rw [List.map_nil] at h
    cases h
    rfl
  | b :: bs, us, h => by
    rw [List.map_cons] at h
    cases h with
    | cons r t =>
      cases r
      rw [Vals.bls t, List.map_cons]
theorem Vals.ref1 {a : Addr} {us : List Value} (r : Vals [V.ref a] us) : us = [Value.ref a] := by
  cases r with
  | cons r t =>
    cases t
    cases r
    rfl
section
variable {prog : Program} {w : World} {A : Around} {E : Value → Shared → Prop} {s : Shared} {l : Addr} {its : List Value} {ns : List Int} {Q : Value → Shared → Prop}
theorem sum_raw (hh : A.handled = none) (hl : s.heap.IsList l its.toArray) (hi : IntsAre its ns)
    (h : ∀ h' tk t', (∀ b o, s.heap.get? b = some o → h'.get? b = some o) → Q (.int ns.sum t') { s with heap := h', toks := tk }) : wpAny (model prog w) A (call (.builtin "sum") [.ref l]) Q E s := by
  obtain ⟨xs, e⟩ := hi.allInts.items
  have hn : numsOf (intItems xs).toList = ns := by rw [← e]; exact hi.numsOf
  rw [nums_intItems] at hn
  rw [e] at hl
  refine PySem.sum_intListG hh hl fun h' tk t' hk => ?_
  have := h h' tk t' hk
  rw [preSum_eq, List.take_of_length_le (by simp), hn]; exact this
end
section
variable {X : Cx}
def rSum (K : PySem.W.Frag) : List V → Hp → VK → Prop := fun vs H Q => ∃ (a : Addr) (ns : List Int), vs = [V.ref a] ∧ SqL K H a (ns.map V.int) ∧ Q (.int ns.sum) H
theorem cr_sum (hc : X.calm = true) : CallR X (.builtin "sum") (rSum X.K) := by
  intro pins s σ H vs us Q I r h
  obtain ⟨a, ns, rfl, hs, q⟩ := h
  obtain ⟨its, rv, hl, _⟩ := I.list hs
  rw [Vals.ref1 r]
  exact sum_raw (I.ok.hd hc) hl.isList rv.ints fun h' tk t' hk => ⟨.int _, H, I.kept hk, ⟨_, rfl⟩, q⟩
end
section
variable {X : Cx}
end
section
variable {X : Cx}
end
theorem iter_any {prog : Program} {w : World} {A : Around} {E : Value → Shared → Prop} {s : Shared} {l : Addr} {items : Array Value} {Q : Value → Shared → Prop} (hl : s.heap.IsList l items)
    (h : ∀ s₂ : Shared, s₂ = { s with heap := s.heap.push { cls := .type "list_iterator", data := .fields #[.ref l, .int 0 0] } } →
      (s₂.heap.IsListIter s.heap.objs.size l 0 ∧ s₂.heap.IsList l items) → l ≠ s.heap.objs.size → Q (.ref s.heap.objs.size) s₂) : wpAny (model prog w) A (pyIter (.ref l)) Q E s := by
  have hlt : l < s.heap.objs.size := by obtain ⟨_, e, _⟩ := hl; exact Heap.lt_size e
  exact wpAny_pyIter_list hl (h _ rfl ⟨⟨_, Heap.get?_push_size _ rfl, rfl, rfl⟩, hl.push _⟩ (Nat.ne_of_lt hlt))
theorem truth_bools {prog : Program} {w : World} {A : Around} {bs : List Bool} {its : List Value} (e : its = bs.map Value.bool) :
    TruthOf prog w A (fun i v => its.toArray[i]? = some v) (fun i => bs.getD i false) := fun i v s Q E hv hq => by
  have hv' : its[i]? = some v := by simpa using hv
  rw [e, List.getElem?_map] at hv'
  obtain ⟨b, hb, rfl⟩ := Option.map_eq_some_iff.mp hv'
  have hg : bs.getD i false = b := by rw [List.getD_eq_getElem?_getD, hb] <;> rfl
  have hq' : Q (bs.getD i false) s := hq
  rw [hg] at hq'
  exact wpAny_truthy_bool hq'
theorem any_range : ∀ bs : List Bool, (List.range bs.length).any (fun i => bs.getD i false) = bs.any id
  | [] => rfl
  | b :: bs => by
    rw [List.length_cons, List.range_succ_eq_map, List.any_cons, List.any_map, List.any_cons, ← any_range bs]
    all_goals rfl
theorem all_range : ∀ bs : List Bool, (List.range bs.length).all (fun i => bs.getD i false) = bs.all id
  | [] => rfl
  | b :: bs => by
    rw [List.length_cons, List.range_succ_eq_map, List.all_cons, List.all_map, List.all_cons, ← all_range bs]
    all_goals rfl
section
variable {X : Cx}
def rAny (K : PySem.W.Frag) : List V → Hp → VK → Prop := fun vs H Q => ∃ (a : Addr) (bs : List Bool), vs = [V.ref a] ∧ SqL K H a (bs.map V.bl) ∧ Q (.bl (bs.any id)) H
def rAll (K : PySem.W.Frag) : List V → Hp → VK → Prop := fun vs H Q => ∃ (a : Addr) (bs : List Bool), vs = [V.ref a] ∧ SqL K H a (bs.map V.bl) ∧ Q (.bl (bs.all id)) H
theorem cr_any (hc : X.calm = true) : CallR X (.builtin "any") (rAny X.K) := by
  intro pins s σ H vs us Q I r h
  obtain ⟨a, bs, rfl, hs, q⟩ := h
  obtain ⟨its, rv, hl, _⟩ := I.list hs
  rw [Vals.ref1 r]
  have hb := rv.bls
  refine call_any_walk (iter_any hl.isList fun s₂ e2 st hne => ?_)
  subst e2
  refine ⟨_, _, _, _, _, _, _, rfl, Walks.list (A := X.A.in1) (I.ok.hd hc) _ a hne its.toArray, st, truth_bools hb, fun h' tk hk => ?_⟩
  refine ⟨.bl _, H, I.kept fun b o eo => hk b o (fun hmem => ?_) (Heap.get?_push_of_some _ eo), ?_, q⟩
  · rcases List.mem_cons.mp hmem with e1 | hmem
    · exact absurd (e1 ▸ Heap.lt_size eo) (Nat.lt_irrefl _)
    · cases hmem
  · show Value.bool _ = Value.bool _
    rw [← any_range, hb, List.size_toArray, List.length_map]
theorem cr_all (hc : X.calm = true) : CallR X (.builtin "all") (rAll X.K) := by
  intro pins s σ H vs us Q I r h
  obtain ⟨a, bs, rfl, hs, q⟩ := h
  obtain ⟨its, rv, hl, _⟩ := I.list hs
  rw [Vals.ref1 r]
  have hb := rv.bls
  refine call_all_walk (iter_any hl.isList fun s₂ e2 st hne => ?_)
  subst e2
  refine ⟨_, _, _, _, _, _, _, rfl, Walks.list (A := X.A.in1) (I.ok.hd hc) _ a hne its.toArray, st, truth_bools hb, fun h' tk hk => ?_⟩
  refine ⟨.bl _, H, I.kept fun b o eo => hk b o (fun hmem => ?_) (Heap.get?_push_of_some _ eo), ?_, q⟩
  · rcases List.mem_cons.mp hmem with e1 | hmem
    · exact absurd (e1 ▸ Heap.lt_size eo) (Nat.lt_irrefl _)
    · cases hmem
  · show Value.bool _ = Value.bool _
    rw [← all_range, hb, List.size_toArray, List.length_map]
end
mutual
inductive Dp (K : PySem.W.Frag) (H : Hp) : V → PyData → Prop
  | non : Dp K H .non .none
  | bl (b : Bool) : Dp K H (.bl b) (.bool b)
  | int (i : Int) : Dp K H (.int i) (.int i)
  | str (x : Str) : Dp K H (.str x) (.str x)
  | lst {a : Addr} {xs : List V} {ds : List PyData} : SqL K H a xs → DpAll K H xs ds → Dp K H (.ref a) (.list ds)
  | tup {a : Addr} {xs : List V} {ds : List PyData} : SqT K H a xs → DpAll K H xs ds → Dp K H (.ref a) (.tuple ds)
inductive DpAll (K : PySem.W.Frag) (H : Hp) : List V → List PyData → Prop
  | nil : DpAll K H [] []
  | cons {v : V} {vs : List V} {d : PyData} {ds : List PyData} : Dp K H v d → DpAll K H vs ds → DpAll K H (v :: vs) (d :: ds)
end
section
variable {X : Cx} {pins : List (Addr × Obj)} {σ : St} {H : Hp} {s : Shared}
mutual
theorem Dp.reads (I : Inv X pins σ H s) : ∀ (d : PyData) (v : V) (u : Value), Dp X.K H v d → RelV v u → ∃ as, Reads s.heap u d as
  | .none, _, _, h, r => by
    cases h
    cases r
    exact ⟨_, Reads.none⟩
  | .bool b, _, _, h, r => by
    cases h
    cases r
    exact ⟨_, Reads.bool b⟩
  | .int i, _, _, h, r => by
    cases h
    obtain ⟨t, rfl⟩ := r
    exact ⟨_, Reads.int i t⟩
  | .str x, _, _, h, r => by
    cases h
    obtain ⟨t, rfl⟩ := r
    exact ⟨_, Reads.str x t⟩
  | .list ds, _, _, h, r => by
    cases h with
    | lst hs ha =>
      cases r
      obtain ⟨its, rv, ⟨o, n, ho, hc, _, hd⟩, _⟩ := I.list hs
      obtain ⟨as, hr⟩ := Dp.readsAll I ds _ its ha rv
      exact ⟨_, Reads.list ho hc hd hr⟩
  | .tuple ds, _, _, h, r => by
    cases h with
    | tup hs ha =>
      cases r
      obtain ⟨its, rv, ⟨o, ho, hc, n, hd⟩, _⟩ := I.tuple hs
      obtain ⟨as, hr⟩ := Dp.readsAll I ds _ its ha rv
      exact ⟨_, Reads.tuple ho hc hd hr⟩
  | .dict _, _, _, h, _ => by cases h
theorem Dp.readsAll (I : Inv X pins σ H s) : ∀ (ds : List PyData) (vs : List V) (us : List Value), DpAll X.K H vs ds → Vals vs us → ∃ as, ReadsAll s.heap us ds as
  | [], _, _, h, r => by
    cases h
    cases r
    exact ⟨_, ReadsAll.nil⟩
  | d :: ds, _, _, h, r => by
    cases h with
    | cons h1 h2 =>
      cases r with
      | cons r1 r2 =>
        obtain ⟨as, q1⟩ := Dp.reads I d _ _ h1 r1
        obtain ⟨bs, q2⟩ := Dp.readsAll I ds _ _ h2 r2
        exact ⟨_, ReadsAll.cons q1 q2⟩
end
end
section
variable {X : Cx}
def rEqD (K : PySem.W.Frag) : R2 := fun x y H Q => ∃ d e, Dp K H x d ∧ Dp K H y e ∧ SeqAt.shaped d = true ∧ SeqAt.shaped e = true ∧ Q (.bl (PyData.eqv d e)) H
def rNeD (K : PySem.W.Frag) : R2 := fun x y H Q => ∃ d e, Dp K H x d ∧ Dp K H y e ∧ SeqAt.shaped d = true ∧ SeqAt.shaped e = true ∧ Q (.bl (!PyData.eqv d e)) H
theorem op_eqD (hu : X.A.units + 64 < cLine) : OpR X (compareOp .Eq) (rEqD X.K) := by
  intro pins s σ H x y v u Q I rx ry h
  obtain ⟨d, e, hd, he, sd, se, q⟩ := h
  obtain ⟨as, r1⟩ := Dp.reads I d x v hd rx
  obtain ⟨bs, r2⟩ := Dp.reads I e y u he ry
  exact SeqAt.compareEq_shaped r1 r2 sd se hu ⟨.bl _, H, I, rfl, q⟩
theorem op_neD (hu : X.A.units + 64 < cLine) : OpR X (compareOp .NotEq) (rNeD X.K) := by
  intro pins s σ H x y v u Q I rx ry h
  obtain ⟨d, e, hd, he, sd, se, q⟩ := h
  obtain ⟨as, r1⟩ := Dp.reads I d x v hd rx
  obtain ⟨bs, r2⟩ := Dp.reads I e y u he ry
  exact SeqAt.compareNe_shaped r1 r2 sd se hu ⟨.bl _, H, I, rfl, q⟩
end
end L2
namespace L2
open PySem PySem.Spec PyProof.Rows
abbrev CellAt (h : Heap) (c : Addr) (v : Option Value) : Prop := h.IsCell c v
def relS (scope sc : Scope) : Scope :=
  { scope with names := scope.names.map fun (n, k) => if (k == .free && sc.kind == .function && sc.names.lookup n == some .cell) then (n, .cell) else (n, k) }
def cloFrom (cells : List (Str × Addr)) : List (Str × NameKind) → List (Str × Addr) → List (Str × Addr)
  | [], acc => acc
  | (n, k) :: r, acc => if k == .free then cloFrom cells r ((n, (cells.lookup n).getD 0) :: acc) else cloFrom cells r acc
theorem closure_loop (env : Env) (f : Str × NameKind → List (Str × Addr) → Sem (ForInStep (List (Str × Addr))))
    (hf : ∀ n k c, f (n, k) c = if k == .free then (do let a ← cellOf env n; pure (.yield ((n, a) :: c))) else pure (.yield c)) :
    ∀ (names : List (Str × NameKind)) (acc : List (Str × Addr)), (∀ y ∈ names, y.2 = .free → ∃ c, env.cells.lookup y.1 = some c) → forIn names acc f = pure (cloFrom env.cells names acc)
  | [], acc, _ => by rw [List.forIn_nil]; rfl
  | (n, k) :: r, acc, h => by
    rw [List.forIn_cons, hf]
    have ih := fun acc => closure_loop env f hf r acc fun y hy => h y (List.mem_cons_of_mem _ hy)
    unfold cloFrom
    by_cases hk : (k == NameKind.free) = true
    · rw [if_pos hk, if_pos hk]
      obtain ⟨c, hc⟩ := h (n, k) List.mem_cons_self (by simpa using hk)
      have e : cellOf env n = pure c := by unfold cellOf; rw [hc]
      rw [e]
      have e2 : (env.cells.lookup n).getD 0 = c := by rw [hc]; rfl
      rw [e2]
      exact ih _
    · rw [if_neg hk, if_neg hk]
      exact ih _
theorem closure_ok {scope : Scope} {env : Env} (h : ∀ y ∈ scope.names, y.2 = .free → ∃ c, env.cells.lookup y.1 = some c) : closureFor scope env = pure (cloFrom env.cells scope.names []) := by
  simp only [closureFor]
  rw [closure_loop env _ (fun n k c => rfl) scope.names [] h]
  rfl
theorem mem_lookup {α : Type} : ∀ {l : List (Str × α)} {n : Str} {c : α}, (n, c) ∈ l → ∃ c', l.lookup n = some c'
  | (k, v) :: r, n, c, h => by
    rw [List.lookup_cons]
    cases hb : n == k with
    | true => exact ⟨_, rfl⟩
    | false =>
      rcases List.mem_cons.mp h with e | h
      · cases e; simp at hb
      · exact mem_lookup h
theorem cloFrom_mem {cells : List (Str × Addr)} : ∀ {names : List (Str × NameKind)} {acc : List (Str × Addr)} {n : Str} {c : Addr}, (n, c) ∈ cloFrom cells names acc → (n, c) ∈ acc ∨ ((n, .free) ∈ names ∧ c = (cells.lookup n).getD 0)
  | [], _, _, _, h => .inl h
  | (m, k) :: r, acc, n, c, h => by
    unfold cloFrom at h
    split at h
    · rename_i hk
      have hk : k = .free := by simpa using hk
      rcases cloFrom_mem h with h | ⟨h1, h2⟩
      · rcases List.mem_cons.mp h with e | h
        · cases e; exact .inr ⟨hk ▸ List.mem_cons_self, rfl⟩
        · exact .inl h
      · exact .inr ⟨List.mem_cons_of_mem _ h1, h2⟩
    · rcases cloFrom_mem h with h | ⟨h1, h2⟩
      · exact .inl h
      · exact .inr ⟨List.mem_cons_of_mem _ h1, h2⟩
theorem cloFrom_acc {cells : List (Str × Addr)} : ∀ {names : List (Str × NameKind)} {acc : List (Str × Addr)} {p : Str × Addr}, p ∈ acc → p ∈ cloFrom cells names acc
  | [], _, _, h => h
  | (m, k) :: r, acc, p, h => by
    unfold cloFrom
    split
    · exact cloFrom_acc (List.mem_cons_of_mem _ h)
    · exact cloFrom_acc h
theorem cloFrom_has {cells : List (Str × Addr)} : ∀ {names : List (Str × NameKind)} {acc : List (Str × Addr)} {n : Str}, (n, .free) ∈ names → (n, (cells.lookup n).getD 0) ∈ cloFrom cells names acc
  | (m, k) :: r, acc, n, h => by
    unfold cloFrom
    rcases List.mem_cons.mp h with e | h
    · cases e
      exact cloFrom_acc List.mem_cons_self
    · split
      · exact cloFrom_has h
      · exact cloFrom_has h
theorem cells_mem : ∀ {names : List (Str × NameKind)} {h : Heap} {acc : List (Str × Addr)} {x : Str} {c : Addr}, (x, c) ∈ cellsFrom h.objs.size names acc →
    (x, c) ∈ acc ∨ ((x, .cell) ∈ names ∧ h.objs.size ≤ c ∧ CellAt (pushCells h names) c none)
  | [], _, _, _, _, h => .inl h
  | (n, k) :: r, h, acc, x, c, hm => by
    unfold cellsFrom at hm
    unfold pushCells
    split at hm
    · rename_i hk
      rw [if_pos hk]
      have hk : k = .cell := by simpa using hk
      rw [← Heap.size_push h { cls := .type "cell", data := .cell none }] at hm
      rcases cells_mem hm with hm | ⟨h1, h2, h3⟩
      · rcases List.mem_cons.mp hm with e | hm
        · cases e
          exact .inr ⟨hk ▸ List.mem_cons_self, Nat.le_refl _, _, pushCells_keeps r _ _ _ (Heap.get?_push_size _ rfl), rfl⟩
        · exact .inl hm
      · rw [Heap.size_push] at h2
        exact .inr ⟨List.mem_cons_of_mem _ h1, Nat.le_of_succ_le h2, h3⟩
    · rename_i hk
      rw [if_neg hk]
      rcases cells_mem hm with hm | ⟨h1, h2, h3⟩
      · exact .inl hm
      · exact .inr ⟨List.mem_cons_of_mem _ h1, h2, h3⟩
theorem cells_acc : ∀ {names : List (Str × NameKind)} {n : Nat} {acc : List (Str × Addr)} {p : Str × Addr}, p ∈ acc → p ∈ cellsFrom n names acc
  | [], _, _, _, h => h
  | (m, k) :: r, n, acc, p, h => by
    unfold cellsFrom
    split
    · exact cells_acc (List.mem_cons_of_mem _ h)
    · exact cells_acc h
theorem cells_has : ∀ {names : List (Str × NameKind)} {n : Nat} {acc : List (Str × Addr)} {x : Str}, (x, .cell) ∈ names → ∃ c, (x, c) ∈ cellsFrom n names acc
  | (m, k) :: r, n, acc, x, h => by
    unfold cellsFrom
    rcases List.mem_cons.mp h with e | h
    · cases e
      exact ⟨n, cells_acc List.mem_cons_self⟩
    · split
      · exact cells_has h
      · exact cells_has h
theorem cells_inj : ∀ {names : List (Str × NameKind)} {h : Heap} {acc : List (Str × Addr)} {x y : Str} {c : Addr}, (∀ p ∈ acc, p.2 < h.objs.size) → (∀ x y c, (x, c) ∈ acc → (y, c) ∈ acc → x = y) →
    (x, c) ∈ cellsFrom h.objs.size names acc → (y, c) ∈ cellsFrom h.objs.size names acc → x = y
  | [], _, _, _, _, _, _, hi, h1, h2 => hi _ _ _ h1 h2
  | (n, k) :: r, h, acc, x, y, c, hl, hi, h1, h2 => by
    unfold cellsFrom at h1 h2
    split at h1
    · rename_i hk
      rw [if_pos hk] at h2
      rw [← Heap.size_push h { cls := .type "cell", data := .cell none }] at h1 h2
      refine cells_inj (h := h.push _) (fun p hp => ?_) (fun x y c a b => ?_) h1 h2
      · rw [Heap.size_push]
        rcases List.mem_cons.mp hp with rfl | hp
        · exact Nat.lt_succ_self _
        · exact Nat.lt_succ_of_lt (hl p hp)
      · rcases List.mem_cons.mp a with e | a <;> rcases List.mem_cons.mp b with e' | b
        · cases e; cases e'; rfl
        · cases e; exact absurd (hl _ b) (Nat.lt_irrefl _)
        · cases e'; exact absurd (hl _ a) (Nat.lt_irrefl _)
        · exact hi _ _ _ a b
    · rename_i hk
      rw [if_neg hk] at h2
      exact cells_inj hl hi h1 h2
theorem newEnv_comp {M : Model} {A : Around} {E : Value → Shared → Prop} {s : Shared} {scope : Scope} {globals : Addr} {closure : List (Str × Addr)} {qual : Str} {func : Option Addr} {code : Value} {around : Env} {builtins : Addr} {Q : Env → Shared → Prop}
    (h : Q (newEnv scope s.heap.objs.size globals (cellsFrom (s.heap.objs.size + 1) scope.names closure) qual func code (some around) builtins)
      { s with heap := pushCells (s.heap.push { cls := .type "dict", data := .dict #[] }) scope.names }) :
    wpAny M A (newFunctionEnv scope globals closure [] qual func code (some around) builtins) Q E s := by
  simp only [newFunctionEnv, Option.isSome_some, if_true]
  refine wpAny_bind (wpAny_alloc ?_)
  refine wpAny_bind (wpAny_layCells _ (fun n k c => rfl) scope.names closure _ _ ?_)
  rw [show ({ s with heap := s.heap.push { cls := .type "dict", data := .dict #[] } } : Shared).heap.objs.size = s.heap.objs.size + 1 from Heap.size_push ..]
  rw [List.forIn_nil]
  exact wpAny_bind (wpAny_pure (wpAny_pure h))
theorem lookup_relS {sc : Scope} : ∀ {names : List (Str × NameKind)} {x : Str} {k : NameKind},
    (names.map fun (n, k) => if (k == NameKind.free && sc.kind == .function && sc.names.lookup n == some .cell) then (n, NameKind.cell) else (n, k)).lookup x = some k →
    ∃ k', names.lookup x = some k' ∧ (k = k' ∨ (k' = .free ∧ k = .cell))
  | [], _, _, h => by simp at h
  | (n, k₀) :: r, x, k, h => by
    have ih := @lookup_relS sc r x k
    have h' : List.lookup x ((if (k₀ == NameKind.free && sc.kind == .function && sc.names.lookup n == some .cell) = true then (n, NameKind.cell) else (n, k₀)) :: (r.map _)) = some k := h
    cases hx : x == n with
    | true =>
      simp only [List.lookup_cons, hx]
      by_cases hc : (k₀ == NameKind.free && sc.kind == .function && sc.names.lookup n == some .cell) = true
      · rw [if_pos hc] at h'
        simp only [List.lookup_cons, hx] at h'
        cases h'
        simp only [Bool.and_eq_true, beq_iff_eq] at hc
        exact ⟨k₀, rfl, .inr ⟨hc.1.1, rfl⟩⟩
      · rw [if_neg hc] at h'
        simp only [List.lookup_cons, hx] at h'
        cases h'
        exact ⟨_, rfl, .inl rfl⟩
    | false =>
      simp only [List.lookup_cons, hx]
      by_cases hc : (k₀ == NameKind.free && sc.kind == .function && sc.names.lookup n == some .cell) = true
      · rw [if_pos hc] at h'
        simp only [List.lookup_cons, hx] at h'
        exact ih h'
      · rw [if_neg hc] at h'
        simp only [List.lookup_cons, hx] at h'
        exact ih h'
structure BlkOk (N : List Str) (sc scope : Scope) (own : List (Str × Nat)) : Prop where
  kind : scope.kind = .function
  uniq : ∀ y ∈ scope.names, scope.names.lookup y.1 = some y.2
  ix : ∀ p ∈ own, N[p.2]? = some p.1
  free : ∀ y ∈ scope.names, y.2 = .free → sc.names.lookup y.1 = some .cell ∨ sc.names.lookup y.1 = some .free
  own : ∀ y ∈ scope.names, y.2 = .local ∨ y.2 = .cell → y.1 ∈ own.map (·.1) ∨ y.1 ∉ N
def wipe (σ : St) : List Nat → St
  | [] => σ
  | v :: vs => (wipe σ vs).set v none
theorem wipe_length (σ : St) : ∀ vs : List Nat, (wipe σ vs).length = σ.length
  | [] => rfl
  | v :: vs => by unfold wipe; rw [List.length_set, wipe_length σ vs]
theorem wipe_some {σ : St} {i : Nat} {x : V} : ∀ {vs : List Nat}, (wipe σ vs)[i]? = some (some x) → σ[i]? = some (some x) ∧ i ∉ vs
  | [], h => ⟨h, by simp⟩
  | v :: vs, h => by
    unfold wipe at h
    by_cases hi : v = i
    · subst hi
      by_cases hv : v < (wipe σ vs).length
      · rw [List.getElem?_set_self hv] at h; cases h
      · rw [List.getElem?_eq_none (by simpa using hv)] at h; cases h
    · rw [List.getElem?_set_ne hi] at h
      obtain ⟨h1, h2⟩ := wipe_some h
      exact ⟨h1, by simp only [List.mem_cons, not_or]; exact ⟨fun e => hi e.symm, h2⟩⟩
abbrev Cx.blk (X : Cx) (s : Shared) (H : Hp) (scope : Scope) (cenv : Env) (fp : List Addr) : Cx := { X with s_0 := s, H_0 := H, env := cenv, outer := X.stack, ex := fp, fn := fun x => scope.names.lookup x == some .cell, pn := [], xe := fun _ _ => False }
section
variable {X : Cx} {pins : List (Addr × Obj)} {σ : St} {H : Hp} {s : Shared}
theorem block_start {scope : Scope} {own : List (Str × Nat)} {fp : List Addr} (I : Inv X pins σ H s) (ok : BlkOk X.N X.env.scope scope own) (hN : X.N.Nodup) (hfp : ∀ b ∈ fp, FpOk X pins H b ∧ b < s.heap.objs.size) :
    Inv (X.blk s H scope (compEnvC scope (cellsFrom (s.heap.objs.size + 1) scope.names (cloFrom X.env.cells scope.names [])) s.heap.objs.size X.env) fp) [] (wipe σ (own.map (·.2))) H { s with heap := pushCells (s.heap.push { cls := .type "dict", data := .dict #[] }) scope.names } := by
  have hfree : ∀ y ∈ scope.names, y.2 = .free → ∃ c, X.env.cells.lookup y.1 = some c := fun y hy e => by
    rcases ok.free y hy e with k | k
    · exact I.ok.has _ (.inl k)
    · exact I.ok.has _ (.inr k)
  generalize hcenv : compEnvC scope (cellsFrom (s.heap.objs.size + 1) scope.names (cloFrom X.env.cells scope.names [])) s.heap.objs.size X.env = cenv
  have kp : ∀ b o, s.heap.get? b = some o → (pushCells (s.heap.push { cls := .type "dict", data := .dict #[] }) scope.names).get? b = some o := fun b o e => pushCells_keeps _ _ _ _ (Heap.get?_push_of_some _ e)
  have hL : cenv.locals = s.heap.objs.size := by rw [← hcenv]; rfl
  have hcl : cenv.cells = cellsFrom (s.heap.objs.size + 1) scope.names (cloFrom X.env.cells scope.names []) := by rw [← hcenv]; rfl
  have hsc : cenv.scope = relS scope X.env.scope := by rw [← hcenv]; rfl
  rw [← Heap.size_push s.heap { cls := .type "dict", data := .dict #[] }] at hcl
  have cm : ∀ {y c}, (y, c) ∈ cloFrom X.env.cells scope.names [] → X.env.cells.lookup y = some c ∧ c < s.heap.objs.size := fun {y c} hm => by
    rcases cloFrom_mem hm with hm | ⟨h1, rfl⟩
    · cases hm
    · obtain ⟨c, hc⟩ := hfree _ h1 rfl
      rw [hc]
      obtain ⟨w, z⟩ := I.cell _ _ hc
      exact ⟨rfl, z.lt⟩
  have mem : ∀ {y c}, cenv.cells.lookup y = some c → (X.env.cells.lookup y = some c ∧ c < s.heap.objs.size) ∨ (s.heap.objs.size + 1 ≤ c ∧ CellAt (pushCells (s.heap.push { cls := .type "dict", data := .dict #[] }) scope.names) c none) := fun {y c} e => by
    rw [hcl] at e
    rcases cells_mem (PySem.mem_of_lookup e) with hm | ⟨_, h2, h3⟩
    · exact .inl (cm hm)
    · rw [Heap.size_push] at h2; exact .inr ⟨h2, h3⟩
  have look : ∀ {y}, scope.names.lookup y = some .free → ∃ c, cenv.cells.lookup y = some c ∧ X.env.cells.lookup y = some c := fun {y} hl => by
    have hy : (y, NameKind.free) ∈ scope.names := PySem.mem_of_lookup hl
    obtain ⟨c', e'⟩ := mem_lookup (cells_acc (names := scope.names) (n := (s.heap.push { cls := .type "dict", data := .dict #[] }).objs.size) (cloFrom_has (cells := X.env.cells) (acc := []) hy))
    rw [← hcl] at e'
    refine ⟨c', e', ?_⟩
    rw [hcl] at e'
    rcases cells_mem (PySem.mem_of_lookup e') with hm | ⟨h1, _, _⟩
    · exact (cm hm).1
    · have := ok.uniq _ h1
      rw [hl] at this; cases this
  have okB : (X.blk s H scope cenv fp).Ok := by
    refine ⟨I.ok.mod, by show cenv.scope.kind = _; rw [hsc]; exact ok.kind, by show cenv.globals = _; rw [← hcenv]; exact I.ok.glob, by show cenv.builtins = _; rw [← hcenv]; exact I.ok.blt, by show s.heap.objs.size ≤ cenv.locals; rw [hL]; exact Nat.le_refl _,
      fun y z c e1 e2 => ?_, fun y hy => ?_, fun y c z e => ?_, I.ok.hd, I.ok.frames, .inl rfl, fun b hb => ⟨?_, fun y c e z => ?_⟩, I.bs, Nat.le_trans I.ok.bsz I.sz, fun b o e hb => ?_, fun b hb z => ?_, I.stack, I.stkFree⟩
    · have e1 : cenv.cells.lookup y = some c := e1
      have e2 : cenv.cells.lookup z = some c := e2
      rw [hcl] at e1 e2
      refine cells_inj (fun p hp => ?_) (fun y z c a b => I.ok.inj y z c (cm a).1 (cm b).1) (PySem.mem_of_lookup e1) (PySem.mem_of_lookup e2)
      rw [Heap.size_push]
      exact Nat.lt_succ_of_lt (cm (y := p.1) (c := p.2) hp).2
    · show ∃ c, cenv.cells.lookup y = some c
      have key : ∀ k, cenv.kindOf y = some k → (k = .cell ∨ k = .free) → ∃ c, cenv.cells.lookup y = some c := fun k hk hk' => by
        unfold Env.kindOf at hk
        rw [hsc] at hk
        obtain ⟨k', e, r⟩ := lookup_relS hk
        have : k' = .cell ∨ k' = .free := by
          rcases r with rfl | ⟨rfl, _⟩
          · exact hk'
          · exact .inr rfl
        rcases this with rfl | rfl
        · obtain ⟨c, hm⟩ := cells_has (n := (s.heap.push { cls := .type "dict", data := .dict #[] }).objs.size) (acc := cloFrom X.env.cells scope.names []) (PySem.mem_of_lookup e)
          obtain ⟨c', e'⟩ := mem_lookup hm
          exact ⟨c', by rw [hcl]; exact e'⟩
        · obtain ⟨c, h1, _⟩ := look e
          exact ⟨c, h1⟩
      rcases hy with hy | hy
      · exact key _ hy (.inl rfl)
      · exact key _ hy (.inr rfl)
    · have z : (scope.names.lookup y == some NameKind.cell) = true := z
      have z : scope.names.lookup y = some .cell := by simpa using z
      have e : cenv.cells.lookup y = some c := e
      rw [hcl] at e
      rcases cells_mem (PySem.mem_of_lookup e) with hm | ⟨_, h2, _⟩
      · rcases cloFrom_mem hm with hm | ⟨h1, _⟩
        · cases hm
        · have q := ok.uniq _ h1
          rw [z] at q; cases q
      · rw [Heap.size_push] at h2
        exact Nat.le_of_succ_le h2
    · show b ≠ cenv.locals
      rw [hL]; exact Nat.ne_of_lt (hfp b hb).2
    · have e : cenv.cells.lookup y = some c := e
      rcases mem e with ⟨h1, _⟩ | ⟨h1, _⟩
      · exact (hfp b hb).1.2.2.2.2.1 y c h1 z
      · have h2 : s.heap.objs.size + 1 ≤ b := by rw [← z]; exact h1
        exact absurd (Nat.lt_of_lt_of_le (hfp b hb).2 (Nat.le_of_succ_le h2)) (Nat.lt_irrefl _)
    · rcases (hfp b hb).1.2.2.2.1 with z | z
      · exact I.ok.noex b o e z
      · exact absurd (Nat.lt_of_lt_of_le (Heap.lt_size e) (Nat.le_trans I.ok.bsz z)) (Nat.lt_irrefl _)
    · rcases List.mem_cons.mp (I.stkSub b z) with z | z
      · exact (hfp b hb).1.2.1 z
      · exact (hfp b hb).1.2.2.1 z
  refine ⟨okB, rfl, I.bare, Un.kept kp, ⟨fun _ => none, ?_, fun i y av e1 e2 e3 => ?_⟩, fun y c e => ?_, ?_, fun y c e => ?_, fun p hp => ?_, I.hok.kept kp, by rw [wipe_length]; exact I.len⟩
  · show Heap.Ns _ cenv.locals _
    rw [hL]
    exact Heap.Ns.keeps (Heap.Ns.new ..) fun b o e => pushCells_keeps _ _ _ _ e
  · obtain ⟨e2, hne⟩ := wipe_some e2
    have hfr : scope.names.lookup y = some .free ∧ (cenv.kindOf y = some .cell ∨ cenv.kindOf y = some .free) := by
      have key : ∀ k, cenv.scope.names.lookup y = some k → k = .local ∨ k = .cell ∨ k = .free → scope.names.lookup y = some .free ∧ (cenv.kindOf y = some .cell ∨ cenv.kindOf y = some .free) := fun k hk hk' => by
        have hk0 := hk
        rw [hsc] at hk
        obtain ⟨k', e, r⟩ := lookup_relS hk
        have no : ¬ (k' = .local ∨ k' = .cell) := fun hh => by
          rcases ok.own _ (PySem.mem_of_lookup e) hh with e' | e'
          · obtain ⟨p, hp, hpy⟩ := List.mem_map.mp e'
            have e3 := ok.ix p hp
            have : p.1 = y := hpy
            rw [this] at e3
            exact hne (List.mem_map.mpr ⟨p, hp, nodup_ix hN e3 e1⟩)
          · exact e' (List.mem_of_getElem? e1)
        rcases r with rfl | ⟨rfl, rfl⟩
        · rcases hk' with rfl | rfl | rfl
          · exact absurd (.inl rfl) no
          · exact absurd (.inr rfl) no
          · exact ⟨e, .inr hk0⟩
        · exact ⟨e, .inl hk0⟩
      have e3 : Vis cenv.scope y := e3
      rcases e3 with e3 | e3 | e3
      · exact key _ e3 (.inl rfl)
      · exact key _ e3 (.inr (.inl rfl))
      · exact key _ e3 (.inr (.inr rfl))
    obtain ⟨m, hn, hl⟩ := I.loc
    have hvis : Vis X.env.scope y := (ok.free _ (PySem.mem_of_lookup hfr.1) rfl).elim (fun k => .inr (.inl k)) (fun k => .inr (.inr k))
    obtain ⟨w, r, q⟩ := hl i y av e1 e2 hvis
    refine ⟨w, r, .inr ⟨hfr.2, ?_⟩⟩
    obtain ⟨c, h1, h2⟩ := look hfr.1
    rcases q with ⟨k, _⟩ | ⟨_, c', e', z⟩
    · have k : X.env.scope.names.lookup y = some .local := k
      rcases ok.free _ (PySem.mem_of_lookup hfr.1) rfl with k' | k' <;> rw [show X.env.scope.names.lookup y = _ from k'] at k <;> cases k
    · rw [h2] at e'; cases e'
      exact ⟨c, h1, z.keeps kp⟩
  · have e : cenv.cells.lookup y = some c := e
    rcases mem e with ⟨h1, _⟩ | ⟨_, z⟩
    · obtain ⟨w, z⟩ := I.cell y c h1
      exact ⟨w, z.keeps kp⟩
    · exact ⟨_, z⟩
  · show H cenv.locals = none
    rw [hL]; exact I.hok.fresh (Nat.le_refl _)
  · have e : cenv.cells.lookup y = some c := e
    rcases mem e with ⟨h1, _⟩ | ⟨h1, _⟩
    · exact I.freeC y c h1
    · exact I.hok.fresh (Nat.le_of_succ_le h1)
  · exact absurd (show p ∈ ([] : List (Addr × Obj)) ++ [] from hp) (by simp)
theorem app_ok {E : Value → Shared → Prop} {D : Addr} {xs : List V} {y : V} {v : Value} {Q : Value → Shared → Prop} (I : Inv X pins σ H s) (hD : H D = some (.lst xs)) (hz : xs.length < sizeLine) (r : RelV y v)
    (h : ∀ s', Inv X pins σ (upd H D (.lst (xs ++ [y]))) s' → Q .none s') : wpAny (model X.prog X.w) X.A (call (.builtin "list.append") [.ref D, v]) Q E s := by
  obtain ⟨hz', its, n, ri, e⟩ := I.hok D _ hD
  have hl := ri.length
  refine append_at (hsz := by rw [List.size_toArray]; omega) e fun h' sb ho' => ?_
  refine h { s with heap := h' } (I.write (t' := s.toks) (by rw [hD]; trivial) (.inl rfl) (fun b u hb q => (sb.2 b hb).trans q) ⟨_, ho'⟩ ⟨by rw [List.length_append]; exact hz, its ++ [v], n + 1, ri.append (.cons r .nil), ?_⟩)
  rw [ho']
  simp
def PTs (X : Cx) (ifs : List Expr) (t : TT) : Prop :=
  ∀ (pins : List (Addr × Obj)) (s : Shared) (σ : St) (H : Hp) (Q : Bool → Hp → Prop), Inv X pins σ H s → t σ H Q →
    wpAny (model X.prog X.w) X.A (forIn ifs true fun c r => if r = true then do let ok ← isTrue c X.env (eval c X.env); pure (ForInStep.yield ok) else pure (ForInStep.yield r)) (TP X pins σ Q) X.xe s
def tYes : TT := fun _ H Q => Q true H
theorem pts_nil : PTs X [] tYes := fun _ _ _ H _ I h => wpAny_tests_nil ⟨H, I, h⟩
end
theorem thnF {α : Type} {t : Sem α} {Q Q' : α → Shared → Prop} {M : Model} {A : Around} {E : Value → Shared → Prop} {s : Shared} (h : wpAny M A t Q (fun _ _ => False) s) (hQ : ∀ a s, Q a s → Q' a s) : wpAny M A t Q' E s := wpAny_mono h hQ fun _ _ z => False.elim z
theorem compLoop_any {prog : Program} {w : World} {A : Around} {R : Result → Shared → Prop} {s : Shared} {elt target iter : Expr} {ifs : List Expr} {scope : Scope} {pos : Pos} {it acc : Value} {env : Env} (I : Nat → Shared → Prop)
    (turn : ∀ n s, I n s → wpAny (model prog w) A (pyNext it) (fun r s₁ => match r with
      | none => R (.ok .next) s₁
      | some v => wpAny (model prog w) A (letOwnedTupleGo target it v) (fun _ s₁' => wpAny (model prog w) A (assign target env v) (fun _ s₂ =>
          wpAny (model prog w) A (forIn ifs true fun c r => if r = true then do let ok ← isTrue c env (eval c env); pure (ForInStep.yield ok) else pure (ForInStep.yield r)) (fun ok s₃ =>
            if ok = true then wpAny (model prog w) A (eval elt env) (fun x s₄ =>
              wpAny (model prog w) A (call (.builtin "list.append") [acc, x]) (fun _ s₅ => ∃ m, m < n ∧ I m s₅) (notedBy (model prog w) A env fun e s' => R (.error e) s') s₄) (notedBy (model prog w) A env fun e s' => R (.error e) s') s₃
            else ∃ m, m < n ∧ I m s₃) (notedBy (model prog w) A env fun e s' => R (.error e) s') s₂) (notedBy (model prog w) A env fun e s' => R (.error e) s') s₁') (notedBy (model prog w) A env fun e s' => R (.error e) s') s₁) (notedBy (model prog w) A env fun e s' => R (.error e) s') s)
    (n : Nat) (h : I n s) :
    codeAny (model prog w) A (.compLoop (.ListComp elt [⟨target, iter, ifs, 0⟩] scope pos) 0 it acc env) R s := by
  refine codeAny_loop rfl I (fun n s hI => ?_) n h
  show wpAny _ A ((compTurn (.ListComp elt [⟨target, iter, ifs, 0⟩] scope pos) 0 it acc env).onRaise (fun x => do noteFrame x env; theTreesLotGoes x)) _ _ s
  refine wpAny_noted ?_
  rw [compTurn_list]
  refine wpAny_bind (wpAny_standAt (wpAny_bind (wpAny_mono (turn n s hI) (fun r s₁ h₁ => ?_) fun _ _ h' => h')))
  cases r with
  | none => exact wpAny_pure h₁
  | some v =>
    refine wpAny_bind (wpAny_mono h₁ (fun _ s₁' h₁' => ?_) fun _ _ h' => h')
    refine wpAny_bind (wpAny_mono h₁' (fun _ s₂ h₂ => wpAny_bind (wpAny_mono h₂ (fun ok s₃ h₃ => ?_) fun _ _ h' => h')) fun _ _ h' => h')
    cases ok with
    | false => exact wpAny_pure ⟨rfl, h₃⟩
    | true =>
      exact wpAny_bind (wpAny_bind (wpAny_mono h₃ (fun x s₄ h₄ => wpAny_bind (wpAny_mono h₄ (fun _ s₅ h₅ => wpAny_pure (wpAny_pure ⟨rfl, h₅⟩)) fun _ _ h' => h')) fun _ _ h' => h'))
section
variable {X : Cx}
def tLc (wi : TI) (g : TG) (tt : TT) (te : TE) (vs : List Nat) : TE := fun σ H Q => wi σ H fun J H1 => ∀ D, H1 D = none → ∃ W : Nat → Nat → Hp → Prop, (∃ m, W 0 m (upd H1 D (.lst []))) ∧ ∀ i m H, W i m H →
  (J.stop i H ∧ Q (.ref D) H) ∨ (J.go i H ∧ ∃ Nx : Hp → Prop, (∀ H', Nx H' → ∃ m', m' < m ∧ W (i + 1) m' H') ∧ ∀ x H', J.yld i H x H' → g x (wipe σ vs) H' fun σ2 H2 => wipe σ2 vs = wipe σ vs ∧ tt σ2 H2 fun b H3 =>
    if b = true then te σ2 H3 fun y H4 => ∃ acc, H4 D = some (.lst acc) ∧ acc.length < sizeLine ∧ Nx (upd H4 D (.lst (acc ++ [y]))) else Nx H3)
theorem lc_core {pins : List (Addr × Obj)} {s : Shared} {σ : St} {H : Hp} {Q : VK} {elt tg iter : Expr} {ifs : List Expr} {scope : Scope} {own : List (Str × Nat)} {pos pos' : Pos} {wi : TI} {g : TG} {tt : TT} {te : TE} {use : Option (Value → Sem Unit)} {Qf : Value → Shared → Prop}
    (hc : X.calm = true) (hN : X.N.Nodup) (I : Inv X pins σ H s) (hi : PI X tg iter wi) (ok : BlkOk X.N X.env.scope scope own)
    (hg : ∀ (s : Shared) (H : Hp) (C : Addr) (cl : List (Str × Addr)) (fp : List Addr), PG (X.blk s H scope (compEnvC scope cl C X.env) fp) tg g) (ht : ∀ (s : Shared) (H : Hp) (C : Addr) (cl : List (Str × Addr)) (fp : List Addr), PTs (X.blk s H scope (compEnvC scope cl C X.env) fp) ifs tt)
    (he : ∀ (s : Shared) (H : Hp) (C : Addr) (cl : List (Str × Addr)) (fp : List Addr), PE (X.blk s H scope (compEnvC scope cl C X.env) fp) elt te) (hs : ∀ x, foldedSetIterable iter X.env x = pure x)
    (h : tLc wi g tt te (own.map (·.2)) σ H Q)
    (hRR : ∀ D C s' m H', Inv X pins σ H' s' → Q (.ref D) H' → s'.heap.Ns C m → FpOk X pins H' C → compPost (model X.prog X.w) X.A X.xe use Qf (.ref D) C (.ok .next) s') :
    wpAny (model X.prog X.w) X.A (comprehension (.ListComp elt [⟨tg, iter, ifs, 0⟩] scope pos) scope X.env pos' (newList []) false (eval iter X.env) use) Qf X.xe s := by
  have hfree : ∀ y ∈ scope.names, y.2 = .free → ∃ c, X.env.cells.lookup y.1 = some c := fun y hy e => by
    rcases ok.free y hy e with k | k
    · exact I.ok.has _ (.inl k)
    · exact I.ok.has _ (.inr k)
  refine wpAny_comprehension_free (use := use) rfl hs (closure_ok hfree) ok.kind (fun y hy e => by rw [ok.uniq y hy, e])
    (thn (hi pins s σ H _ I h) fun xv s1 hx => thn hx fun itv s2 h2 => ?_)
  obtain ⟨it, fp, tn, J, H2, e, I2, T, st2, f2, q⟩ := h2
  subst e
  refine wpAny_newObj_type (newEnv_comp ?_) (by show 0 ≤ sizeLine; decide)
  generalize hD : s2.heap.objs.size = D
  have hDn : H2 D = none := I2.hok.fresh (Nat.le_of_eq hD)
  obtain ⟨W, ⟨m0, w0⟩, turn⟩ := q D hDn
  generalize hs3 : ({ s2 with heap := s2.heap.push { cls := .type "list", data := .seq ([] : List Value).toArray } } : Shared) = s3
  have I3 : Inv X pins σ (upd H2 D (.lst [])) s3 := by
    rw [← hs3]
    refine I2.laid (t' := s2.toks) (fun b o e => Heap.get?_push_of_some _ e) (Nat.le_of_eq hD) ⟨Nat.zero_le _, [], 0, .nil, ?_⟩
    rw [← hD]
    exact Heap.get?_push_size _ rfl
  have h3 : s3.heap = s2.heap.push { cls := .type "list", data := .seq ([] : List Value).toArray } := by rw [← hs3]
  have sz : ∀ b ∈ fp, b < s2.heap.objs.size := fun b hb => by
    obtain ⟨o, e, _⟩ := T.obj _ _ st2 b hb
    exact Heap.lt_size e
  have f3 : ∀ b ∈ fp, FpOk X pins (upd H2 D (.lst [])) b ∧ b < s3.heap.objs.size := fun b hb => by
    have hlt := sz b hb
    refine ⟨⟨?_, (f2 b hb).2⟩, by rw [h3, Heap.size_push]; exact Nat.lt_succ_of_lt hlt⟩
    rw [upd_ne (by rw [← hD]; exact Nat.ne_of_lt hlt)]
    exact (f2 b hb).1
  have st3 : tn 0 s3.heap := T.keep _ _ _ st2 fun b _ o e => by rw [h3]; exact Heap.get?_push_of_some _ e
  have I4 := block_start I3 ok hN f3
  have pg := hg s3 (upd H2 D (.lst [])) s3.heap.objs.size (cellsFrom (s3.heap.objs.size + 1) scope.names (cloFrom X.env.cells scope.names [])) fp
  have pt := ht s3 (upd H2 D (.lst [])) s3.heap.objs.size (cellsFrom (s3.heap.objs.size + 1) scope.names (cloFrom X.env.cells scope.names [])) fp
  have pe := he s3 (upd H2 D (.lst [])) s3.heap.objs.size (cellsFrom (s3.heap.objs.size + 1) scope.names (cloFrom X.env.cells scope.names [])) fp
  show codeAny _ _ (.compStart (.ListComp elt [⟨tg, iter, ifs, 0⟩] scope pos) 0 (.ref it) (.ref D) (compEnvC scope (cellsFrom (s3.heap.objs.size + 1) scope.names (cloFrom X.env.cells scope.names [])) s3.heap.objs.size X.env)) (compPost (model X.prog X.w) X.A X.xe use Qf (.ref D) s3.heap.objs.size) { s3 with heap := pushCells (s3.heap.push { cls := .type "dict", data := .dict #[] }) scope.names }
  have nfp : ∀ b ∈ fp, (upd H2 D (.lst [])) b = none := fun b hb => (f3 b hb).1.1
  generalize hce : compEnvC scope (cellsFrom (s3.heap.objs.size + 1) scope.names (cloFrom X.env.cells scope.names [])) s3.heap.objs.size X.env = ce at I4 pg pt pe ⊢
  have cL : ce.locals = s3.heap.objs.size := by subst hce; rfl
  generalize hH3 : upd H2 D (.lst []) = H3 at I3 I4 pg pt pe w0 nfp f3
  generalize hs4 : ({ s3 with heap := pushCells (s3.heap.push { cls := .type "dict", data := .dict #[] }) scope.names } : Shared) = s4 at I4 ⊢
  have st4 : tn 0 s4.heap := T.keep _ _ _ st3 fun b _ o e => by rw [← hs4]; exact pushCells_keeps _ _ _ _ (Heap.get?_push_of_some _ e)
  have stat : ∀ {σ' : St} {H' : Hp} {s' : Shared}, Inv (X.blk s3 H3 scope ce fp) [] σ' H' s' → (∀ b ∈ fp, H' b = none) → ∀ b ∈ fp, FpOk (X.blk s3 H3 scope ce fp) [] H' b := fun {σ' H' s'} I' hn b hb =>
    ⟨hn b hb, (I'.ok.exf b hb).1, I'.ok.exfs b hb, .inl hb, fun x c e => (I'.ok.exf b hb).2 x c e, fun p hp => absurd (show p ∈ ([] : List (Addr × Obj)) ++ [] from hp) (by simp)⟩
  have loop : codeAny (model X.prog X.w) X.A (.compLoop (.ListComp elt [⟨tg, iter, ifs, 0⟩] scope pos) 0 (.ref it) (.ref D) ce) (compPost (model X.prog X.w) X.A X.xe use Qf (.ref D) s3.heap.objs.size) s4 := by
    refine compLoop_any (fun n s' => ∃ i H', Inv (X.blk s3 H3 scope ce fp) [] (wipe σ (own.map (·.2))) H' s' ∧ tn i s'.heap ∧ (∀ b ∈ fp, H' b = none) ∧ W i n H') ?_ m0 ⟨0, H3, I4, st4, nfp, w0⟩
    rintro n s5 ⟨i, H5, I5, st5, n5, w5⟩
    rcases turn i n H5 w5 with ⟨stop, qq⟩ | ⟨go, Nx, hNx, step⟩
    · have td := T.done (X.blk s3 H3 scope ce fp) rfl rfl rfl hc i [] s5 _ H5 (fun _ _ => False) I5 (stat I5 n5) st5 stop
      refine thnF td fun r s6 ⟨hr, I6⟩ => ?_
      subst hr
      have I7 : Inv X pins σ H5 s6 := I3.call' (ch := fp) I6.os I6.base I6.hok I6.bare fun b hb => ⟨(f3 b hb).1.2.2.2.1, (f3 b hb).1.2.1, (f3 b hb).1.2.2.2.2.1, (f3 b hb).1.2.2.2.2.2⟩
      have nC : H5 s3.heap.objs.size = none := by
        have z : H5 ce.locals = none := I6.free
        rw [cL] at z
        exact z
      obtain ⟨m, hn, _⟩ := I6.loc
      have hn : s6.heap.Ns ce.locals m := hn
      rw [cL] at hn
      exact hRR D s3.heap.objs.size s6 m H5 I7 qq hn (I3.fpOk (Nat.le_refl _) nC)
    · have ti := T.item (X.blk s3 H3 scope ce fp) rfl rfl rfl hc i [] s5 _ H5 (fun _ _ => False) I5 (stat I5 n5) st5 go
      refine thnF ti fun r s6 ⟨u, hr, h6⟩ => ?_
      subst hr
      refine thnF h6 fun _ s7 ⟨x, H7, I7, r7, y7, st7, n7⟩ => ?_
      have I7' := I7.pinned (stat I7 n7) (T.obj _ _ st7)
      refine thnF (pg _ s7 _ H7 x u _ I7' r7 (step x H7 y7)) fun _ s8 ⟨σ8, H8, I8, hw8, q8⟩ => ?_
      refine thnF (pt _ s8 σ8 H8 _ I8 q8) fun b s9 ⟨H9, I9, q9⟩ => ?_
      have fin : ∀ {s' : Shared} {H' : Hp}, Inv (X.blk s3 H3 scope ce fp) ([] ++ pinsAt fp s7.heap) σ8 H' s' → Nx H' → ∃ m, m < n ∧ ∃ i H', Inv (X.blk s3 H3 scope ce fp) [] (wipe σ (own.map (·.2))) H' s' ∧ tn i s'.heap ∧ (∀ b ∈ fp, H' b = none) ∧ W i m H' := fun {s' H'} I' nx => by
        obtain ⟨m', hm, w'⟩ := hNx H' nx
        have pin' : ∀ b ∈ fp, ∀ o, s7.heap.get? b = some o → s'.heap.get? b = some o ∧ H' b = none := fun b hb o e =>
          let z := I'.pin (b, o) (List.mem_append_right _ (List.mem_append_right _ (mem_pinsAt hb e)))
          ⟨z.1, z.2.1⟩
        have hl : (wipe σ (own.map (·.2))).length = σ8.length := by rw [← hw8, wipe_length]
        refine ⟨m', hm, i + 1, H', (I'.unpinned (pins := [])).weak hl (fun j v e => ?_), T.keep _ _ _ st7 fun b hb o e => (pin' b hb o e).1, fun b hb => ?_, w'⟩
        · rw [← hw8] at e
          exact (wipe_some e).1
        · obtain ⟨o, e, _⟩ := T.obj _ _ st7 b hb
          exact (pin' b hb o e).2
      cases b with
      | false =>
        simp only [Bool.false_eq_true, if_false] at q9 ⊢
        exact fin I9 q9
      | true =>
        simp only [if_true] at q9 ⊢
        refine thnF (pe _ s9 σ8 H9 _ I9 q9) fun z s10 ⟨yv, H10, I10, r10, acc, hD10, hz10, nx⟩ => ?_
        exact app_ok (X := X.blk s3 H3 scope ce fp) I10 hD10 hz10 r10 fun s11 I11 => fin I11 nx
  exact codeAny_compStart_list loop (T.self X.A 0 _ _ _ st4 loop)
theorem pe_lc {elt tg iter : Expr} {ifs : List Expr} {scope : Scope} {own : List (Str × Nat)} {pos : Pos} {wi : TI} {g : TG} {tt : TT} {te : TE} (hc : X.calm = true) (hN : X.N.Nodup) (hi : PI X tg iter wi) (ok : BlkOk X.N X.env.scope scope own)
    (hg : ∀ (s : Shared) (H : Hp) (C : Addr) (cl : List (Str × Addr)) (fp : List Addr), PG (X.blk s H scope (compEnvC scope cl C X.env) fp) tg g) (ht : ∀ (s : Shared) (H : Hp) (C : Addr) (cl : List (Str × Addr)) (fp : List Addr), PTs (X.blk s H scope (compEnvC scope cl C X.env) fp) ifs tt)
    (he : ∀ (s : Shared) (H : Hp) (C : Addr) (cl : List (Str × Addr)) (fp : List Addr), PE (X.blk s H scope (compEnvC scope cl C X.env) fp) elt te) (hs : ∀ x, foldedSetIterable iter X.env x = pure x := by intro _; rfl) :
    PE X (.ListComp elt [⟨tg, iter, ifs, 0⟩] scope pos) (tLc wi g tt te (own.map (·.2))) := by
  intro pins s σ H Q I h
  rw [eval_ListComp]
  refine lc_core hc hN I hi ok hg ht he hs h fun D C s' m H' I' q hn f => ⟨m, hn, fun h'' sb => ?_⟩
  obtain ⟨f0, f1, f2, f3, f4, f5⟩ := f
  exact ⟨.ref D, H', I'.turned (t' := s'.toks) (fun b o hb e => (sb.2 b hb).trans e) f0 f1 f3 f4 f5, rfl, q⟩
theorem ps_setLc {i : Nat} {y : Str} {py : Pos} {elt tg iter : Expr} {ifs : List Expr} {scope : Scope} {own : List (Str × Nat)} {pos spos : Pos} {wi : TI} {g : TG} {tt : TT} {te : TE} (hc : X.calm = true) (hN : X.N.Nodup) (hy : X.N[i]? = some y) (hyl : X.env.scope.names.lookup y = some .local)
    (hsw : swapsWith (.ListComp elt [⟨tg, iter, ifs, 0⟩] scope pos) (some (.Name y py)) spos.line X.env = pure true) (hi : PI X tg iter wi) (ok : BlkOk X.N X.env.scope scope own)
    (hg : ∀ (s : Shared) (H : Hp) (C : Addr) (cl : List (Str × Addr)) (fp : List Addr), PG (X.blk s H scope (compEnvC scope cl C X.env) fp) tg g) (ht : ∀ (s : Shared) (H : Hp) (C : Addr) (cl : List (Str × Addr)) (fp : List Addr), PTs (X.blk s H scope (compEnvC scope cl C X.env) fp) ifs tt)
    (he : ∀ (s : Shared) (H : Hp) (C : Addr) (cl : List (Str × Addr)) (fp : List Addr), PE (X.blk s H scope (compEnvC scope cl C X.env) fp) elt te) (hs : ∀ x, foldedSetIterable iter X.env x = pure x := by intro _; rfl) :
    PS X (.Assign [.Name y py] (.ListComp elt [⟨tg, iter, ifs, 0⟩] scope pos) spos) (tAsg (tLc wi g tt te (own.map (·.2))) (gName i)) := by
  intro pins s σ H D I h
  rw [exec_Assign_Name_used _ _ _ _ hsw]
  refine wpAny_bind (wpAny_standAt (wpAny_bind ?_))
  show wpAny _ X.A (do let _ ← comprehension (.ListComp elt [⟨tg, iter, ifs, 0⟩] scope pos) scope X.env (firstIterPos [⟨tg, iter, ifs, 0⟩] pos) (newList []) false (eval iter X.env) (some (assign (.Name y py) X.env))) _ _ s
  have h : tLc wi g tt te (own.map (·.2)) σ H (fun x H1 => gName i x σ H1 D.nx) := h
  refine wpAny_bind (thn (lc_core (Qf := fun _ s' => SP X pins D .next s') hc hN I hi ok hg ht he hs h fun L C s' m H' I' q hn f => ?_) fun _ s' hq => wpAny_pure (wpAny_pure hq))
  show wpAny _ _ (assign (.Name y py) X.env (.ref L)) _ _ _
  refine wpAny_assign_Name (store_ok2 (v := V.ref L) I' hN hy (.inl hyl) rfl (fun s2 I2 ⟨a, sb, ha⟩ => ?_) (.inr hyl))
  obtain ⟨f0, f1, f2, f3, f4, f5⟩ := f
  have haC : C ≠ a := by
    rcases ha with z | z
    · rw [z]; exact f1
    · exact fun e => f4 y a z e.symm
  refine ⟨m, hn.sameBut sb haC, fun h3 sb3 => ?_⟩
  exact ⟨_, H', I2.turned (t' := s2.toks) (fun b o hb e => (sb3.2 b hb).trans e) f0 f1 f3 f4 f5, q⟩
theorem sw_true {elt : Expr} {gs : List Comprehension} {scope : Scope} {pos py : Pos} {y : Str} {l : Nat} {env : Env} (hk : env.scope.kind = .function) (hy : env.scope.names.lookup y = some .local) (hl : (py.line == pos.line) = true)
    (ha : (scope.names.any fun (n, k) => n == y && (k == .local || k == .cell)) = false) : swapsWith (.ListComp elt gs scope pos) (some (.Name y py)) l env = pure true := by
  have ky : env.kindOf y = some .local := hy
  have hb : env.blockKind = .function := by unfold Env.blockKind; rw [hk]; rfl
  unfold swapsWith
  simp only [hb, ky, ha, Expr.pos, hl]
  rfl
end
def blkC (N : List Str) (sc scope : Scope) (own : List (Str × Nat)) : Bool :=
  (match scope.kind with | .function => true | _ => false) && (scope.names.all fun y => decide (scope.names.lookup y.1 = some y.2)) && (own.all fun p => decide (N[p.2]? = some p.1)) &&
    (scope.names.all fun y => match y.2 with
      | .free => (match sc.names.lookup y.1 with | some .cell => true | some .free => true | _ => false)
      | .local => decide (y.1 ∈ own.map (·.1)) || decide (y.1 ∉ N)
      | .cell => decide (y.1 ∈ own.map (·.1)) || decide (y.1 ∉ N)
      | _ => true)
theorem blkOk_by {N : List Str} {sc scope : Scope} {own : List (Str × Nat)} (h : blkC N sc scope own = true) : BlkOk N sc scope own := by
  unfold blkC at h
  simp only [Bool.and_eq_true, List.all_eq_true, decide_eq_true_eq] at h
  obtain ⟨⟨⟨h1, h2⟩, h3⟩, h4⟩ := h
  refine ⟨?_, h2, h3, fun y hy e => ?_, fun y hy e => ?_⟩
  · split at h1
    · assumption
    · cases h1
  · have q := h4 y hy
    simp only [e] at q
    split at q <;> first | exact .inl (by assumption) | exact .inr (by assumption) | cases q
  · have q := h4 y hy
    rcases e with e | e <;> (simp only [e, Bool.or_eq_true, decide_eq_true_eq] at q; exact q)
end L2
namespace L2
open PySem PySem.Spec PyProof.Rows
theorem compTurn2_out (elt t0 i0 t1 i1 : Expr) (ifs0 ifs1 : List Expr) (scope : Scope) (pos : Pos) (it acc : Value) (env : Env) :
    compTurn (.ListComp elt [⟨t0, i0, ifs0, 0⟩, ⟨t1, i1, ifs1, 0⟩] scope pos) 0 it acc env = (do
      standAt i0.pos
      match ← pyNext it with
      | none => pure (.done .next)
      | some v =>
        letOwnedTupleGo t0 it v
        assign t0 env v
        let mut ok := true
        for c in ifs0 do
          if ok then ok ← isTrue c env (eval c env)
        if ok then
          let x ← eval i1 env
          standAt i1.pos
          let x ← foldedSetIterable i1 env x
          let _ ← runOwn (.compStart (.ListComp elt [⟨t0, i0, ifs0, 0⟩, ⟨t1, i1, ifs1, 0⟩] scope pos) 1 (← holding [x] (pyIter x)) acc env) env
        again (.compLoop (.ListComp elt [⟨t0, i0, ifs0, 0⟩, ⟨t1, i1, ifs1, 0⟩] scope pos) 0 it acc env)) := by rfl
theorem compTurn2_in (elt t0 i0 t1 i1 : Expr) (ifs0 ifs1 : List Expr) (scope : Scope) (pos : Pos) (it acc : Value) (env : Env) :
    compTurn (.ListComp elt [⟨t0, i0, ifs0, 0⟩, ⟨t1, i1, ifs1, 0⟩] scope pos) 1 it acc env = (do
      standAt i1.pos
      match ← pyNext it with
      | none => pure (.done .next)
      | some v =>
        letOwnedTupleGo t1 it v
        assign t1 env v
        let mut ok := true
        for c in ifs1 do
          if ok then ok ← isTrue c env (eval c env)
        if ok then
          (do let _ ← call (.builtin "list.append") [acc, ← eval elt env])
        again (.compLoop (.ListComp elt [⟨t0, i0, ifs0, 0⟩, ⟨t1, i1, ifs1, 0⟩] scope pos) 1 it acc env)) := by rfl
section
variable {prog : Program} {w : World} {A : Around} {R : Result → Shared → Prop} {s : Shared} {elt t0 i0 t1 i1 : Expr} {ifs0 ifs1 : List Expr} {scope : Scope} {pos : Pos} {it acc : Value} {env : Env}
theorem compLoop2_out (hs : ∀ x, foldedSetIterable i1 env x = pure x) (I : Nat → Shared → Prop)
    (turn : ∀ n s, I n s → wpAny (model prog w) A (pyNext it) (fun r s₁ => match r with
      | none => R (.ok .next) s₁
      | some v => wpAny (model prog w) A (letOwnedTupleGo t0 it v) (fun _ s₁' => wpAny (model prog w) A (assign t0 env v) (fun _ s₂ =>
          wpAny (model prog w) A (forIn ifs0 true fun c r => if r = true then do let ok ← isTrue c env (eval c env); pure (ForInStep.yield ok) else pure (ForInStep.yield r)) (fun ok s₃ =>
            if ok = true then wpAny (model prog w) A (eval i1 env) (fun x s₄ => wpAny (model prog w) A (pyIter x) (fun it1 s₅ =>
              codeAny (model prog w) A (.compStart (.ListComp elt [⟨t0, i0, ifs0, 0⟩, ⟨t1, i1, ifs1, 0⟩] scope pos) 1 it1 acc env) (fun r s' => match r with
                | .ok _ => ∃ m, m < n ∧ I m s'
                | .error _ => False) s₅) (notedBy (model prog w) A env fun e s' => R (.error e) s') s₄) (notedBy (model prog w) A env fun e s' => R (.error e) s') s₃
            else ∃ m, m < n ∧ I m s₃) (notedBy (model prog w) A env fun e s' => R (.error e) s') s₂) (notedBy (model prog w) A env fun e s' => R (.error e) s') s₁') (notedBy (model prog w) A env fun e s' => R (.error e) s') s₁) (notedBy (model prog w) A env fun e s' => R (.error e) s') s)
    (n : Nat) (h : I n s) :
    codeAny (model prog w) A (.compLoop (.ListComp elt [⟨t0, i0, ifs0, 0⟩, ⟨t1, i1, ifs1, 0⟩] scope pos) 0 it acc env) R s := by
  refine codeAny_loop rfl I (fun n s hI => ?_) n h
  show wpAny _ A ((compTurn (.ListComp elt [⟨t0, i0, ifs0, 0⟩, ⟨t1, i1, ifs1, 0⟩] scope pos) 0 it acc env).onRaise (fun x => do noteFrame x env; theTreesLotGoes x)) _ _ s
  refine wpAny_noted ?_
  rw [compTurn2_out]
  refine wpAny_bind (wpAny_standAt (wpAny_bind (wpAny_mono (turn n s hI) (fun r s₁ h₁ => ?_) fun _ _ h' => h')))
  cases r with
  | none => exact wpAny_pure h₁
  | some v =>
    refine wpAny_bind (wpAny_mono h₁ (fun _ s₁' h₁' => ?_) fun _ _ h' => h')
    refine wpAny_bind (wpAny_mono h₁' (fun _ s₂ h₂ => wpAny_bind (wpAny_mono h₂ (fun ok s₃ h₃ => ?_) fun _ _ h' => h')) fun _ _ h' => h')
    cases ok with
    | false => exact wpAny_pure ⟨rfl, h₃⟩
    | true =>
      refine wpAny_bind (wpAny_mono h₃ (fun x s₄ h₄ => ?_) fun _ _ h' => h')
      refine wpAny_bind (wpAny_standAt (wpAny_bind (wpAny_of_eq (hs x) (wpAny_bind (wpAny_holding (wpAny_mono h₄ (fun it1 s₅ h₅ => ?_) fun _ _ h' => h'))))))
      refine wpAny_bind (wpAny_runOwn ?_)
      rw [Around.mark_none]
      refine codeAny_mono h₅ fun r s' hr => ?_
      cases r with
      | ok f =>
        first
          | exact wpAny_pure ⟨rfl, hr⟩
          | exact wpAny_bind (wpAny_pure (wpAny_pure ⟨rfl, hr⟩))
      | error e => exact hr.elim
theorem compLoop2_in (I : Nat → Shared → Prop)
    (turn : ∀ n s, I n s → wpAny (model prog w) A (pyNext it) (fun r s₁ => match r with
      | none => R (.ok .next) s₁
      | some v => wpAny (model prog w) A (letOwnedTupleGo t1 it v) (fun _ s₁' => wpAny (model prog w) A (assign t1 env v) (fun _ s₂ =>
          wpAny (model prog w) A (forIn ifs1 true fun c r => if r = true then do let ok ← isTrue c env (eval c env); pure (ForInStep.yield ok) else pure (ForInStep.yield r)) (fun ok s₃ =>
            if ok = true then wpAny (model prog w) A (eval elt env) (fun x s₄ =>
              wpAny (model prog w) A (call (.builtin "list.append") [acc, x]) (fun _ s₅ => ∃ m, m < n ∧ I m s₅) (notedBy (model prog w) A env fun e s' => R (.error e) s') s₄) (notedBy (model prog w) A env fun e s' => R (.error e) s') s₃
            else ∃ m, m < n ∧ I m s₃) (notedBy (model prog w) A env fun e s' => R (.error e) s') s₂) (notedBy (model prog w) A env fun e s' => R (.error e) s') s₁') (notedBy (model prog w) A env fun e s' => R (.error e) s') s₁) (notedBy (model prog w) A env fun e s' => R (.error e) s') s)
    (n : Nat) (h : I n s) :
    codeAny (model prog w) A (.compLoop (.ListComp elt [⟨t0, i0, ifs0, 0⟩, ⟨t1, i1, ifs1, 0⟩] scope pos) 1 it acc env) R s := by
  refine codeAny_loop rfl I (fun n s hI => ?_) n h
  show wpAny _ A ((compTurn (.ListComp elt [⟨t0, i0, ifs0, 0⟩, ⟨t1, i1, ifs1, 0⟩] scope pos) 1 it acc env).onRaise (fun x => do noteFrame x env; theTreesLotGoes x)) _ _ s
  refine wpAny_noted ?_
  rw [compTurn2_in]
  refine wpAny_bind (wpAny_standAt (wpAny_bind (wpAny_mono (turn n s hI) (fun r s₁ h₁ => ?_) fun _ _ h' => h')))
  cases r with
  | none => exact wpAny_pure h₁
  | some v =>
    refine wpAny_bind (wpAny_mono h₁ (fun _ s₁' h₁' => ?_) fun _ _ h' => h')
    refine wpAny_bind (wpAny_mono h₁' (fun _ s₂ h₂ => wpAny_bind (wpAny_mono h₂ (fun ok s₃ h₃ => ?_) fun _ _ h' => h')) fun _ _ h' => h')
    cases ok with
    | false => exact wpAny_pure ⟨rfl, h₃⟩
    | true =>
      exact wpAny_bind (wpAny_bind (wpAny_mono h₃ (fun x s₄ h₄ => wpAny_bind (wpAny_mono h₄ (fun _ s₅ h₅ => wpAny_pure (wpAny_pure ⟨rfl, h₅⟩)) fun _ _ h' => h')) fun _ _ h' => h'))
theorem compStart1_ok (h0 : codeAny (model prog w) A (.compLoop (.ListComp elt [⟨t0, i0, ifs0, 0⟩, ⟨t1, i1, ifs1, 0⟩] scope pos) 1 it acc env) R s)
    (h : wpAny (model prog w) A (pyIter it) (fun it' s' => codeAny (model prog w) A (.compLoop (.ListComp elt [⟨t0, i0, ifs0, 0⟩, ⟨t1, i1, ifs1, 0⟩] scope pos) 1 it' acc env) R s')
      (notedBy (model prog w) A env fun x s' => R (.error x) s') s) :
    codeAny (model prog w) A (.compStart (.ListComp elt [⟨t0, i0, ifs0, 0⟩, ⟨t1, i1, ifs1, 0⟩] scope pos) 1 it acc env) R s := by
  refine codeAny_of_tree ?_
  show wpAny _ _ ((compStart (.ListComp elt [⟨t0, i0, ifs0, 0⟩, ⟨t1, i1, ifs1, 0⟩] scope pos) 1 it acc env).onRaise (fun x => do noteFrame x env; standAt theWindowsPlace)) _ _ s
  refine wpAny_notedAt ?_
  unfold compStart
  show wpAny _ _ (ask >>= _) _ _ s
  refine wpAny_bind (wpAny_askSetting (wpAny_ite ?_))
  split
  · first
      | exact wpAny_bind (wpAny_pure (wpAny_pure (And.intro rfl h0)))
      | exact wpAny_pure (And.intro rfl h0)
  · first
      | exact wpAny_bind (wpAny_rule (wpAny_bind (wpAny_standAt (wpAny_bind (wpAny_mono h (fun it' s' h' => wpAny_pure (And.intro rfl h')) fun _ _ x => x)))))
      | (refine wpAny_bind (wpAny_rule ?_); show wpAny _ _ (standAt i1.pos >>= _) _ _ s; exact wpAny_bind (wpAny_standAt (wpAny_bind (wpAny_mono h (fun it' s' h' => wpAny_pure (And.intro rfl h')) fun _ _ x => x))))
end
theorem wipe_out {σ : St} {i : Nat} : ∀ {vs : List Nat}, i ∉ vs → (wipe σ vs)[i]? = σ[i]?
  | [], _ => rfl
  | v :: vs, h => by
    have h1 : v ≠ i := fun e => h (by rw [e]; exact List.mem_cons_self)
    have h2 : i ∉ vs := fun m => h (List.mem_cons_of_mem _ m)
    unfold wipe
    rw [List.getElem?_set_ne h1]
    exact wipe_out h2
section
variable {X : Cx}
def tLc2 (wi : TI) (g : TG) (tt : TT) (wi1 : TI) (g1 : TG) (tt1 : TT) (te : TE) (vs vs1 : List Nat) : TE := fun σ H Q => wi σ H fun J H1 => ∀ D, H1 D = none → ∃ W : Nat → Nat → Hp → Prop, (∃ m, W 0 m (upd H1 D (.lst []))) ∧ ∀ i m H, W i m H →
  (J.stop i H ∧ Q (.ref D) H) ∨ (J.go i H ∧ ∃ Nx : Hp → Prop, (∀ H', Nx H' → ∃ m', m' < m ∧ W (i + 1) m' H') ∧ ∀ x H', J.yld i H x H' → g x (wipe σ vs) H' fun σ2 H2 => wipe σ2 vs = wipe σ vs ∧ tt σ2 H2 fun b H3 =>
    if b = true then wi1 σ2 H3 fun J1 H4 => ∃ W1 : Nat → Nat → Hp → Prop, (∃ m, W1 0 m H4) ∧ ∀ j k H, W1 j k H →
      (J1.stop j H ∧ Nx H) ∨ (J1.go j H ∧ ∃ Nx1 : Hp → Prop, (∀ H', Nx1 H' → ∃ k', k' < k ∧ W1 (j + 1) k' H') ∧ ∀ x H', J1.yld j H x H' → g1 x (wipe σ2 vs1) H' fun σ3 H5 => wipe σ3 vs1 = wipe σ2 vs1 ∧ tt1 σ3 H5 fun b H6 =>
        if b = true then te σ3 H6 fun y H7 => ∃ acc, H7 D = some (.lst acc) ∧ acc.length < sizeLine ∧ Nx1 (upd H7 D (.lst (acc ++ [y]))) else Nx1 H6)
    else Nx H3)
theorem lc2_core {pins : List (Addr × Obj)} {s : Shared} {σ : St} {H : Hp} {Q : VK} {elt tg iter tg1 iter1 : Expr} {ifs ifs1 : List Expr} {scope : Scope} {own : List (Str × Nat)} {vs1 : List Nat} {pos pos' : Pos} {wi wi1 : TI} {g g1 : TG} {tt tt1 : TT} {te : TE} {use : Option (Value → Sem Unit)} {Qf : Value → Shared → Prop}
    (hc : X.calm = true) (hN : X.N.Nodup) (I : Inv X pins σ H s) (hi : PI X tg iter wi) (ok : BlkOk X.N X.env.scope scope own) (hv : ∀ i ∈ vs1, i ∈ own.map (·.2))
    (hg : ∀ (s : Shared) (H : Hp) (C : Addr) (cl : List (Str × Addr)) (fp : List Addr), PG (X.blk s H scope (compEnvC scope cl C X.env) fp) tg g) (ht : ∀ (s : Shared) (H : Hp) (C : Addr) (cl : List (Str × Addr)) (fp : List Addr), PTs (X.blk s H scope (compEnvC scope cl C X.env) fp) ifs tt)
    (he : ∀ (s : Shared) (H : Hp) (C : Addr) (cl : List (Str × Addr)) (fp : List Addr), PE (X.blk s H scope (compEnvC scope cl C X.env) fp) elt te) (hs : ∀ x, foldedSetIterable iter X.env x = pure x)
    (hi1 : ∀ (s : Shared) (H : Hp) (C : Addr) (cl : List (Str × Addr)) (fp : List Addr), PI (X.blk s H scope (compEnvC scope cl C X.env) fp) tg1 iter1 wi1)
    (hg1 : ∀ (s : Shared) (H : Hp) (C : Addr) (cl : List (Str × Addr)) (fp : List Addr), PG (X.blk s H scope (compEnvC scope cl C X.env) fp) tg1 g1)
    (ht1 : ∀ (s : Shared) (H : Hp) (C : Addr) (cl : List (Str × Addr)) (fp : List Addr), PTs (X.blk s H scope (compEnvC scope cl C X.env) fp) ifs1 tt1)
    (hs1 : ∀ env x, foldedSetIterable iter1 env x = pure x)
    (h : tLc2 wi g tt wi1 g1 tt1 te (own.map (·.2)) vs1 σ H Q)
    (hRR : ∀ D C s' m H', Inv X pins σ H' s' → Q (.ref D) H' → s'.heap.Ns C m → FpOk X pins H' C → compPost (model X.prog X.w) X.A X.xe use Qf (.ref D) C (.ok .next) s') :
    wpAny (model X.prog X.w) X.A (comprehension (.ListComp elt [⟨tg, iter, ifs, 0⟩, ⟨tg1, iter1, ifs1, 0⟩] scope pos) scope X.env pos' (newList []) false (eval iter X.env) use) Qf X.xe s := by
  have hfree : ∀ y ∈ scope.names, y.2 = .free → ∃ c, X.env.cells.lookup y.1 = some c := fun y hy e => by
    rcases ok.free y hy e with k | k
    · exact I.ok.has _ (.inl k)
    · exact I.ok.has _ (.inr k)
  refine wpAny_comprehension_free (use := use) rfl hs (closure_ok hfree) ok.kind (fun y hy e => by rw [ok.uniq y hy, e])
    (thn (hi pins s σ H _ I h) fun xv s1 hx => thn hx fun itv s2 h2 => ?_)
  obtain ⟨it, fp, tn, J, H2, e, I2, T, st2, f2, q⟩ := h2
  subst e
  refine wpAny_newObj_type (newEnv_comp ?_) (by show 0 ≤ sizeLine; decide)
  generalize hD : s2.heap.objs.size = D
  have hDn : H2 D = none := I2.hok.fresh (Nat.le_of_eq hD)
  obtain ⟨W, ⟨m0, w0⟩, turn⟩ := q D hDn
  generalize hs3 : ({ s2 with heap := s2.heap.push { cls := .type "list", data := .seq ([] : List Value).toArray } } : Shared) = s3
  have I3 : Inv X pins σ (upd H2 D (.lst [])) s3 := by
    rw [← hs3]
    refine I2.laid (t' := s2.toks) (fun b o e => Heap.get?_push_of_some _ e) (Nat.le_of_eq hD) ⟨Nat.zero_le _, [], 0, .nil, ?_⟩
    rw [← hD]
    exact Heap.get?_push_size _ rfl
  have h3 : s3.heap = s2.heap.push { cls := .type "list", data := .seq ([] : List Value).toArray } := by rw [← hs3]
  have sz : ∀ b ∈ fp, b < s2.heap.objs.size := fun b hb => by
    obtain ⟨o, e, _⟩ := T.obj _ _ st2 b hb
    exact Heap.lt_size e
  have f3 : ∀ b ∈ fp, FpOk X pins (upd H2 D (.lst [])) b ∧ b < s3.heap.objs.size := fun b hb => by
    have hlt := sz b hb
    refine ⟨⟨?_, (f2 b hb).2⟩, by rw [h3, Heap.size_push]; exact Nat.lt_succ_of_lt hlt⟩
    rw [upd_ne (by rw [← hD]; exact Nat.ne_of_lt hlt)]
    exact (f2 b hb).1
  have st3 : tn 0 s3.heap := T.keep _ _ _ st2 fun b _ o e => by rw [h3]; exact Heap.get?_push_of_some _ e
  have I4 := block_start I3 ok hN f3
  have pg := hg s3 (upd H2 D (.lst [])) s3.heap.objs.size (cellsFrom (s3.heap.objs.size + 1) scope.names (cloFrom X.env.cells scope.names [])) fp
  have pt := ht s3 (upd H2 D (.lst [])) s3.heap.objs.size (cellsFrom (s3.heap.objs.size + 1) scope.names (cloFrom X.env.cells scope.names [])) fp
  have pe := he s3 (upd H2 D (.lst [])) s3.heap.objs.size (cellsFrom (s3.heap.objs.size + 1) scope.names (cloFrom X.env.cells scope.names [])) fp
  have pi1 := hi1 s3 (upd H2 D (.lst [])) s3.heap.objs.size (cellsFrom (s3.heap.objs.size + 1) scope.names (cloFrom X.env.cells scope.names [])) fp
  have pg1 := hg1 s3 (upd H2 D (.lst [])) s3.heap.objs.size (cellsFrom (s3.heap.objs.size + 1) scope.names (cloFrom X.env.cells scope.names [])) fp
  have pt1 := ht1 s3 (upd H2 D (.lst [])) s3.heap.objs.size (cellsFrom (s3.heap.objs.size + 1) scope.names (cloFrom X.env.cells scope.names [])) fp
  show codeAny _ _ (.compStart (.ListComp elt [⟨tg, iter, ifs, 0⟩, ⟨tg1, iter1, ifs1, 0⟩] scope pos) 0 (.ref it) (.ref D) (compEnvC scope (cellsFrom (s3.heap.objs.size + 1) scope.names (cloFrom X.env.cells scope.names [])) s3.heap.objs.size X.env)) (compPost (model X.prog X.w) X.A X.xe use Qf (.ref D) s3.heap.objs.size) { s3 with heap := pushCells (s3.heap.push { cls := .type "dict", data := .dict #[] }) scope.names }
  have nfp : ∀ b ∈ fp, (upd H2 D (.lst [])) b = none := fun b hb => (f3 b hb).1.1
  generalize hce : compEnvC scope (cellsFrom (s3.heap.objs.size + 1) scope.names (cloFrom X.env.cells scope.names [])) s3.heap.objs.size X.env = ce at I4 pg pt pe pi1 pg1 pt1 ⊢
  have cL : ce.locals = s3.heap.objs.size := by subst hce; rfl
  generalize hH3 : upd H2 D (.lst []) = H3 at I3 I4 pg pt pe pi1 pg1 pt1 w0 nfp f3
  generalize hs4 : ({ s3 with heap := pushCells (s3.heap.push { cls := .type "dict", data := .dict #[] }) scope.names } : Shared) = s4 at I4 ⊢
  have st4 : tn 0 s4.heap := T.keep _ _ _ st3 fun b _ o e => by rw [← hs4]; exact pushCells_keeps _ _ _ _ (Heap.get?_push_of_some _ e)
  have stat : ∀ {σ' : St} {H' : Hp} {s' : Shared}, Inv (X.blk s3 H3 scope ce fp) [] σ' H' s' → (∀ b ∈ fp, H' b = none) → ∀ b ∈ fp, FpOk (X.blk s3 H3 scope ce fp) [] H' b := fun {σ' H' s'} I' hn b hb =>
    ⟨hn b hb, (I'.ok.exf b hb).1, I'.ok.exfs b hb, .inl hb, fun x c e => (I'.ok.exf b hb).2 x c e, fun p hp => absurd (show p ∈ ([] : List (Addr × Obj)) ++ [] from hp) (by simp)⟩
  have loop : codeAny (model X.prog X.w) X.A (.compLoop (.ListComp elt [⟨tg, iter, ifs, 0⟩, ⟨tg1, iter1, ifs1, 0⟩] scope pos) 0 (.ref it) (.ref D) ce) (compPost (model X.prog X.w) X.A X.xe use Qf (.ref D) s3.heap.objs.size) s4 := by
    refine compLoop2_out (hs1 ce) (fun n s' => ∃ i H', Inv (X.blk s3 H3 scope ce fp) [] (wipe σ (own.map (·.2))) H' s' ∧ tn i s'.heap ∧ (∀ b ∈ fp, H' b = none) ∧ W i n H') ?_ m0 ⟨0, H3, I4, st4, nfp, w0⟩
    rintro n s5 ⟨i, H5, I5, st5, n5, w5⟩
    rcases turn i n H5 w5 with ⟨stop, qq⟩ | ⟨go, Nx, hNx, step⟩
    · have td := T.done (X.blk s3 H3 scope ce fp) rfl rfl rfl hc i [] s5 _ H5 (fun _ _ => False) I5 (stat I5 n5) st5 stop
      refine thnF td fun r s6 ⟨hr, I6⟩ => ?_
      subst hr
      have I7 : Inv X pins σ H5 s6 := I3.call' (ch := fp) I6.os I6.base I6.hok I6.bare fun b hb => ⟨(f3 b hb).1.2.2.2.1, (f3 b hb).1.2.1, (f3 b hb).1.2.2.2.2.1, (f3 b hb).1.2.2.2.2.2⟩
      have nC : H5 s3.heap.objs.size = none := by
        have z : H5 ce.locals = none := I6.free
        rw [cL] at z
        exact z
      obtain ⟨m, hn, _⟩ := I6.loc
      have hn : s6.heap.Ns ce.locals m := hn
      rw [cL] at hn
      exact hRR D s3.heap.objs.size s6 m H5 I7 qq hn (I3.fpOk (Nat.le_refl _) nC)
    · have ti := T.item (X.blk s3 H3 scope ce fp) rfl rfl rfl hc i [] s5 _ H5 (fun _ _ => False) I5 (stat I5 n5) st5 go
      refine thnF ti fun r s6 ⟨u, hr, h6⟩ => ?_
      subst hr
      refine thnF h6 fun _ s7 ⟨x, H7, I7, r7, y7, st7, n7⟩ => ?_
      have I7' := I7.pinned (stat I7 n7) (T.obj _ _ st7)
      refine thnF (pg _ s7 _ H7 x u _ I7' r7 (step x H7 y7)) fun _ s8 ⟨σ8, H8, I8, hw8, q8⟩ => ?_
      refine thnF (pt _ s8 σ8 H8 _ I8 q8) fun b s9 ⟨H9, I9, q9⟩ => ?_
      have fin : ∀ {σ9 : St} {s' : Shared} {H' : Hp}, Inv (X.blk s3 H3 scope ce fp) ([] ++ pinsAt fp s7.heap) σ9 H' s' → (wipe σ (own.map (·.2))).length = σ9.length → (∀ (j : Nat) v, (wipe σ (own.map (·.2)))[j]? = some (some v) → σ9[j]? = some (some v)) → Nx H' →
          ∃ m, m < n ∧ ∃ i H', Inv (X.blk s3 H3 scope ce fp) [] (wipe σ (own.map (·.2))) H' s' ∧ tn i s'.heap ∧ (∀ b ∈ fp, H' b = none) ∧ W i m H' := fun {σ9 s' H'} I' hl hk nx => by
        obtain ⟨m', hm, w'⟩ := hNx H' nx
        have pin' : ∀ b ∈ fp, ∀ o, s7.heap.get? b = some o → s'.heap.get? b = some o ∧ H' b = none := fun b hb o e =>
          let z := I'.pin (b, o) (List.mem_append_right _ (List.mem_append_right _ (mem_pinsAt hb e)))
          ⟨z.1, z.2.1⟩
        refine ⟨m', hm, i + 1, H', (I'.unpinned (pins := [])).weak hl hk, T.keep _ _ _ st7 fun b hb o e => (pin' b hb o e).1, fun b hb => ?_, w'⟩
        obtain ⟨o, e, _⟩ := T.obj _ _ st7 b hb
        exact (pin' b hb o e).2
      have hl8 : (wipe σ (own.map (·.2))).length = σ8.length := by rw [← hw8, wipe_length]
      have hk8 : ∀ (j : Nat) v, (wipe σ (own.map (·.2)))[j]? = some (some v) → σ8[j]? = some (some v) := fun j v e => by
        rw [← hw8] at e
        exact (wipe_some e).1
      have hk9 : ∀ (j : Nat) v, (wipe σ (own.map (·.2)))[j]? = some (some v) → (wipe σ8 vs1)[j]? = some (some v) := fun j v e => by
        rw [← hw8] at e
        obtain ⟨e1, e2⟩ := wipe_some e
        rw [wipe_out fun z => e2 (hv j z)]
        exact e1
      cases b with
      | false =>
        simp only [Bool.false_eq_true, if_false] at q9 ⊢
        exact fin I9 hl8 hk8 q9
      | true =>
        simp only [if_true] at q9 ⊢
        refine thnF (pi1 _ s9 σ8 H9 _ I9 q9) fun xv s10 hx => thnF hx fun itv s11 h11 => ?_
        obtain ⟨it1, fp1, tn1, J1, H11, e1, I11, T1, st11, f11, W1, ⟨m1, w1⟩, turn1⟩ := h11
        subst e1
        have stat1 : ∀ {H' : Hp}, (∀ b ∈ fp1, H' b = none) → ∀ b ∈ fp1, FpOk (X.blk s3 H3 scope ce fp) ([] ++ pinsAt fp s7.heap) H' b := fun hn b hb => ⟨hn b hb, (f11 b hb).2⟩
        have loop1 : codeAny (model X.prog X.w) X.A (.compLoop (.ListComp elt [⟨tg, iter, ifs, 0⟩, ⟨tg1, iter1, ifs1, 0⟩] scope pos) 1 (.ref it1) (.ref D) ce)
            (fun r s' => match r with
              | .ok _ => ∃ m, m < n ∧ ∃ i H', Inv (X.blk s3 H3 scope ce fp) [] (wipe σ (own.map (·.2))) H' s' ∧ tn i s'.heap ∧ (∀ b ∈ fp, H' b = none) ∧ W i m H'
              | .error _ => False) s11 := by
          refine compLoop2_in (fun k s' => ∃ j H', Inv (X.blk s3 H3 scope ce fp) ([] ++ pinsAt fp s7.heap) (wipe σ8 vs1) H' s' ∧ tn1 j s'.heap ∧ (∀ b ∈ fp1, H' b = none) ∧ W1 j k H') ?_ m1 ⟨0, H11, I11.weak (wipe_length _ _) (fun j v e => (wipe_some e).1), st11, fun b hb => (f11 b hb).1, w1⟩
          rintro k s12 ⟨j, H12, I12, st12, n12, w12⟩
          rcases turn1 j k H12 w12 with ⟨stop1, nx1⟩ | ⟨go1, Nx1, hNx1, step1⟩
          · refine thnF (T1.done (X.blk s3 H3 scope ce fp) rfl rfl rfl hc j _ s12 (wipe σ8 vs1) H12 (fun _ _ => False) I12 (stat1 n12) st12 stop1) fun r s13 ⟨hr, I13⟩ => ?_
            subst hr
            exact fin I13 (hl8.trans (wipe_length σ8 vs1).symm) hk9 nx1
          · refine thnF (T1.item (X.blk s3 H3 scope ce fp) rfl rfl rfl hc j _ s12 (wipe σ8 vs1) H12 (fun _ _ => False) I12 (stat1 n12) st12 go1) fun r s13 ⟨u1, hr, h13⟩ => ?_
            subst hr
            refine thnF h13 fun _ s14 ⟨x1, H14, I14, r14, y14, st14, n14⟩ => ?_
            have I14' := I14.pinned (stat1 n14) (T1.obj _ _ st14)
            refine thnF (pg1 _ s14 (wipe σ8 vs1) H14 x1 u1 _ I14' r14 (step1 x1 H14 y14)) fun _ s15 ⟨σ15, H15, I15, hw15, q15⟩ => ?_
            refine thnF (pt1 _ s15 σ15 H15 _ I15 q15) fun b1 s16 ⟨H16, I16, q16⟩ => ?_
            have fin1 : ∀ {s' : Shared} {H' : Hp}, Inv (X.blk s3 H3 scope ce fp) (([] ++ pinsAt fp s7.heap) ++ pinsAt fp1 s14.heap) σ15 H' s' → Nx1 H' → ∃ m, m < k ∧ ∃ j H', Inv (X.blk s3 H3 scope ce fp) ([] ++ pinsAt fp s7.heap) (wipe σ8 vs1) H' s' ∧ tn1 j s'.heap ∧ (∀ b ∈ fp1, H' b = none) ∧ W1 j m H' := fun {s' H'} I' nx => by
              obtain ⟨m', hm, w'⟩ := hNx1 H' nx
              have pin' : ∀ b ∈ fp1, ∀ o, s14.heap.get? b = some o → s'.heap.get? b = some o ∧ H' b = none := fun b hb o e =>
                let z := I'.pin (b, o) (List.mem_append_right _ (List.mem_append_right _ (mem_pinsAt hb e)))
                ⟨z.1, z.2.1⟩
              refine ⟨m', hm, j + 1, H', I'.unpinned.weak (by rw [← hw15, wipe_length]) (fun j v e => by rw [← hw15] at e; exact (wipe_some e).1), T1.keep _ _ _ st14 fun b hb o e => (pin' b hb o e).1, fun b hb => ?_, w'⟩
              obtain ⟨o, e, _⟩ := T1.obj _ _ st14 b hb
              exact (pin' b hb o e).2
            cases b1 with
            | false =>
              simp only [Bool.false_eq_true, if_false] at q16 ⊢
              exact fin1 I16 q16
            | true =>
              simp only [if_true] at q16 ⊢
              refine thnF (pe _ s16 σ15 H16 _ I16 q16) fun z s17 ⟨yv, H17, I17, r17, acc, hD17, hz17, nx⟩ => ?_
              exact app_ok (X := X.blk s3 H3 scope ce fp) I17 hD17 hz17 r17 fun s18 I18 => fin1 I18 nx
        exact compStart1_ok loop1 (T1.self X.A 0 _ _ _ st11 loop1)
  exact codeAny_compStart_list loop (T.self X.A 0 _ _ _ st4 loop)
theorem pe_lc2 {elt tg iter tg1 iter1 : Expr} {ifs ifs1 : List Expr} {scope : Scope} {own : List (Str × Nat)} {vs1 : List Nat} {pos : Pos} {wi wi1 : TI} {g g1 : TG} {tt tt1 : TT} {te : TE} (hc : X.calm = true) (hN : X.N.Nodup) (hi : PI X tg iter wi) (ok : BlkOk X.N X.env.scope scope own) (hv : ∀ i ∈ vs1, i ∈ own.map (·.2))
    (hg : ∀ (s : Shared) (H : Hp) (C : Addr) (cl : List (Str × Addr)) (fp : List Addr), PG (X.blk s H scope (compEnvC scope cl C X.env) fp) tg g) (ht : ∀ (s : Shared) (H : Hp) (C : Addr) (cl : List (Str × Addr)) (fp : List Addr), PTs (X.blk s H scope (compEnvC scope cl C X.env) fp) ifs tt)
    (hi1 : ∀ (s : Shared) (H : Hp) (C : Addr) (cl : List (Str × Addr)) (fp : List Addr), PI (X.blk s H scope (compEnvC scope cl C X.env) fp) tg1 iter1 wi1)
    (hg1 : ∀ (s : Shared) (H : Hp) (C : Addr) (cl : List (Str × Addr)) (fp : List Addr), PG (X.blk s H scope (compEnvC scope cl C X.env) fp) tg1 g1) (ht1 : ∀ (s : Shared) (H : Hp) (C : Addr) (cl : List (Str × Addr)) (fp : List Addr), PTs (X.blk s H scope (compEnvC scope cl C X.env) fp) ifs1 tt1)
    (he : ∀ (s : Shared) (H : Hp) (C : Addr) (cl : List (Str × Addr)) (fp : List Addr), PE (X.blk s H scope (compEnvC scope cl C X.env) fp) elt te) (hs : ∀ x, foldedSetIterable iter X.env x = pure x := by intro _; rfl) (hs1 : ∀ env x, foldedSetIterable iter1 env x = pure x := by intro _ _; rfl) :
    PE X (.ListComp elt [⟨tg, iter, ifs, 0⟩, ⟨tg1, iter1, ifs1, 0⟩] scope pos) (tLc2 wi g tt wi1 g1 tt1 te (own.map (·.2)) vs1) := by
  intro pins s σ H Q I h
  rw [eval_ListComp]
  refine lc2_core hc hN I hi ok hv hg ht he hs hi1 hg1 ht1 hs1 h fun D C s' m H' I' q hn f => ⟨m, hn, fun h'' sb => ?_⟩
  obtain ⟨f0, f1, f2, f3, f4, f5⟩ := f
  exact ⟨.ref D, H', I'.turned (t' := s'.toks) (fun b o hb e => (sb.2 b hb).trans e) f0 f1 f3 f4 f5, rfl, q⟩
end
end L2
namespace L2
open PySem PySem.Spec PyProof.Rows
section
variable {κ : Type} [DecidableEq κ]
def valV (kvs : List (κ × V)) (k : κ) : Option V := (kvs.find? fun kv => decide (kv.1 = k)).map (·.2)
def putK (kvs : List (κ × V)) (k : κ) (v : V) : List (κ × V) :=
  if (kvs.any fun kv => decide (kv.1 = k)) = true then kvs.map (fun kv => if kv.1 = k then (kv.1, v) else kv) else kvs ++ [(k, v)]
def dropK (kvs : List (κ × V)) (k : κ) : List (κ × V) := kvs.filter fun kv => decide (kv.1 ≠ k)
theorem valV_pos {p : κ × V} {r : List (κ × V)} {k : κ} (e : p.1 = k) : valV (p :: r) k = some p.2 := by simp [valV, List.find?_cons, e]
theorem valV_neg {p : κ × V} {r : List (κ × V)} {k : κ} (e : ¬ p.1 = k) : valV (p :: r) k = valV r k := by simp [valV, List.find?_cons, e]
theorem valV_any (k : κ) : ∀ kvs : List (κ × V), (kvs.any fun kv => decide (kv.1 = k)) = (valV kvs k).isSome
  | [] => rfl
  | p :: r => by
    rw [List.any_cons]
    by_cases e : p.1 = k
    · simp only [valV_pos e, decide_eq_true e, Bool.true_or, Option.isSome_some]
    · rw [valV_neg e, decide_eq_false e, Bool.false_or]; exact valV_any k r
theorem length_putK (kvs : List (κ × V)) (k : κ) (v : V) : (putK kvs k v).length ≤ kvs.length + 1 := by
  unfold putK
  split
  · rw [List.length_map]; omega
  · rw [List.length_append, List.length_cons, List.length_nil]; omega
theorem putK_new {kvs : List (κ × V)} {k : κ} (v : V) (h : valV kvs k = none) : putK kvs k v = kvs ++ [(k, v)] := by
  unfold putK
  rw [valV_any, h]
  exact if_neg (by decide)
theorem RelO.isSome_eq {o : Option V} {u : Option Value} (r : RelO o u) : o.isSome = u.isSome := by
  cases o with
  | none => cases u with
    | none => rfl
    | some _ => exact (show False from r).elim
  | some _ => cases u with
    | none => exact (show False from r).elim
    | some _ => rfl
theorem RelO.getD {o : Option V} {u : Option Value} {d : V} {d' : Value} (r : RelO o u) (rd : RelV d d') : RelV (o.getD d) (u.getD d') := by
  cases o with
  | none => cases u with
    | none => exact rd
    | some _ => exact (show False from r).elim
  | some _ => cases u with
    | none => exact (show False from r).elim
    | some _ => exact r
theorem KV.val {kvs : List (κ × V)} {vs : List (κ × Value)} (r : KV kvs vs) (k : κ) : RelO (valV kvs k) (valueAt vs k) := by
  unfold KV at r
  induction r with
  | nil => exact True.intro
  | @cons p q ps qs h t ih =>
    obtain ⟨h1, h2⟩ := h
    by_cases e : p.1 = k
    · have e' : q.1 = k := h1.symm.trans e
      have b : valueAt (q :: qs) k = some q.2 := by simp [valueAt, List.find?_cons, e']
      rw [valV_pos e, b]; exact h2
    · have e' : ¬ q.1 = k := fun z => e (h1.trans z)
      have b : valueAt (q :: qs) k = valueAt qs k := by simp [valueAt, List.find?_cons, e']
      rw [valV_neg e, b]; exact ih
theorem KV.any {kvs : List (κ × V)} {vs : List (κ × Value)} (r : KV kvs vs) (k : κ) : (kvs.any fun kv => decide (kv.1 = k)) = vs.any fun kv => decide (kv.1 = k) := by
  unfold KV at r
  induction r with
  | nil => rfl
  | cons h t ih => rw [List.any_cons, List.any_cons, ih, h.1]
theorem KV.repl {kvs : List (κ × V)} {vs : List (κ × Value)} (r : KV kvs vs) (k : κ) {y : V} {u : Value} (ry : RelV y u) :
    KV (kvs.map fun kv => if kv.1 = k then (kv.1, y) else kv) (vs.map fun kv => if kv.1 = k then (kv.1, u) else kv) := by
  unfold KV at r ⊢
  induction r with
  | nil => exact .nil
  | @cons p q ps qs h t ih =>
    rw [List.map_cons, List.map_cons]
    refine .cons ?_ ih
    obtain ⟨h1, h2⟩ := h
    by_cases e : p.1 = k
    · rw [if_pos e, if_pos (h1.symm.trans e)]; exact ⟨h1, ry⟩
    · rw [if_neg e, if_neg (fun z => e (h1.trans z))]; exact ⟨h1, h2⟩
theorem KV.put {kvs : List (κ × V)} {vs : List (κ × Value)} (r : KV kvs vs) (k : κ) {y : V} {u : Value} (ry : RelV y u) : KV (putK kvs k y) (stored vs k u) := by
  unfold putK stored
  rw [r.any k]
  by_cases e : (vs.any fun kv => decide (kv.1 = k)) = true
  · rw [if_pos e, if_pos e]; exact r.repl k ry
  · rw [if_neg e, if_neg e]; exact Paired.snoc r ⟨rfl, ry⟩
theorem KV.drop {kvs : List (κ × V)} {vs : List (κ × Value)} (r : KV kvs vs) (k : κ) : KV (dropK kvs k) (without vs k) := by
  unfold KV at r ⊢
  unfold dropK without
  induction r with
  | nil => exact .nil
  | @cons p q ps qs h t ih =>
    obtain ⟨h1, h2⟩ := h
    rw [List.filter_cons, List.filter_cons]
    by_cases e : p.1 = k
    · have a : ¬ decide (p.1 ≠ k) = true := by simp [e]
      have b : ¬ decide (q.1 ≠ k) = true := by simp [h1.symm.trans e]
      rw [if_neg a, if_neg b]; exact ih
    · have e' : ¬ q.1 = k := fun z => e (h1.trans z)
      have a : decide (p.1 ≠ k) = true := by simp [e]
      have b : decide (q.1 ≠ k) = true := by simp [e']
      rw [if_pos a, if_pos b]; exact .cons ⟨h1, h2⟩ ih
theorem KV.length {kvs : List (κ × V)} {vs : List (κ × Value)} (r : KV kvs vs) : kvs.length = vs.length := Paired.length r
end
theorem kV_is {P : Program} {w : World} {k : Key} {u : Value} (r : RelV (kV k) u) : (mixKind P w).is k u = true := by
  cases k with
  | inl i => obtain ⟨t, e⟩ := (show ∃ t, u = Value.int i t from r); subst e; exact mixKind_int P w i t
  | inr x => obtain ⟨t, e⟩ := (show ∃ t, u = Value.str x t from r); subst e; exact mixKind_str P w x t
theorem items_are {P : Program} {w : World} : ∀ {ks : List Key} {us : List Value}, Vals (ks.map kV) us → ItemsAre (mixKind P w) ks us
  | [], _, r => by rw [List.map_nil] at r; cases r; exact .nil
  | k :: ks, _, r => by
    rw [List.map_cons] at r
    cases r with
    | cons h t => exact .cons (kV_is h) (items_are t)
abbrev KT (H : Hp) : List (List Key × V) → List (List Key × Addr × Value) → Prop := Paired fun p q => p.1 = q.1 ∧ H q.2.1 = some (.tup (p.1.map kV)) ∧ RelV p.2 q.2.2
theorem KT.val {H : Hp} {kvs : List (List Key × V)} {xs : List (List Key × Addr × Value)} (r : KT H kvs xs) (k : List Key) : RelO (valV kvs k) ((atKey xs k).map (·.2)) := by
  induction r with
  | nil => exact True.intro
  | @cons p q ps qs h t ih =>
    obtain ⟨h1, _, h2⟩ := h
    by_cases e : p.1 = k
    · have e' : q.1 = k := h1.symm.trans e
      have b : atKey (q :: qs) k = some q.2 := by simp [atKey, List.find?_cons, e']
      rw [valV_pos e, b]; exact h2
    · have e' : ¬ q.1 = k := fun z => e (h1.trans z)
      have b : atKey (q :: qs) k = atKey qs k := by simp [atKey, List.find?_cons, e']
      rw [valV_neg e, b]; exact ih
theorem KT.repl {H : Hp} {kvs : List (List Key × V)} {xs : List (List Key × Addr × Value)} (r : KT H kvs xs) (k : List Key) {y : V} {u : Value} (ry : RelV y u) :
    KT H (kvs.map fun kv => if kv.1 = k then (kv.1, y) else kv) (xs.map (putAt k u)) := by
  induction r with
  | nil => exact .nil
  | @cons p q ps qs h t ih =>
    rw [List.map_cons, List.map_cons]
    refine .cons ?_ ih
    obtain ⟨h1, h2, h3⟩ := h
    unfold putAt
    by_cases e : p.1 = k
    · rw [if_pos e, if_pos (h1.symm.trans e)]; exact ⟨h1, h2, ry⟩
    · rw [if_neg e, if_neg (fun z => e (h1.trans z))]; exact ⟨h1, h2, h3⟩
theorem KT.put {H : Hp} {kvs : List (List Key × V)} {xs : List (List Key × Addr × Value)} (r : KT H kvs xs) (k : List Key) {b : Addr} {y : V} {u : Value} (hb : H b = some (.tup (k.map kV))) (ry : RelV y u) :
    KT H (putK kvs k y) (storedH xs k b u) := by
  have e : (kvs.any fun kv => decide (kv.1 = k)) = (atKey xs k).isSome := by
    rw [valV_any, (r.val k).isSome_eq, Option.isSome_map]
  unfold putK storedH
  rw [e]
  by_cases q : (atKey xs k).isSome = true
  · rw [if_pos q, if_pos q]; exact r.repl k ry
  · rw [if_neg q, if_neg q]; exact Paired.snoc r ⟨rfl, hb, ry⟩
theorem KT.keeps {H H' : Hp} {kvs : List (List Key × V)} {xs : List (List Key × Addr × Value)} (r : KT H kvs xs) (ht : ∀ b ys, H b = some (.tup ys) → H' b = some (.tup ys)) : KT H' kvs xs :=
  Paired.mapP r fun _ _ z => ⟨z.1, ht _ _ z.2.1, z.2.2⟩
section
variable {P : Program} {w : World} {H : Hp} {h : Heap} {a : Addr}
theorem rd_of {u : HO} (ok : HOk P w H h) (e : Rd H a u) : ObjOk P w H h a u := e.ok ok
theorem dk_rd {kvs : List (Key × V)} (ok : HOk P w H h) (e : Rd H a (.dK kvs)) : kvs.length ≤ sizeLine ∧ (a == sysModules) = false ∧ ∃ vs, KV kvs vs ∧ h.DictOf (mixKind P w) a vs :=
  show ObjOk P w H h a (.dK kvs) from rd_of ok e
theorem dk_of {kvs : List (Key × V)} (ok : HOk P w H h) (e : H a = some (.dK kvs)) : kvs.length ≤ sizeLine ∧ (a == sysModules) = false ∧ ∃ vs, KV kvs vs ∧ h.DictOf (mixKind P w) a vs := dk_rd ok (.inl e)
theorem key_of {ks : List Key} (ok : HOk P w H h) (e : H a = some (.tup (ks.map kV))) : (tupleKind (mixKind P w)).is h ks a := by
  obtain ⟨_, its, r, o, h1, h2, n, h3⟩ := (show ObjOk P w H h a (.tup (ks.map kV)) from ok a _ e)
  exact ⟨o, its.toArray, n, h1, h2, h3, by simpa using items_are r⟩
theorem dt_rd {kvs : List (List Key × V)} (ok : HOk P w H h) (e : Rd H a (.dT kvs)) : kvs.length ≤ sizeLine ∧ (a == sysModules) = false ∧
    ∃ xs, KT H kvs xs ∧ h.DictOfH (tupleKind (mixKind P w)) a xs := by
  obtain ⟨z, y, xs, r, o, es, ep, h1, h2, h3, h4, h5⟩ := (show ObjOk P w H h a (.dT kvs) from rd_of ok e)
  refine ⟨z, y, xs, r, o, es, ep, h1, h2, h3, h4, fun x hx => ?_, h5⟩
  have all : ∀ {l : List (List Key × V)} {m : List (List Key × Addr × Value)}, KT H l m → ∀ x ∈ m, (tupleKind (mixKind P w)).is h x.1 x.2.1 := by
    intro l m q
    induction q with
    | nil => intro x hx; exact nomatch hx
    | @cons p q ps qs hq t ih =>
      intro x hx
      rcases List.mem_cons.mp hx with e | hx
      · subst e
        exact key_of ok (by rw [← hq.1]; exact hq.2.1)
      · exact ih x hx
  exact all r x hx
theorem dt_of {kvs : List (List Key × V)} (ok : HOk P w H h) (e : H a = some (.dT kvs)) : kvs.length ≤ sizeLine ∧ (a == sysModules) = false ∧
    ∃ xs, KT H kvs xs ∧ h.DictOfH (tupleKind (mixKind P w)) a xs := dt_rd ok (.inl e)
end
def DGet (H : Hp) (a : Addr) (y : V) (r : Option V) : Prop :=
  (∃ kvs k, Rd H a (.dK kvs) ∧ y = kV k ∧ r = valV kvs k) ∨ ∃ kvs k b, Rd H a (.dT kvs) ∧ y = .ref b ∧ H b = some (.tup (k.map kV)) ∧ r = valV kvs k
def DPut (H : Hp) (a : Addr) (y v : V) (H' : Hp) : Prop :=
  (∃ kvs k, H a = some (.dK kvs) ∧ y = kV k ∧ kvs.length < sizeLine ∧ H' = upd H a (.dK (putK kvs k v))) ∨
  ∃ kvs k b, H a = some (.dT kvs) ∧ y = .ref b ∧ H b = some (.tup (k.map kV)) ∧ kvs.length < sizeLine ∧ H' = upd H a (.dT (putK kvs k v))
theorem DGet.k {H : Hp} {a : Addr} {kvs : List (Key × V)} {k : Key} (e : H a = some (.dK kvs)) : DGet H a (kV k) (valV kvs k) := .inl ⟨kvs, k, .inl e, rfl, rfl⟩
theorem DGet.t {H : Hp} {a b : Addr} {kvs : List (List Key × V)} {k : List Key} (e : H a = some (.dT kvs)) (eb : H b = some (.tup (k.map kV))) : DGet H a (.ref b) (valV kvs k) := .inr ⟨kvs, k, b, .inl e, rfl, eb, rfl⟩
theorem DPut.k {H : Hp} {a : Addr} {kvs : List (Key × V)} {k : Key} {v : V} (e : H a = some (.dK kvs)) (hl : kvs.length < sizeLine) : DPut H a (kV k) v (upd H a (.dK (putK kvs k v))) := .inl ⟨kvs, k, e, rfl, hl, rfl⟩
theorem DPut.t {H : Hp} {a b : Addr} {kvs : List (List Key × V)} {k : List Key} {v : V} (e : H a = some (.dT kvs)) (eb : H b = some (.tup (k.map kV))) (hl : kvs.length < sizeLine) :
    DPut H a (.ref b) v (upd H a (.dT (putK kvs k v))) := .inr ⟨kvs, k, b, e, rfl, eb, hl, rfl⟩
section
variable {X : Cx} {pins : List (Addr × Obj)} {σ : St} {H : Hp} {s : Shared} {a : Addr} {y v : V} {u r : Value} {o : Option V} {A : Around} {E : Value → Shared → Prop}
theorem Inv.big (I : Inv X pins σ H s) : sysModules < s.heap.objs.size := by
  have h : mainGlobals < s.heap.objs.size := (I.mod.glob.keeps I.bk).lt
  exact Nat.lt_trans (by decide) h
theorem d_write {h' : Heap} {t' : Nat} {ob : HO} (I : Inv X pins σ H s) (mu : Mut (H a)) (hs : Heap.SameBut a s.heap h') (he : ∃ q, h'.get? a = some q) (new : ObjOk X.prog X.w (upd H a ob) h' a ob) :
    Inv X pins σ (upd H a ob) { s with heap := h', toks := t' } :=
  I.write (x := a) (e := a) mu (.inl rfl) (fun b q hb z => (hs.2 b hb).trans z) he new
theorem dk_new {P : Program} {w : World} {H' : Hp} {h' : Heap} {kvs : List (Key × V)} {vs : List (Key × Value)} (z : kvs.length ≤ sizeLine) (hd : (a == sysModules) = false) (rel : KV kvs vs) (dd : h'.DictOf (mixKind P w) a vs) :
    ObjOk P w H' h' a (.dK kvs) := ⟨z, hd, vs, rel, dd⟩
theorem d_setItem {H' : Hp} {Q : Unit → Shared → Prop} (hu : A.units + 1 < cLine) (I : Inv X pins σ H s) (g : DPut H a y v H') (ry : RelV y u) (rv : RelV v r) (h : ∀ s', Inv X pins σ H' s' → Q () s') :
    wpAny (model X.prog X.w) A (setItem (.ref a) u r) Q E s := by
  rcases g with ⟨kvs, k, e, ey, l, eH⟩ | ⟨kvs, k, b, e, ey, eb, l, eH⟩
  · subst ey eH
    obtain ⟨z, hd, vs, rel, dd⟩ := dk_of I.hok e
    have hz : vs.length ≤ sizeLine := by rw [← rel.length]; exact z
    have hl : (putK kvs k v).length ≤ sizeLine := by have := length_putK kvs k v; omega
    refine wpAny_setItem_pairs (hsz := hz) (kV_is ry) dd fun h' dd' hs => h _ ?_
    have he : ∃ q, h'.get? a = some q := let ⟨q, _, _, hq, _⟩ := dd'; ⟨q, hq⟩
    exact d_write I (by rw [e]; exact True.intro) hs he (dk_new hl hd (rel.put k rv) dd')
  · subst ey eH
    cases (show u = Value.ref b from ry)
    obtain ⟨z, hd, xs, rel, dd⟩ := dt_of I.hok e
    have hz : xs.length ≤ sizeLine := by rw [← Paired.length rel]; exact z
    have hl : (putK kvs k v).length ≤ sizeLine := by have := length_putK kvs k v; omega
    refine wpAny_setItem_heap (hsz := hz) (tupleKind_room_in1 hu) (key_of I.hok eb) dd fun h' dd' hs => h _ ?_
    obtain ⟨q, es, ep, hq, h2, h3, h4, _, h5⟩ := dd'
    refine d_write I (by rw [e]; exact True.intro) hs ⟨q, hq⟩ ⟨hl, hd, _, (rel.put k eb rv).keeps fun c ys ec => ?_, q, es, ep, hq, h2, h3, h4, h5⟩
    rw [upd_ne (ne_of ec e (fun z => nomatch z))]
    exact ec
end
section
variable {X : Cx} {pins : List (Addr × Obj)} {σ : St} {H : Hp} {s : Shared} {a : Addr} {kvs : List (Key × V)} {k : Key} {u : Value} {A : Around} {E : Value → Shared → Prop}
end
def NoSl (i : Expr) : Prop := ∀ ov iv, subscripted i false ov iv = operate [ov, iv] (getItem ov iv)
theorem subD_of {prog : Program} {w : World} {A : Around} {E : Value → Shared → Prop} {s : Shared} {env : Env} {value slice : Expr} {pos : Pos} {T id : String} {Q : Value → Shared → Prop}
    (hl : typeLookup (.type T) "__getitem__" = pure (some (.builtin id))) (hs : NoSl slice)
    (h : wpAny (model prog w) A (eval value env) (fun o s₁ => wpAny (model prog w) A (eval slice env) (fun i s₂ => s₂.TypeIs o T ∧ wpAny (model prog w) A (getItem o i) Q E s₂) E s₁) E s) :
    wpAny (model prog w) A (eval (.Subscript value slice pos) env) Q E s := by
  refine Subscript_ (wpAny_mono h (fun o s₁ h₁ => wpAny_mono h₁ (fun i s₂ h₂ => ?_) fun _ _ x => x) fun _ _ x => x)
  obtain ⟨hT, h₂⟩ := h₂
  unfold subscriptTail
  refine wpAny_bind ?_
  rw [getitemInPython_of_ne hT.not_modules]
  refine wpAny_bind (wpAny_specialOf hT hl ?_)
  have fin : wpAny (model prog w) A (subscripted slice false o i) (fun r s₃ => wpAny (model prog w) A (letTemporaryGo value o r >>= fun _ => pure r) Q E s₃) E s₂ := by
    rw [hs o i]
    exact wpAny_operating (wpAny_mono h₂ (fun r s₃ h₃ => wpAny_bind (wpAny_letTemporaryGo (wpAny_pure h₃))) fun _ _ x => x)
  first
    | exact wpAny_pure (wpAny_bind fin)
    | exact wpAny_bind (wpAny_pure (wpAny_bind fin))
    | exact wpAny_bind fin
def sDPut (td ty tv : TE) : TS := fun D σ H => tv σ H fun v H1 => td σ H1 fun x H2 => ty σ H2 fun y H3 => ∃ a H4, x = .ref a ∧ DPut H3 a y v H4 ∧ D.nx σ H4
section
variable {X : Cx} {o i e value : Expr} {pos pos' tpos : Pos} {td ty tv : TE}
theorem ps_dput (hu : X.A.units + 1 < cLine) (ho : PE X o td) (hi : PE X i ty) (hv : PE X value tv) (hs : swapsWith value (some (.Subscript o i pos')) pos.line X.env = pure false) :
    PS X (.Assign [.Subscript o i pos'] value pos) (sDPut td ty tv) := by
  intro pins s σ H D I h
  refine wpAny_Assign_Subscript (thn (hv pins s σ H _ I h) fun r s1 ⟨v, H1, I1, rv, q1⟩ => thn (ho pins s1 σ H1 _ I1 q1) fun u s2 ⟨x, H2, I2, rx, q2⟩ => thn (hi pins s2 σ H2 _ I2 q2) fun iv s3 ⟨y, H3, I3, ry, a, H4, ex, g, q3⟩ => ?_) hs
  subst ex
  obtain rfl : u = Value.ref a := rx
  exact d_setItem hu I3 g ry rv fun s4 I4 => ⟨σ, H4, I4, q3⟩
end
theorem dt_empty {P : Program} {w : World} {H : Hp} (h : Heap) (hb : sysModules < h.objs.size) : ObjOk P w H (h.push { cls := .type "dict", data := .dict #[] }) h.objs.size (.dT []) :=
  ⟨Nat.zero_le _, beq_eq_false_iff_ne.mpr (Ne.symm (Nat.ne_of_lt hb)), [], .nil, _, #[], 0, Heap.get?_push_size _ rfl, ⟨rfl, rfl, rfl⟩, rfl, rfl, List.nodup_nil⟩
def tDNewT : TE := fun _ H Q => ∀ p, H p = none → Q (.ref p) (upd H p (.dT []))
section
variable {X : Cx} {pos : Pos}
theorem pe_dnewT : PE X (.Dict [] [] pos) tDNewT := fun pins s σ H Q I h =>
  wpAny_Dict_empty ⟨.ref s.heap.objs.size, _, I.laid (a := s.heap.objs.size) (o := .dT []) (t' := s.toks) (fun _ _ q => Heap.get?_push_of_some _ q) (Nat.le_refl _) (dt_empty s.heap I.big), rfl, h _ (I.hok.fresh (Nat.le_refl _))⟩
end
structure M1 (X : Cx) (o : Expr) (m : Str) (apos : Pos) (e : Expr) (cpos : Pos) : Prop where
  base : attributeBase o m X.env (eval o X.env) = eval o X.env
  few : ((backTo cpos (starEach [e] X.env)).all (fun x => !x.1) && (backToKw cpos (keywordEach [] X.env)).all (fun x => x.1.isSome)
    && decide (([e] : List Expr).length + ([] : List Keyword).length + (if ([] : List Keyword).isEmpty then 0 else 1) < 30)) = true
  line : (apos.endLine == cpos.line) = true
  trees : backTo cpos (starEach [e] X.env) = [(false, eval e X.env)]
structure M2 (X : Cx) (o : Expr) (m : Str) (apos : Pos) (e f : Expr) (cpos : Pos) : Prop where
  base : attributeBase o m X.env (eval o X.env) = eval o X.env
  few : ((backTo cpos (starEach [e, f] X.env)).all (fun x => !x.1) && (backToKw cpos (keywordEach [] X.env)).all (fun x => x.1.isSome)
    && decide (([e, f] : List Expr).length + ([] : List Keyword).length + (if ([] : List Keyword).isEmpty then 0 else 1) < 30)) = true
  line : (apos.endLine == cpos.line) = true
  trees : backTo cpos (starEach [e, f] X.env) = [(false, eval e X.env), (false, eval f X.env)]
section
variable {X : Cx} {pins : List (Addr × Obj)} {σ : St} {H : Hp} {s : Shared} {a : Addr} {y d : V} {u r : Value} {o : Option V} {A : Around} {E : Value → Shared → Prop}
end
section
variable {X : Cx} {o e f : Expr} {apos cpos : Pos} {td ty tx : TE}
end
section
variable {X : Cx} {pins : List (Addr × Obj)} {σ : St} {H : Hp} {s : Shared} {a : Addr} {kvs : List (Key × V)} {A : Around} {E : Value → Shared → Prop}
end
section
variable {X : Cx} {pins : List (Addr × Obj)} {σ : St} {H : Hp} {s : Shared} {a : Addr} {y : V} {u : Value} {A : Around} {E : Value → Shared → Prop}
end
end L2
namespace L2
open PySem PySem.Spec PyProof.Rows
section
variable {prog : Program} {w : World} {A : Around} {E : Value → Shared → Prop}
end
section
variable {X : Cx}
end
end L2
namespace L2
open PySem PySem.Spec PyProof.Rows
section
variable {X : Cx} {pins : List (Addr × Obj)} {σ : St} {H : Hp} {s : Shared} {h' : Heap}
theorem Inv.turnedL {t' : Nat} {ch : List Addr} (I : Inv X pins σ H s) (k : ∀ b o, b ∉ ch → s.heap.get? b = some o → h'.get? b = some o) (hf : ∀ b ∈ ch, FpOk X pins H b) : Inv X pins σ H { s with heap := h', toks := t' } := by
  have nit : ∀ b u, H b = some u → b ∉ ch := fun b u e z => by
    have q := (hf b z).1
    rw [q] at e; cases e
  refine I.step (g' := s.gens) (d' := s.drawn) (ch := ch) (fun b hb => ⟨(hf b hb).2.2.2.1, (hf b hb).2.1, (hf b hb).2.2.2.2.1, (hf b hb).2.2.2.2.2⟩) (fun b o _ _ hc e _ => k b o hc e) (fun b o _ _ hc e _ => ⟨o.slots, k b o hc e⟩)
    (fun _ _ _ _ n => n) (fun b o hc e => ⟨o, k b o hc e⟩) (fun _ _ e => e) (fun _ _ _ e => e) (fun b ps e => ⟨#[], by rw [e]; simp⟩) (fun m hm => ?_) (fun b u e => ?_) I.bare
  · obtain ⟨o, es, ep, ho, r⟩ := hm
    exact ⟨o, es, ep, k _ o (fun z => (hf _ z).2.1 rfl) ho, r⟩
  · refine (I.hok b u e).stay (fun c v hc q => k c v ?_ q) (fun _ q => q) fun _ _ q => q
    rcases hc with z | z
    · rw [z]; exact nit b u e
    · exact nit c _ z
theorem Inv.turnedNew {t' : Nat} {ch : List Addr} {T : Addr} {ob : HO} (I : Inv X pins σ H s) (k : ∀ b o, b ∉ ch → s.heap.get? b = some o → h'.get? b = some o) (hf : ∀ b ∈ ch, FpOk X pins H b) (hT : s.heap.objs.size ≤ T)
    (new : ObjOk X.prog X.w (upd H T ob) h' T ob) : Inv X pins σ (upd H T ob) { s with heap := h', toks := t' } := by
  have hn : H T = none := I.hok.fresh hT
  have nit : ∀ b u, H b = some u → b ∉ ch := fun b u e z => by
    have q := (hf b z).1
    rw [q] at e; cases e
  refine I.step (g' := s.gens) (d' := s.drawn) (ch := ch) (fun b hb => ⟨(hf b hb).2.2.2.1, (hf b hb).2.1, (hf b hb).2.2.2.2.1, (hf b hb).2.2.2.2.2⟩) (fun b o _ _ hc e _ => k b o hc e) (fun b o _ _ hc e _ => ⟨o.slots, k b o hc e⟩)
    (fun b o _ e n => ?_) (fun b o hc e => ⟨o, k b o hc e⟩) (fun b xs e => ?_) (fun b o u e => ?_) (fun b ps e => ⟨#[], ?_⟩) (fun m hm => ?_) (fun b u e => ?_) I.bare
  · rw [upd_ne (Nat.ne_of_lt (Nat.lt_of_lt_of_le (Heap.lt_size e) hT))]; exact n
  · rw [upd_ne (ne_of_none e hn)]; exact e
  · rw [upd_ne (ne_of_none e hn)]; exact e
  · rw [upd_ne (ne_of_none e hn), e]; simp
  · obtain ⟨o, es, ep, ho, r⟩ := hm
    exact ⟨o, es, ep, k _ o (fun z => (hf _ z).2.1 rfl) ho, r⟩
  · by_cases hb : b = T
    · subst hb
      rw [upd_same] at e
      cases e
      exact new
    · rw [upd_ne hb] at e
      refine (I.hok b u e).stay (fun c v hc q => k c v ?_ q) (fun c q => by rw [upd_ne (ne_of_none q hn)]; exact q) fun c xs q => by rw [upd_ne (ne_of_none q hn)]; exact q
      rcases hc with z | z
      · rw [z]; exact nit b u e
      · exact nit c _ z
end
section
variable {X : Cx}
end
def RgC (i j c : Int) (n : Nat) : Prop := c ≠ 0 ∧ c.natAbs < 1073741824 ∧ Builtin.Range.small i j c = true ∧ Builtin.Range.rangeSize i j c = n
theorem RgC.neg {i j : Int} (ha : -(2 ^ 62) ≤ i) (ha' : i < 2 ^ 62) (hb : -(2 ^ 62) ≤ j) (hb' : j < 2 ^ 62) : RgC i j (-1) (i - j).toNat :=
  ⟨by decide, by decide, PySem.W.small_down ha ha' hb hb', PySem.W.rangeSize_downNat i j⟩
section
variable {X : Cx} {tg : Expr}
end
section
variable {X : Cx} {tg : Expr}
end
section
variable {prog : Program} {w : World} {A : Around} {E : Value → Shared → Prop} {s : Shared}
end
section
variable {X : Cx} {pins : List (Addr × Obj)} {σ : St} {H : Hp} {s : Shared} {d : Addr} {o : Obj}
end
section
variable {P : Program} {w : World} {K : PySem.W.Frag} {tg : Expr} {d : Addr} {o : Obj} {es : Array DictEntry} {ep : Nat}
end
section
variable {X : Cx} {tg e : Expr} {td : TE} {apos cpos : Pos}
end
def Ite (K : PySem.W.Frag) (a : Addr) : It :=
  ⟨fun i H => ∃ (xs : List V) (x : V), SqL K H a xs ∧ xs[i]? = some x, fun i H v H' => ∃ T x, v = .ref T ∧ H T = none ∧ H' = upd H T (.tup [.int (i : Nat), x]) ∧ ∀ xs, SqL K H a xs → xs[i]? = some x, fun i H => ∃ xs : List V, SqL K H a xs ∧ xs.length ≤ i⟩
theorem turn_enum {P : Program} {w : World} {K : PySem.W.Frag} {elts : List Expr} {kk : Nat} {tpos : Pos} (a e it : Addr) :
    Turn P w K (.Tuple elts kk tpos) (Ite K a) [e, it] e (fun i h => (∃ old, IsEnum h e it ((i : Nat) : Int) old) ∧ h.IsListIter it a i ∧ e ≠ it) where
  mem := by simp
  obj := fun i h st b hb => by
    obtain ⟨⟨old, he⟩, ⟨o, ho, hc, hd⟩, _⟩ := st
    have e' : b = e ∨ b = it := by simpa using hb
    rcases e' with z | z
    · rw [z]; exact ⟨_, he, fun v q => nomatch q⟩
    · rw [z]; exact ⟨o, ho, fun v q => by rw [hd] at q; cases q⟩
  keep := fun i h h' st k => let ⟨⟨old, he⟩, hi, hne⟩ := st; ⟨⟨old, k e (by simp) _ he⟩, hi.at fun o q => k it (by simp) o q, hne⟩
  item := by
    intro X hP hw hK hc i pins s σ H E I hf st hg
    subst hP hw hK
    obtain ⟨⟨old, he⟩, hit, hne⟩ := st
    obtain ⟨xs, x, hq, hx⟩ := hg
    obtain ⟨its, rv, p, hz⟩ := I.list hq
    obtain ⟨u, hu, ru⟩ := rv.get hx
    have hel : e < s.heap.objs.size := Heap.lt_size he
    have hil : it < s.heap.objs.size := by obtain ⟨_, q, _⟩ := hit; exact Heap.lt_size q
    refine wpAny_pyNext_enum_item he hit p.isList (x := u) (by simpa using hu) hne fun h' ho hit' hT hsz hk => ?_
    refine ⟨_, rfl, wpAny_letOwnedTupleGo_enum (s := { s with heap := h', toks := s.toks + 1 }) ho fun h'' he' sb => ?_⟩
    have hT2 : h''.get? s.heap.objs.size = some { cls := .type "tuple", data := .seq #[.int i s.toks, u] } := (sb.2 _ (Nat.ne_of_gt hel)).trans hT
    have new : ObjOk X.prog X.w (upd H s.heap.objs.size (.tup [.int (i : Nat), x])) h'' s.heap.objs.size (.tup [.int (i : Nat), x]) :=
      ⟨by show 2 ≤ sizeLine; decide, [.int i s.toks, u], .cons ⟨_, rfl⟩ (.cons ru .nil), ⟨_, hT2, rfl, _, rfl⟩⟩
    have I1 : Inv X pins σ (upd H s.heap.objs.size (.tup [.int (i : Nat), x])) { s with heap := h'', toks := s.toks + 1 } :=
      I.turnedNew (ch := [e, it]) (fun b ob hb q => (sb.2 b (fun z => hb (by simp [z]))).trans (hk b ob (fun z => hb (by simp [z])) (fun z => hb (by simp [z])) q)) hf (Nat.le_refl _) new
    refine ⟨.ref s.heap.objs.size, _, I1, rfl, ⟨_, x, rfl, I.hok.fresh (Nat.le_refl _), rfl, fun ys hy => by rw [I.list_inj hy hq]; exact hx⟩, ⟨⟨u, ?_⟩, hit'.at fun o q => (sb.2 it (Ne.symm hne)).trans q, hne⟩, fun b hb => ?_⟩
    · have e1 : ((i + 1 : Nat) : Int) = (i : Int) + 1 := by omega
      rw [e1]; exact he'
    · have hb' : b < s.heap.objs.size := by
        have e' : b = e ∨ b = it := by simpa using hb
        rcases e' with z | z
        · rw [z]; exact hel
        · rw [z]; exact hil
      rw [upd_ne (Nat.ne_of_lt hb')]
      exact (hf b hb).1
  done := by
    intro X hP hw hK hc i pins s σ H E I hf st hg
    subst hP hw hK
    obtain ⟨⟨old, he⟩, hit, hne⟩ := st
    obtain ⟨xs, hq, hx⟩ := hg
    obtain ⟨its, rv, p, hz⟩ := I.list hq
    obtain ⟨f0, f1, f2, f3, f4, f5⟩ := hf it (by simp)
    have hl := rv.length
    exact wpAny_pyNext_enum_end (I.ok.hd hc) he hit p.isList (by simp; omega) fun h' eb => ⟨rfl, I.turned (t' := s.toks) (fun b o hb q => eb b o hb q) f0 f1 f3 f4 f5⟩
  self := fun A i s Q E st h => let ⟨⟨_, he⟩, _⟩ := st; wpAny_pyIter_enum he h
def iEnum (K : PySem.W.Frag) (ta : TA) : TI := fun σ H R => ta σ H fun vs H1 => ∃ a xs, vs = [.ref a] ∧ SqL K H1 a xs ∧ R (Ite K a) H1
theorem pi_enum {X : Cx} {e : Expr} {ta : TA} {p pos tpos : Pos} {elts : List Expr} {kk : Nat} (hg : Gl X "enumerate") (hm : X.mg "enumerate" = none) (ha : PA X [e] ta) (hs : starEach [e] X.env = [(false, eval e X.env)] := by rfl) :
    PI X (.Tuple elts kk tpos) (.Call (.Name "enumerate" p) [e] [] pos) (iEnum X.K ta) := by
  intro pins s σ H R I h
  refine Call_ (ld_blt I hg hm boot_enumerate (PyProof.Rows.callWith_type1 (thn (ha pos pins s σ H _ I h) fun us s1 ⟨vs, H1, I1, r1, q1⟩ => ?_) hs rfl))
  obtain ⟨a, xs, ex, hq, q⟩ := q1
  subst ex
  cases r1 with
  | cons r rr =>
    cases rr
    cases r
    obtain ⟨its, rv, p', hz⟩ := I1.list hq
    refine call_enumerate_list p'.isList fun h' he hit hsz hk => wpAny_pyIter_enum he ?_
    have I2 : Inv X pins σ H1 { s1 with heap := h' } := I1.kept (t' := s1.toks) hk
    refine ⟨s1.heap.objs.size + 1, [s1.heap.objs.size + 1, s1.heap.objs.size], _, _, H1, rfl, I2, turn_enum a (s1.heap.objs.size + 1) s1.heap.objs.size, ⟨⟨.none, he⟩, hit, Nat.succ_ne_self _⟩, fun b hb => ?_, q⟩
    have e' : b = s1.heap.objs.size + 1 ∨ b = s1.heap.objs.size := by simpa using hb
    have hle : s1.heap.objs.size ≤ b := by
      rcases e' with z | z
      · rw [z]; exact Nat.le_add_right _ _
      · rw [z]; exact Nat.le_refl _
    exact I1.fpOk hle (I1.hok.fresh hle)
theorem boot_zip5 : bootBuiltins "zip" = some (.type "zip") := by decide +kernel
def Itz (K : PySem.W.Frag) (a b : Addr) : It :=
  ⟨fun i H => ∃ (xs ys : List V) (x y : V), SqL K H a xs ∧ SqL K H b ys ∧ xs[i]? = some x ∧ ys[i]? = some y,
    fun i H v H' => ∃ T x y, v = .ref T ∧ H T = none ∧ H' = upd H T (.tup [x, y]) ∧ (∀ xs, SqL K H a xs → xs[i]? = some x) ∧ ∀ ys, SqL K H b ys → ys[i]? = some y,
    fun i H => ∃ xs ys : List V, SqL K H a xs ∧ SqL K H b ys ∧ (xs.length ≤ i ∨ ys.length ≤ i)⟩
theorem turn_zip {P : Program} {w : World} {K : PySem.W.Frag} {elts : List Expr} {kk : Nat} {tpos : Pos} {a b z TI TO i1 i2 : Addr} (D : ZipApart z TI TO i1 i2 a b) :
    Turn P w K (.Tuple elts kk tpos) (Itz K a b) [z, TI, TO, i1, i2] z (fun i h => IsZip h z TI TO .none ∧ IsPair h TI (.ref i1) (.ref i2) ∧ (∃ x y, IsPair h TO x y) ∧ h.IsListIter i1 a i ∧ h.IsListIter i2 b i) where
  mem := by simp
  obj := fun i h st c hc => by
    obtain ⟨hz, hTI, ⟨x, y, hTO⟩, ⟨o1, e1, _, d1⟩, ⟨o2, e2, _, d2⟩⟩ := st
    have e' : c = z ∨ c = TI ∨ c = TO ∨ c = i1 ∨ c = i2 := by simpa using hc
    rcases e' with q | q | q | q | q
    · rw [q]; exact ⟨_, hz, fun v q => nomatch q⟩
    · rw [q]; exact ⟨_, hTI, fun v q => nomatch q⟩
    · rw [q]; exact ⟨_, hTO, fun v q => nomatch q⟩
    · rw [q]; exact ⟨o1, e1, fun v q => by rw [d1] at q; cases q⟩
    · rw [q]; exact ⟨o2, e2, fun v q => by rw [d2] at q; cases q⟩
  keep := fun i h h' st k => by
    obtain ⟨hz, hTI, ⟨x, y, hTO⟩, h1, h2⟩ := st
    exact ⟨k z (by simp) _ hz, k TI (by simp) _ hTI, ⟨x, y, k TO (by simp) _ hTO⟩, h1.at fun o q => k i1 (by simp) o q, h2.at fun o q => k i2 (by simp) o q⟩
  item := by
    intro X hP hw hK hc i pins s σ H E I hf st hg
    subst hP hw hK
    obtain ⟨hz, hTI, ⟨x0, y0, hTO⟩, h1, h2⟩ := st
    obtain ⟨xs, ys, x, y, hqx, hqy, hx, hy⟩ := hg
    obtain ⟨its, rv, p, _⟩ := I.list hqx
    obtain ⟨its2, rv2, p2, _⟩ := I.list hqy
    obtain ⟨u, hu, ru⟩ := rv.get hx
    obtain ⟨u2, hu2, ru2⟩ := rv2.get hy
    have hzl : z < s.heap.objs.size := Heap.lt_size hz
    refine wpAny_pyNext_zip_item D hz hTI hTO h1 h2 p.isList p2.isList (x := u) (y := u2) (by simpa using hu) (by simpa using hu2) fun h' z' TO' h1' h2' hT hsz hk => ?_
    refine ⟨_, rfl, wpAny_letOwnedTupleGo_zip (s := { s with heap := h' }) z' fun h'' z'' sb => ?_⟩
    have hT2 : h''.get? s.heap.objs.size = some { cls := .type "tuple", data := .seq #[u, u2] } := (sb.2 _ (Nat.ne_of_gt hzl)).trans hT
    have new : ObjOk X.prog X.w (upd H s.heap.objs.size (.tup [x, y])) h'' s.heap.objs.size (.tup [x, y]) :=
      ⟨by show 2 ≤ sizeLine; decide, [u, u2], .cons ru (.cons ru2 .nil), ⟨_, hT2, rfl, _, rfl⟩⟩
    have I1 : Inv X pins σ (upd H s.heap.objs.size (.tup [x, y])) { s with heap := h'' } :=
      I.turnedNew (t' := s.toks) (ch := [z, TI, TO, i1, i2]) (fun c o hb q => (sb.2 c (fun q' => hb (by simp [q']))).trans (hk c o (fun q' => hb (by simp [q'])) (fun q' => hb (by simp [q'])) (fun q' => hb (by simp [q'])) (fun q' => hb (by simp [q'])) q)) hf (Nat.le_refl _) new
    refine ⟨.ref s.heap.objs.size, _, I1, rfl, ⟨_, x, y, rfl, I.hok.fresh (Nat.le_refl _), rfl, fun l hl => by rw [I.list_inj hl hqx]; exact hx, fun l hl => by rw [I.list_inj hl hqy]; exact hy⟩, ⟨z'', ?_, ⟨u, u2, ?_⟩, ?_, ?_⟩, fun c hcm => ?_⟩
    · exact (sb.2 _ D.TIz).trans (hk _ _ D.TIz D.TITO D.TIi1 D.TIi2 hTI)
    · exact (sb.2 _ D.TOz).trans TO'
    · exact h1'.at fun o q => (sb.2 _ D.i1z).trans q
    · exact h2'.at fun o q => (sb.2 _ D.i2z).trans q
    · have hlt : c < s.heap.objs.size := by
        have e' : c = z ∨ c = TI ∨ c = TO ∨ c = i1 ∨ c = i2 := by simpa using hcm
        rcases e' with q | q | q | q | q
        · rw [q]; exact hzl
        · rw [q]; exact Heap.lt_size hTI
        · rw [q]; exact Heap.lt_size hTO
        · rw [q]; obtain ⟨_, e1, _⟩ := h1; exact Heap.lt_size e1
        · rw [q]; obtain ⟨_, e2, _⟩ := h2; exact Heap.lt_size e2
      rw [upd_ne (Nat.ne_of_lt hlt)]
      exact (hf c hcm).1
  done := by
    intro X hP hw hK hc i pins s σ H E I hf st hg
    subst hP hw hK
    obtain ⟨hz, hTI, ⟨x0, y0, hTO⟩, h1, h2⟩ := st
    obtain ⟨xs, ys, hqx, hqy, hend⟩ := hg
    obtain ⟨its, rv, p, _⟩ := I.list hqx
    obtain ⟨its2, rv2, p2, _⟩ := I.list hqy
    have l1 := rv.length
    have l2 := rv2.length
    have he : its.toArray[i]? = none ∨ its2.toArray[i]? = none := by
      rcases hend with q | q
      · exact .inl (by simp; omega)
      · exact .inr (by simp; omega)
    exact wpAny_pyNext_zip_end (I.ok.hd hc) D hz hTI hTO h1 h2 p.isList p2.isList he fun h' hk => ⟨rfl, I.turnedL (t' := s.toks) (ch := [z, TI, TO, i1, i2]) (fun c o hb q =>
      hk c o (fun q' => hb (by simp [q'])) (fun q' => hb (by simp [q'])) (fun q' => hb (by simp [q'])) (fun q' => hb (by simp [q'])) q) hf⟩
  self := fun A i s Q E st h => wpAny_pyIter_zip st.1 h
def iZip (K : PySem.W.Frag) (ta : TA) : TI := fun σ H R => ta σ H fun vs H1 => ∃ a b xs ys, vs = [.ref a, .ref b] ∧ SqL K H1 a xs ∧ SqL K H1 b ys ∧ R (Itz K a b) H1
theorem pi_zip {X : Cx} {e e2 : Expr} {ta : TA} {p pos tpos : Pos} {elts : List Expr} {kk : Nat} (hg : Gl X "zip") (hm : X.mg "zip" = none) (ha : PA X [e, e2] ta)
    (hs : starEach [e, e2] X.env = (false, eval e X.env) :: starEach [e2] X.env := by rfl) (hpl : (backTo pos (starEach [e2] X.env)).any (·.1) = false := by rfl) :
    PI X (.Tuple elts kk tpos) (.Call (.Name "zip" p) [e, e2] [] pos) (iZip X.K ta) := by
  intro pins s σ H R I h
  refine Call_ (ld_blt I hg hm boot_zip5 (PyProof.Rows.callWith_type1 (thn (ha pos pins s σ H _ I h) fun us s1 ⟨vs, H1, I1, r1, q1⟩ => ?_) hs hpl))
  obtain ⟨a, b, xs, ys, ex, hqx, hqy, q⟩ := q1
  subst ex
  cases r1 with
  | cons r rr =>
    cases rr with
    | cons r' rr =>
      cases rr
      cases r
      cases r'
      obtain ⟨its, rv, p1, _⟩ := I1.list hqx
      obtain ⟨its2, rv2, p2, _⟩ := I1.list hqy
      have la : a < s1.heap.objs.size := p1.lt
      have lb : b < s1.heap.objs.size := p2.lt
      refine call_zip_2 p1.isList p2.isList fun h' hz hTI hTO h1 h2 hsz hk => wpAny_pyIter_zip hz ?_
      have I2 : Inv X pins σ H1 { s1 with heap := h' } := I1.kept (t' := s1.toks) hk
      refine ⟨s1.heap.objs.size + 4, [s1.heap.objs.size + 4, s1.heap.objs.size + 2, s1.heap.objs.size + 3, s1.heap.objs.size, s1.heap.objs.size + 1], _, _, H1, rfl, I2, turn_zip (PySem.W.ktu_apart s1.heap.objs.size a b la lb), ⟨hz, hTI, ⟨_, _, hTO⟩, h1, h2⟩, fun c hcm => ?_, q⟩
      have e' : c = s1.heap.objs.size + 4 ∨ c = s1.heap.objs.size + 2 ∨ c = s1.heap.objs.size + 3 ∨ c = s1.heap.objs.size ∨ c = s1.heap.objs.size + 1 := by simpa using hcm
      have hle : s1.heap.objs.size ≤ c := by
        rcases e' with z | z | z | z | z
        · rw [z]; exact Nat.le_add_right _ _
        · rw [z]; exact Nat.le_add_right _ _
        · rw [z]; exact Nat.le_add_right _ _
        · rw [z]; exact Nat.le_refl _
        · rw [z]; exact Nat.le_add_right _ _
      exact I1.fpOk hle (I1.hok.fresh hle)
end L2
section
namespace Bits
open PySem PyProof.Rows
end Bits
end
section
namespace TL
open PySem PySem.Builtin PySem.Builtin.Str PySem.StrLaws
abbrev tl (x : Str) : List Nat := x.cps.toList
def pre (S l : List Nat) : Bool := l.take S.length == S
def spl (S : List Nat) : Nat → List Nat → List Nat → List (List Nat)
  | _, acc, [] => [acc]
  | 0, acc, c :: r => if pre S (c :: r) = true then acc :: spl S (S.length - 1) [] r else spl S 0 (acc ++ [c]) r
  | k + 1, acc, _ :: r => spl S k acc r
def par (S : List Nat) : List Nat → List Nat → Option (List Nat × List Nat)
  | _, [] => none
  | acc, c :: r => if pre S (c :: r) = true then some (acc, (c :: r).drop S.length) else par S (acc ++ [c]) r
end TL
end
namespace L2
open PySem PySem.Spec PyProof.Rows
section
variable {X : Cx} {pins : List (Addr × Obj)} {σ : St} {H : Hp} {s : Shared} {Q : VK}
end
section
variable {X : Cx}
end
section
variable {X : Cx} {o e : Expr} {to te : TE}
end
end L2
namespace L2
open PySem PySem.Spec PyProof.Rows
section
variable {X : Cx}
end
end L2
namespace Att
open PySem PySem.W PySem.Calls PyProof.Rows
theorem ints_of_wellAll {P : Params} {h : Heap} : ∀ (ns : List Int) (vs : List Value), WellAll P h vs (ns.map WData.int) → IntsAre vs ns := by
  intro ns
  induction ns with
  | nil =>
    intro vs w
    rw [List.map_nil] at w
    cases w
    exact .nil
  | cons n ns ih =>
    intro vs w
    rw [List.map_cons] at w
    cases w with
    | cons a b =>
      cases a
      exact .cons _ _ (ih _ b)
theorem script_of {l : OpenLaw} {n : Nat} (hn : l.most = some n) {P : Params} {h : Heap} {args : List WData} {vals : List Value}
    (hpre : l.row.toRowW.claim.pre args = true) (hwl : WellAll P h vals args) :
    ∃ a vs ns, vals = [Value.ref a] ∧ args = [WData.list (ns.map WData.int)] ∧ h.get? a = some { cls := .type "list", data := .seq vs.toArray } ∧ IntsAre vs ns ∧ ns.length ≤ n := by
  have hsh : WShape.hasAll [] args [.list .int] = true := (pre_splitW hpre).1
  have hc : l.pre.holds [] { args := args } = true := (pre_splitW hpre).2
  obtain ⟨d, r, rfl, h1, h2⟩ := hasAllW_cons hsh
  obtain rfl := hasAllW_nil h2
  obtain ⟨xs, rfl, h3⟩ := hasW_list h1
  obtain ⟨ns, rfl⟩ := items_int h3
  have hlen : ns.length ≤ n := by
    unfold OpenLaw.pre at hc
    have h4 : (WTm.not (.lt (.lit (.int (n : Int))) (.len (.arg 0)))).holds [] { args := [.list (ns.map .int)] } = true := by
      have h4 := (holds_andW hc).1
      rw [hn] at h4
      exact h4
    have h5 := condW_of h4 (w_not (w_lt w_lit (w_len_list (w_arg rfl))))
    rw [List.length_map] at h5
    refine Nat.le_of_not_lt fun q => ?_
    have q' : (n : Int) < ((ns.length : Nat) : Int) := by omega
    first
      | (rw [decide_eq_true q'] at h5; exact absurd h5 (by decide))
      | (simp at h5; omega)
  cases hwl with
  | cons w1 w2 =>
    cases w2
    cases w1 with
    | list ho hall => exact ⟨_, _, ns, rfl, rfl, ho, ints_of_wellAll ns _ hall, hlen⟩
theorem post_true (l : OpenLaw) (args : List WData) : l.row.toRowW.claim.post args (.bool true) args = true :=
  postW_of (r := l.row.toRowW) (X := (true == true))
    (show WShape.has [] (.bool true) .bool = true by first | rfl | decide | simp [WShape.has, WShape.arms, WShape.armsAll])
    (show (WTm.eq .res (.lit (.bool true))).value [] { args := args, res := some (.bool true), after := args } = some (.bool (true == true)) from w_eq_bool (w_res rfl) w_lit) rfl
section
variable {prog : Program} {w : World} {A : Around} {E : Value → Shared → Prop} {s : Shared} {K : Frag}
end
end Att
namespace L2
open PySem PySem.Spec PyProof.Rows
theorem vals_ints : ∀ {vs : List Value} {ns : List Int}, IntsAre vs ns → Vals (ns.map V.int) vs
  | _, _, .nil => .nil
  | _, _, .cons n t h => .cons ⟨t, rfl⟩ (vals_ints h)
def Only (H : Hp) : Prop := ∀ b, H b = none ∨ ∃ o xs, H b = some (.frz o (.lst xs))
theorem law_call {P : Program} {w : World} {K : PySem.W.Frag} {mg mb : Str → Option Value} {CX : CXT} {k : Nat} {fa a : Addr} {fd : FuncData} {x : Str} {sp : Sp} {s₁ : Shared} {vs : List Value} {ns : List Int}
    (KX : K.In s₁.heap) (hns : s₁.heap.Ns mainGlobals mg) (hb : s₁.heap.Ns builtinsNs mb) (hbb : ∀ x : Str, x ≠ "__name__" → mb x = bootBuiltins x) (hlim : s₁.heap.NoLimit) (hg : s₁.gens = #[])
    (ha : s₁.heap.get? a = some { cls := .type "list", data := .seq vs.toArray }) (hi : IntsAre vs ns) (hl : ns.length ≤ sizeLine) (hr : Room k callerA)
    (F : ∀ base : Heap, K.In base → base.Ns mainGlobals mg → FnOk P w K mg base CX k fa fd [x] sp) (hbind : ∀ (s : Shared) (u : Value), BindsTo s fd ⟨[u], []⟩ [(x, u)])
    (hsp : ∀ H : Hp, Only H → SqL K H a (ns.map V.int) → sp [.ref a] H (fun v _ => v = .bl true) fun _ _ _ => False)
    (hCX : ∀ H e s', CX [] H s₁ (fun _ _ _ => False) e s' → False) :
    codeAny (model P w) callerA (.call (.ref fa) ⟨[.ref a], []⟩) (fun r s' => r = .ok (.ret (.bool true)) ∧ OldK s₁.heap s'.heap ∧ s'.os = s₁.os ∧ AllBare s'.gens) s₁ := by
  have rv := vals_ints hi
  have lenV := hi.length
  have core : ∀ H : Hp, Only H → SqL K H a (ns.map V.int) → HOk P w H s₁.heap → (∀ b, H b ≠ none → b = a) → (H a ≠ none → K.lookup a = none) →
      codeAny (model P w) callerA (.call (.ref fa) ⟨[.ref a], []⟩) (fun r s' => r = .ok (.ret (.bool true)) ∧ OldK s₁.heap s'.heap ∧ s'.os = s₁.os ∧ AllBare s'.gens) s₁ := by
    intro H hO hS hok hA hK
    have base_of : ∀ {b : Addr} {o : Obj}, s₁.heap.get? b = some o → H b = none → (hidT s₁.heap H).get? b = some o := fun e n => hidT_get e n
    have noA : ∀ {b : Addr} {o : Obj} {es : Array DictEntry} {ep : Nat}, s₁.heap.get? b = some o → o.data = .dict es ep → H b = none := fun {b o es ep} e d => by
      cases q : H b with
      | none => rfl
      | some u =>
        have e' : b = a := hA b (by rw [q]; simp)
        subst e'
        rw [ha] at e; cases e
        have d' : Data.seq vs.toArray _ = Data.dict es ep := d
        cases d'
    have nsK : ∀ {b : Addr} {m : Str → Option Value}, s₁.heap.Ns b m → (hidT s₁.heap H).Ns b m := fun {b m} ⟨o, es, ep, e, d, r⟩ => ⟨o, es, ep, base_of e (noA e d), d, r⟩
    have hKb : K.In (hidT s₁.heap H) := fun b o e => base_of (KX b o e) (by
      cases q : H b with
      | none => rfl
      | some u =>
        have e' : b = a := hA b (by rw [q]; simp)
        subst e'
        rw [hK (by rw [q]; simp)] at e; cases e)
    have hM : Mod K mg (hidT s₁.heap H) := ⟨hKb, nsK hns, ⟨mb, nsK hb, hbb⟩, let ⟨mc, h1, h2⟩ := hlim; ⟨mc, nsK h1, h2⟩⟩
    have e0 : Env0 P w K mg (hidT s₁.heap H) callerA [] s₁ H := ⟨rfl, hM, fun b o e => of_hidT e, Nat.le_of_eq (hidT_size _ _), trivial, fun b hb => absurd (show b ∈ ([] : List Addr) from hb) (by simp), hok, .of_eq hg⟩
    refine codeAny_mono ((F _ hKb (nsK hns)).run callerA [] s₁ H ⟨[.ref a], []⟩ [.ref a] [.ref a] _ _ hr e0 (hbind s₁ (.ref a)) (.cons rfl .nil) (hsp H hO hS)) fun r s' h => ?_
    cases r with
    | error e => exact (hCX H e s' h).elim
    | ok fl =>
      cases fl with
      | next => exact False.elim h
      | brk => exact False.elim h
      | cont => exact False.elim h
      | ret u =>
        obtain ⟨v, H', os, bare, un, hok', r', q⟩ := h
        have q' : v = .bl true := q
        subst q'
        obtain rfl : u = Value.bool true := r'
        refine ⟨rfl, OldK.of_keep fun b o e => ?_, os, bare⟩
        cases q : H b with
        | none => exact un.keep b o e q (by intro z; exact absurd (show b ∈ ([] : List Addr) from z) (by simp)) (by simp)
        | some u =>
          rcases hO b with z | ⟨ob, xs, z⟩
          · rw [q] at z; cases z
          · have z2 := un.frzs b ob _ z
            obtain ⟨e1, _⟩ := hok b _ z
            obtain ⟨e2, _⟩ := hok' b _ z2
            rw [e] at e1; cases e1
            exact e2
  cases hk : K.lookup a with
  | some o =>
    have e := KX a o hk
    rw [ha] at e
    cases e
    refine core (fun _ => none) (fun _ => .inl rfl) (.inr ⟨_, vs.toArray, _, hk, rfl, rfl, rfl, by rw [List.size_toArray, lenV]; exact hl, by simpa using rv⟩) (fun b u z => by have z' : (none : Option HO) = some u := z; cases z') (fun b z => absurd rfl z) fun z => absurd rfl z
  | none =>
    refine core (fun b => if b = a then some (.frz { cls := .type "list", data := .seq vs.toArray } (.lst (ns.map V.int))) else none) (fun b => ?_) (.inl (.inr ⟨{ cls := .type "list", data := .seq vs.toArray }, if_pos rfl⟩)) (fun b u z => ?_) (fun b z => ?_) fun _ => hk
    · by_cases hb : b = a
      · exact .inr ⟨_, _, if_pos hb⟩
      · exact .inl (if_neg hb)
    · by_cases hb : b = a
      · have z' := (if_pos hb).symm.trans z
        cases z'
        subst hb
        exact ⟨ha, by rw [List.length_map]; exact hl, vs, _, rv, ha⟩
      · have z' := (if_neg hb).symm.trans z
        cases z'
    · by_cases hb : b = a
      · exact hb
      · exact absurd (if_neg hb) z
end L2
namespace L2
open PySem PySem.Spec PyProof.Rows
end L2
namespace L2
open PySem PySem.Spec PyProof.Rows
def inClass (s : Stmt) (j : Nat) : Stmt := match s with
  | .ClassDef _ _ _ body _ _ _ _ _ _ _ => body.getD j (.Pass ⟨0, 0, 0, 0⟩)
  | _ => .Pass ⟨0, 0, 0, 0⟩
def defArgs (s : Stmt) : Arguments := match s with
  | .FunctionDef _ a _ _ _ _ _ _ _ _ => a
  | _ => { posonlyargs := [], args := [], vararg := none, kwonlyargs := [], kw_defaults := [], kwarg := none, defaults := [] }
def defBody (s : Stmt) : List Stmt := match s with
  | .FunctionDef _ _ b _ _ _ _ _ _ _ => b
  | _ => []
def defScope (s : Stmt) : Scope := match s with
  | .FunctionDef _ _ _ _ _ _ sc _ _ _ => sc
  | _ => { kind := .function, names := [], isGenerator := false, isCoroutine := false }
abbrev CX0 : CXT := fun _ _ _ _ _ _ => False
abbrev E0 : XK := fun _ _ _ => False
structure Fun (K : PySem.W.Frag) (x qual : Str) (st : Stmt) (f : Addr) (fd : FuncData) : Prop where
  ex : ∃ (oc : Value) (od : Option Addr) (kV doc pm : Value) (an : Option Addr) (cdv ct : Value) (osl : Array (Option Value)),
    fd = PySem.W.fnOf x qual (defArgs st) (defBody st) (defScope st) .none kV doc pm an cdv ct ∧ K.lookup f = some ⟨oc, od, .func fd, osl⟩ ∧ PySem.W.codeIn K cdv qual = true
  kp : PySem.W.keepIn K (.ref f) = true
section
variable {P : Program} {w : World} {K : PySem.W.Frag} {mg : Str → Option Value} {base : Heap}
theorem Fun.ok {x qual : Str} {st : Stmt} {f : Addr} {fd : FuncData} {N ps : List Str} {k : Nat} {sp : Sp} (F : Fun K x qual st f fd) (S : FnScope N ps (defScope st)) (len : ∀ vs H Q E, sp vs H Q E → vs.length = ps.length)
    (hbody : ∀ (cdv : Value) (A : Around) (outer : List Env) (s : Shared) (H : Hp) (vs : List V) (Q : VK) (E : XK), Room k (A.deeper (envOfC qual (defScope st) s.heap.objs.size f cdv)) → sp vs H Q E →
      ∃ t, PSs (cxOf CX0 P w K mg base N qual (defScope st) f cdv A outer s H E).nox (defBody st) t ∧ t { nx := fun _ H' => Q .non H', rt := Q } (start N vs) H) : FnOk P w K mg base CX0 (k + 1) f fd ps sp := by
  obtain ⟨oc, od, kV, doc, pm, an, cdv, ct, osl, rfl, lk, hcd⟩ := F.ex
  refine fn_of lk hcd S len fun A outer s H vs Q E hr hsp => ?_
  obtain ⟨t, h, q⟩ := hbody cdv A outer s H vs Q E hr hsp
  exact ⟨t, h.nox, q⟩
theorem Fun.binds {x qual : Str} {st : Stmt} {f : Addr} {fd : FuncData} {ps : List Str} (F : Fun K x qual st f fd)
    (h : ∀ (kV doc pm : Value) (an : Option Addr) (cdv ct : Value) (us : List Value), us.length = ps.length → bindArgs (PySem.W.fnOf x qual (defArgs st) (defBody st) (defScope st) .none kV doc pm an cdv ct) ⟨us, []⟩ = pure (ps.zip us)) : Binds K fd ps [] := by
  obtain ⟨oc, od, kV, doc, pm, an, cdv, ct, osl, rfl, lk, hcd⟩ := F.ex
  exact .all (h kV doc pm an cdv ct)
theorem fun_mk {x qual : Str} {st : Stmt} {f : Addr} {oc : Value} {od an : Option Addr} {osl : Array (Option Value)} {kV doc pm cdv ct : Value} (l : K.lookup f = some ⟨oc, od, .func (PySem.W.fnOf x qual (defArgs st) (defBody st) (defScope st) .none kV doc pm an cdv ct), osl⟩)
    (c : PySem.W.codeIn K cdv qual = true) (k : PySem.W.keepIn K (.ref f) = true) : Fun K x qual st f (PySem.W.fnOf x qual (defArgs st) (defBody st) (defScope st) .none kV doc pm an cdv ct) := ⟨⟨oc, od, kV, doc, pm, an, cdv, ct, osl, rfl, l, c⟩, k⟩
end
section
variable {X : Cx}
end
def Same (H H' : Hp) : Prop := ∀ b o, H b = some o → H' b = some o
theorem Same.refl (H : Hp) : Same H H := fun _ _ h => h
theorem Same.trans {H H1 H2 : Hp} (a : Same H H1) (b : Same H1 H2) : Same H H2 := fun c o h => b c o (a c o h)
theorem Same.free {H H' : Hp} (e : Same H H') {l : Addr} (h : H' l = Option.none) : H l = Option.none := by
  cases q : H l with
  | none => rfl
  | some o =>
    rw [e l o q] at h
    cases h
theorem Same.seq {K : PySem.W.Frag} {H H' : Hp} {a : Addr} {xs : List V} (e : Same H H') (h : SqL K H a xs) : SqL K H' a xs := by
  rcases h with (h | ⟨o, h⟩) | h
  · exact .inl (.inl (e _ _ h))
  · exact .inl (.inr ⟨o, e _ _ h⟩)
  · exact .inr h
section
variable {κ : Type} [DecidableEq κ]
end
theorem Same.made {H H1 : Hp} {x dx C : Addr} (nx : H x = Option.none) (nd : H dx = Option.none) (k : ∀ b o, (upd (upd H dx (.own x)) x (.ins C dx [])) b = some o → b ≠ x → H1 b = some o) : Same H H1 := fun b o e =>
  k b o (by rw [upd_ne (ne_of_none e nx), upd_ne (ne_of_none e nd)]; exact e) (ne_of_none e nx)
end L2
set_option maxHeartbeats 4000000
namespace BD
open PySem L2
inductive D where
  | non | bl (b : Bool) | int (i : Int) | str (x : Str) | tup (ds : List D) | lst (ds : List D) | dct | fn (n : Nat) | exn (n : Nat) | obj (n : Nat) (ds : List D) | cell (n : Nat) | dic (ks : List (List Key)) (ds : List D)
inductive Out where
  | val (d : D) | exc (n : Nat)
inductive OutL where
  | vals (ds : List D) | exc (n : Nat)
inductive Sl where
  | sh (d : D) | own (ds : List D) | mp (ks : List (List Key)) (ds : List D)
abbrev Rho := List (Option Sl)
abbrev Ev := Rho → Option Out
abbrev EvL := Rho → Option OutL
inductive Fl where
  | nx (ρ : Rho) | rt (d : D) | bk (ρ : Rho) | ct (ρ : Rho) | exc (n : Nat)
abbrev Sv := Rho → Option Fl
def mutN (n : Nat) : Bool := decide (100 ≤ n)
structure Tab where
  fnA : Nat → Option Addr
  ex : Addr → Nat → HO → Prop
  clsV : Nat → Value
  oc : Nat → Option (Addr × List Str)
  cl : List Addr
  mt : Bool
  hd : Option Addr
variable {T : Tab} {K : PySem.W.Frag}
def SqF (K : PySem.W.Frag) (F : Addr → Prop) (H : Hp) (a : Addr) (xs : List V) : Prop :=
  (F a ∧ Rd H a (.lst xs)) ∨
    ∃ (o : Obj) (its : Array Value) (n : Nat), K.lookup a = some o ∧ o.cls = .type "list" ∧ o.dict = none ∧ o.data = .seq its n ∧ its.size ≤ sizeLine ∧ Vals xs its.toList
abbrev Still (o : HO) : Prop := (∀ xs, o ≠ .lst xs) ∧ ∀ kvs, o ≠ .dT kvs
theorem SqF.sq {F : Addr → Prop} {H : Hp} {a : Addr} {xs : List V} (h : SqF K F H a xs) : SqL K H a xs := by
  rcases h with ⟨_, h⟩ | h
  · exact .inl h
  · exact .inr h
mutual
inductive Rep (T : Tab) (K : PySem.W.Frag) (F : Addr → Prop) (H : Hp) : V → D → Prop
  | non : Rep T K F H .non .non
  | bl (b : Bool) : Rep T K F H (.bl b) (.bl b)
  | int (i : Int) : Rep T K F H (.int i) (.int i)
  | str (x : Str) : Rep T K F H (.str x) (.str x)
  | tup {a : Addr} {vs : List V} {ds : List D} (h : SqT K H a vs) (r : Reps T K F H vs ds) : Rep T K F H (.ref a) (.tup ds)
  | lst {a : Addr} {vs : List V} {ds : List D} (h : SqF K F H a vs) (r : Reps T K F H vs ds) : Rep T K F H (.ref a) (.lst ds)
  | dct {a : Addr} (h : H a = some (.dK [])) : Rep T K F H (.ref a) .dct
  | fn {a : Addr} {n : Nat} (h : T.fnA n = some a) : Rep T K F H (.ref a) (.fn n)
  | exn {a : Addr} {n : Nat} {o : HO} (h : H a = some o) (nl : Still o) (e : T.ex a n o) : Rep T K F H (.ref a) (.exn n)
  | obj {a C dx : Addr} {n : Nat} {fs : List (Str × V)} {ds : List D} (g : mutN n = false ∨ T.mt = true) (h : H a = some (.ins C dx fs)) (t : T.oc n = some (C, fs.map (·.1))) (r : Reps T K F H (fs.map (·.2)) ds) : Rep T K F H (.ref a) (.obj n ds)
  | cell {a : Addr} {n : Nat} (h : T.cl[n]? = some a) : Rep T K F H (.ref a) (.cell n)
  | dic {a : Addr} {kvs : List (List Key × V)} {ds : List D} (f : F a) (h : H a = some (.dT kvs)) (r : Reps T K F H (kvs.map (·.2)) ds) : Rep T K F H (.ref a) (.dic (kvs.map (·.1)) ds)
inductive Reps (T : Tab) (K : PySem.W.Frag) (F : Addr → Prop) (H : Hp) : List V → List D → Prop
  | nil : Reps T K F H [] []
  | cons {v : V} {vs : List V} {d : D} {ds : List D} (r : Rep T K F H v d) (t : Reps T K F H vs ds) : Reps T K F H (v :: vs) (d :: ds)
end
def Keep (F : Addr → Prop) (H H' : Hp) : Prop := ∀ a o, H a = some o → (F a ∨ Still o) → H' a = some o
def Ext (H H' : Hp) : Prop := ∀ a o, H a = some o → H' a = some o
theorem Ext.keep {F : Addr → Prop} {H H' : Hp} (h : Ext H H') : Keep F H H' := fun a o e _ => h a o e
theorem Ext.refl (H : Hp) : Ext H H := fun _ _ e => e
theorem Ext.trans {H H1 H2 : Hp} (a : Ext H H1) (b : Ext H1 H2) : Ext H H2 := fun x o e => b x o (a x o e)
theorem Ext.upd {H : Hp} {p : Addr} {o : HO} (h : H p = none) : Ext H (upd H p o) := fun a u e => by
  rw [upd_ne (ne_of_none e h)]; exact e
theorem Ext.none {H H' : Hp} (h : Ext H H') {a : Addr} (e : H' a = none) : H a = none := by
  cases q : H a with
  | none => rfl
  | some o => rw [h a o q] at e; cases e
theorem SqT.keep {F : Addr → Prop} {H H' : Hp} {a : Addr} {xs : List V} (k : Keep F H H') (h : SqT K H a xs) : SqT K H' a xs := by
  rcases h with (h | ⟨o, h⟩) | h
  · exact .inl (.inl (k a _ h (.inr ⟨(fun _ z => nomatch z), fun _ z => nomatch z⟩)))
  · exact .inl (.inr ⟨o, k a _ h (.inr ⟨(fun _ z => nomatch z), fun _ z => nomatch z⟩)⟩)
  · exact .inr h
theorem SqF.keep {F F' : Addr → Prop} {H H' : Hp} {a : Addr} {xs : List V} (k : Keep F H H') (f : ∀ a, F a → F' a) (h : SqF K F H a xs) : SqF K F' H' a xs := by
  rcases h with ⟨hf, h | ⟨o, h⟩⟩ | h
  · exact .inl ⟨f a hf, .inl (k a _ h (.inl hf))⟩
  · exact .inl ⟨f a hf, .inr ⟨o, k a _ h (.inl hf)⟩⟩
  · exact .inr h
mutual
theorem Rep.keep {F F' : Addr → Prop} {H H' : Hp} (k : Keep F H H') (f : ∀ a, F a → F' a) : ∀ {v : V} {d : D}, Rep T K F H v d → Rep T K F' H' v d
  | _, _, .non => .non
  | _, _, .bl b => .bl b
  | _, _, .int i => .int i
  | _, _, .str x => .str x
  | _, _, .tup h r => .tup (SqT.keep k h) (Reps.keep k f r)
  | _, _, .lst h r => .lst (h.keep k f) (Reps.keep k f r)
  | _, _, .dct h => .dct (k _ _ h (.inr ⟨(fun _ z => nomatch z), fun _ z => nomatch z⟩))
  | _, _, .fn h => .fn h
  | _, _, .exn h nl e => .exn (k _ _ h (.inr nl)) nl e
  | _, _, .obj g h t r => .obj g (k _ _ h (.inr ⟨(fun _ z => nomatch z), fun _ z => nomatch z⟩)) t (Reps.keep k f r)
  | _, _, .cell h => .cell h
  | _, _, .dic hf h r => .dic (f _ hf) (k _ _ h (.inl hf)) (Reps.keep k f r)
theorem Reps.keep {F F' : Addr → Prop} {H H' : Hp} (k : Keep F H H') (f : ∀ a, F a → F' a) : ∀ {vs : List V} {ds : List D}, Reps T K F H vs ds → Reps T K F' H' vs ds
  | _, _, .nil => .nil
  | _, _, .cons r t => .cons (Rep.keep k f r) (Reps.keep k f t)
end
theorem Reps.length {F : Addr → Prop} {H : Hp} : ∀ {vs : List V} {ds : List D}, Reps T K F H vs ds → vs.length = ds.length
  | _, _, .nil => rfl
  | _, _, .cons _ t => by simp [Reps.length t]
theorem Reps.get {F : Addr → Prop} {H : Hp} : ∀ {vs : List V} {ds : List D} {i : Nat} {d : D}, Reps T K F H vs ds → ds[i]? = some d → ∃ v, vs[i]? = some v ∧ Rep T K F H v d
  | _, _, _, _, .nil, e => by simp at e
  | _, _, 0, _, .cons r _, e => by simp at e; subst e; exact ⟨_, rfl, r⟩
  | _, _, i + 1, d, .cons _ t, e => by
    obtain ⟨v, h1, h2⟩ := Reps.get (i := i) (d := d) t (by simpa using e)
    exact ⟨v, by simpa using h1, h2⟩
theorem Reps.get' {F : Addr → Prop} {H : Hp} : ∀ {vs : List V} {ds : List D} {i : Nat} {v : V}, Reps T K F H vs ds → vs[i]? = some v → ∃ d, ds[i]? = some d ∧ Rep T K F H v d
  | _, _, _, _, .nil, e => by simp at e
  | _, _, 0, _, .cons r _, e => by simp at e; subst e; exact ⟨_, rfl, r⟩
  | _, _, i + 1, d, .cons _ t, e => by
    obtain ⟨v, h1, h2⟩ := Reps.get' (i := i) (v := d) t (by simpa using e)
    exact ⟨v, by simpa using h1, h2⟩
theorem Reps.append {F : Addr → Prop} {H : Hp} : ∀ {vs us : List V} {ds es : List D}, Reps T K F H vs ds → Reps T K F H us es → Reps T K F H (vs ++ us) (ds ++ es)
  | _, _, _, _, .nil, s => s
  | _, _, _, _, .cons r t, s => .cons r (Reps.append t s)
theorem Reps.set {F : Addr → Prop} {H : Hp} {v : V} {d : D} (r : Rep T K F H v d) : ∀ {vs : List V} {ds : List D} (i : Nat), Reps T K F H vs ds → Reps T K F H (vs.set i v) (ds.set i d)
  | _, _, _, .nil => .nil
  | _, _, 0, .cons _ t => .cons r t
  | _, _, i + 1, .cons q t => .cons q (Reps.set r i t)
theorem Reps.take {F : Addr → Prop} {H : Hp} : ∀ {vs : List V} {ds : List D} (n : Nat), Reps T K F H vs ds → Reps T K F H (vs.take n) (ds.take n)
  | _, _, 0, _ => .nil
  | _, _, _ + 1, .nil => .nil
  | _, _, n + 1, .cons r t => .cons r (Reps.take n t)
theorem Reps.drop {F : Addr → Prop} {H : Hp} : ∀ {vs : List V} {ds : List D} (n : Nat), Reps T K F H vs ds → Reps T K F H (vs.drop n) (ds.drop n)
  | _, _, 0, r => r
  | _, _, _ + 1, .nil => .nil
  | _, _, n + 1, .cons _ t => Reps.drop n t
theorem Reps.ints {F : Addr → Prop} {H : Hp} : ∀ (ns : List Int), Reps T K F H (ns.map V.int) (ns.map D.int)
  | [] => .nil
  | n :: ns => .cons (.int n) (Reps.ints ns)
structure Grow (H H' : Hp) (F F' : Addr → Prop) : Prop where
  ext : Ext H H'
  more : ∀ a, F a → F' a
  new : ∀ a, F' a → F a ∨ H a = none
  wf : ∀ a, F' a → H' a ≠ none
theorem Grow.refl {H : Hp} {F : Addr → Prop} (w : ∀ a, F a → H a ≠ none) : Grow H H F F := ⟨.refl H, fun _ h => h, fun _ h => .inl h, w⟩
theorem Grow.trans {H H1 H2 : Hp} {F F1 F2 : Addr → Prop} (a : Grow H H1 F F1) (b : Grow H1 H2 F1 F2) : Grow H H2 F F2 :=
  ⟨a.ext.trans b.ext, fun x h => b.more x (a.more x h), fun x h => by
    rcases b.new x h with h | h
    · exact a.new x h
    · exact .inr (a.ext.none h), b.wf⟩
theorem Rep.grow {H H' : Hp} {F F' : Addr → Prop} {v : V} {d : D} (g : Grow H H' F F') (r : Rep T K F H v d) : Rep T K F' H' v d := r.keep g.ext.keep g.more
theorem Reps.grow {H H' : Hp} {F F' : Addr → Prop} {v : List V} {d : List D} (g : Grow H H' F F') (r : Reps T K F H v d) : Reps T K F' H' v d := r.keep g.ext.keep g.more
theorem Grow.upd {H : Hp} {F : Addr → Prop} {p : Addr} {o : HO} (w : ∀ a, F a → H a ≠ none) (h : H p = none) : Grow H (L2.upd H p o) F F :=
  ⟨.upd h, fun _ x => x, fun _ x => .inl x, fun a x => by
    by_cases e : a = p
    · subst e; rw [upd_same]; simp
    · rw [upd_ne e]; exact w a x⟩
theorem Grow.updF {H : Hp} {F : Addr → Prop} {p : Addr} {o : HO} (w : ∀ a, F a → H a ≠ none) (h : H p = none) : Grow H (L2.upd H p o) F (fun a => F a ∨ a = p) :=
  ⟨.upd h, fun _ x => .inl x, fun a x => by
    rcases x with x | x
    · exact .inl x
    · subst x; exact .inr h, fun a x => by
    by_cases e : a = p
    · subst e; rw [upd_same]; simp
    · rw [upd_ne e]
      rcases x with x | x
      · exact w a x
      · exact absurd x e⟩
structure Later (H H' : Hp) (F F' : Addr → Prop) : Prop where
  keep : Keep F H H'
  more : ∀ a, F a → F' a
theorem Later.refl {H : Hp} {F : Addr → Prop} : Later H H F F := ⟨fun _ _ e _ => e, fun _ h => h⟩
theorem Grow.later {H H' : Hp} {F F' : Addr → Prop} (g : Grow H H' F F') : Later H H' F F' := ⟨g.ext.keep, g.more⟩
theorem Later.trans {H H1 H2 : Hp} {F F1 F2 : Addr → Prop} (a : Later H H1 F F1) (b : Later H1 H2 F1 F2) : Later H H2 F F2 :=
  ⟨fun x o e z => b.keep x o (a.keep x o e z) (z.imp (a.more x) fun z => z), fun x h => b.more x (a.more x h)⟩
structure Ent where
  H : Hp
  F : Addr → Prop
structure Rel (T : Tab) (K : PySem.W.Frag) (c : Ent) (ρ : Rho) (σ : St) (H : Hp) (F : Addr → Prop) : Prop where
  len : ρ.length = σ.length
  sh : ∀ (i : Nat) (d : D), ρ[i]? = some (some (.sh d)) → ∃ v, σ[i]? = some (some v) ∧ Rep T K F H v d
  own : ∀ (i : Nat) (ds : List D), ρ[i]? = some (some (.own ds)) → ∃ p vs, σ[i]? = some (some (.ref p)) ∧ H p = some (.lst vs) ∧ Reps T K F H vs ds ∧ ¬ F p ∧ c.H p = none ∧
    ∀ (j : Nat) (ds' : List D), ρ[j]? = some (some (.own ds')) → σ[j]? = some (some (.ref p)) → j = i
  mp : ∀ (i : Nat) (ks : List (List Key)) (ds : List D), ρ[i]? = some (some (.mp ks ds)) → ∃ p kvs, σ[i]? = some (some (.ref p)) ∧ H p = some (.dT kvs) ∧ kvs.map (·.1) = ks ∧ Reps T K F H (kvs.map (·.2)) ds ∧ ¬ F p ∧ c.H p = none ∧
    ∀ (j : Nat) (ks' : List (List Key)) (ds' : List D), ρ[j]? = some (some (.mp ks' ds')) → σ[j]? = some (some (.ref p)) → j = i
  ext : Ext c.H H
  f0 : ∀ a, c.F a → F a
  f1 : ∀ a, F a → c.F a ∨ c.H a = none
  wf : ∀ a, F a → H a ≠ none
theorem Rel.grow {c : Ent} {ρ : Rho} {σ : St} {H H' : Hp} {F F' : Addr → Prop} (r : Rel T K c ρ σ H F) (g : Grow H H' F F') : Rel T K c ρ σ H' F' where
  len := r.len
  sh := fun i d e => let ⟨v, h1, h2⟩ := r.sh i d e; ⟨v, h1, h2.grow g⟩
  own := fun i ds e => by
    obtain ⟨p, vs, h1, h2, h3, h4, h5, h6⟩ := r.own i ds e
    refine ⟨p, vs, h1, g.ext _ _ h2, h3.grow g, fun z => ?_, h5, h6⟩
    rcases g.new p z with z | z
    · exact h4 z
    · rw [h2] at z; cases z
  mp := fun i ks ds e => by
    obtain ⟨p, kvs, h1, h2, hk, h3, h4, h5, h6⟩ := r.mp i ks ds e
    refine ⟨p, kvs, h1, g.ext _ _ h2, hk, h3.grow g, fun z => ?_, h5, h6⟩
    rcases g.new p z with z | z
    · exact h4 z
    · rw [h2] at z; cases z
  ext := r.ext.trans g.ext
  f0 := fun a h => g.more a (r.f0 a h)
  f1 := fun a h => by
    rcases g.new a h with z | z
    · exact r.f1 a z
    · exact .inr (r.ext.none z)
  wf := g.wf
theorem Rel.growE {c : Ent} {ρ : Rho} {σ : St} {H : Hp} {F : Addr → Prop} (r : Rel T K c ρ σ H F) : Grow c.H H c.F F := ⟨r.ext, r.f0, r.f1, r.wf⟩
theorem get_set_ne {α : Type} {xs : List α} {i j : Nat} {x : α} (h : j ≠ i) : (xs.set i x)[j]? = xs[j]? := List.getElem?_set_ne (Ne.symm h)
theorem get_set_eq {α : Type} {xs : List α} {i : Nat} {x y : α} (h : (xs.set i x)[i]? = some y) : y = x ∧ i < xs.length := by
  rw [List.getElem?_set_self'] at h
  cases e : xs[i]? with
  | none => rw [e] at h; simp at h
  | some z =>
    rw [e] at h
    simp at h
    exact ⟨h.symm, (List.getElem?_eq_some_iff.mp e).1⟩
theorem Rel.set {c : Ent} {ρ : Rho} {σ : St} {H : Hp} {F : Addr → Prop} (r : Rel T K c ρ σ H F) {i : Nat} {v : V} {d : D} (h : Rep T K F H v d) : Rel T K c (ρ.set i (some (.sh d))) (σ.set i (some v)) H F where
  len := by rw [List.length_set, List.length_set]; exact r.len
  sh := fun j e q => by
    by_cases hj : j = i
    · subst hj
      obtain ⟨z, hl⟩ := get_set_eq q
      cases z
      refine ⟨v, ?_, h⟩
      rw [List.getElem?_set_self (by rw [← r.len]; exact hl)]
    · rw [get_set_ne hj] at q ⊢
      exact r.sh j e q
  own := fun j ds q => by
    by_cases hj : j = i
    · subst hj
      obtain ⟨z, hl⟩ := get_set_eq q
      cases z
    · rw [get_set_ne hj] at q ⊢
      obtain ⟨p, vs, h1, h2, h3, h4, h5, h6⟩ := r.own j ds q
      refine ⟨p, vs, h1, h2, h3, h4, h5, fun k ds' q1 q2 => ?_⟩
      by_cases hk : k = i
      · subst hk
        obtain ⟨z, hl⟩ := get_set_eq q1
        cases z
      · rw [get_set_ne hk] at q1 q2
        exact h6 k ds' q1 q2
  mp := fun j ks ds q => by
    by_cases hj : j = i
    · subst hj
      obtain ⟨z, hl⟩ := get_set_eq q
      cases z
    · rw [get_set_ne hj] at q ⊢
      obtain ⟨p, kvs, h1, h2, hk, h3, h4, h5, h6⟩ := r.mp j ks ds q
      refine ⟨p, kvs, h1, h2, hk, h3, h4, h5, fun k ks' ds' q1 q2 => ?_⟩
      by_cases hk : k = i
      · subst hk
        obtain ⟨z, hl⟩ := get_set_eq q1
        cases z
      · rw [get_set_ne hk] at q1 q2
        exact h6 k ks' ds' q1 q2
  ext := r.ext
  f0 := r.f0
  f1 := r.f1
  wf := r.wf
theorem Rel.setOwn {c : Ent} {ρ : Rho} {σ : St} {H : Hp} {F : Addr → Prop} (r : Rel T K c ρ σ H F) {i : Nat} {p : Addr} {vs : List V} {ds : List D} (hp : H p = some (.lst vs)) (h : Reps T K F H vs ds) (nf : ¬ F p) (n0 : c.H p = none)
    (nj : ∀ (j : Nat) (ds' : List D), ρ[j]? = some (some (.own ds')) → σ[j]? ≠ some (some (.ref p))) : Rel T K c (ρ.set i (some (.own ds))) (σ.set i (some (.ref p))) H F where
  len := by rw [List.length_set, List.length_set]; exact r.len
  sh := fun j e q => by
    by_cases hj : j = i
    · subst hj
      obtain ⟨z, hl⟩ := get_set_eq q
      cases z
    · rw [get_set_ne hj] at q ⊢
      exact r.sh j e q
  own := fun j ds' q => by
    by_cases hj : j = i
    · subst hj
      obtain ⟨z, hl⟩ := get_set_eq q
      cases z
      refine ⟨p, vs, ?_, hp, h, nf, n0, fun k ds' q1 q2 => ?_⟩
      · rw [List.getElem?_set_self (by rw [← r.len]; exact hl)]
      · by_cases hk : k = j
        · exact hk
        · rw [get_set_ne hk] at q1 q2
          exact absurd q2 (nj k ds' q1)
    · rw [get_set_ne hj] at q ⊢
      obtain ⟨p', vs', h1, h2, h3, h4, h5, h6⟩ := r.own j ds' q
      refine ⟨p', vs', h1, h2, h3, h4, h5, fun k ds' q1 q2 => ?_⟩
      by_cases hk : k = i
      · subst hk
        obtain ⟨z, hl⟩ := get_set_eq q2
        have : p' = p := by cases z; rfl
        subst this
        exact absurd h1 (nj j _ q)
      · rw [get_set_ne hk] at q1 q2
        exact h6 k ds' q1 q2
  mp := fun j ks ds q => by
    by_cases hj : j = i
    · subst hj
      obtain ⟨z, hl⟩ := get_set_eq q
      cases z
    · rw [get_set_ne hj] at q ⊢
      obtain ⟨p, kvs, h1, h2, hk, h3, h4, h5, h6⟩ := r.mp j ks ds q
      refine ⟨p, kvs, h1, h2, hk, h3, h4, h5, fun k ks' ds' q1 q2 => ?_⟩
      by_cases hk : k = i
      · subst hk
        obtain ⟨z, hl⟩ := get_set_eq q1
        cases z
      · rw [get_set_ne hk] at q1 q2
        exact h6 k ks' ds' q1 q2
  ext := r.ext
  f0 := r.f0
  f1 := r.f1
  wf := r.wf
theorem Rel.drop {c : Ent} {ρ : Rho} {σ : St} {H : Hp} {F : Addr → Prop} (r : Rel T K c ρ σ H F) {i : Nat} {o : Option V} : Rel T K c (ρ.set i none) (σ.set i o) H F where
  len := by rw [List.length_set, List.length_set]; exact r.len
  sh := fun j e q => by
    by_cases hj : j = i
    · subst hj
      obtain ⟨z, hl⟩ := get_set_eq q
      cases z
    · rw [get_set_ne hj] at q ⊢
      exact r.sh j e q
  own := fun j ds q => by
    by_cases hj : j = i
    · subst hj
      obtain ⟨z, hl⟩ := get_set_eq q
      cases z
    · rw [get_set_ne hj] at q ⊢
      obtain ⟨p, vs, h1, h2, h3, h4, h5, h6⟩ := r.own j ds q
      refine ⟨p, vs, h1, h2, h3, h4, h5, fun k ds' q1 q2 => ?_⟩
      by_cases hk : k = i
      · subst hk
        obtain ⟨z, hl⟩ := get_set_eq q1
        cases z
      · rw [get_set_ne hk] at q1 q2
        exact h6 k ds' q1 q2
  mp := fun j ks ds q => by
    by_cases hj : j = i
    · subst hj
      obtain ⟨z, hl⟩ := get_set_eq q
      cases z
    · rw [get_set_ne hj] at q ⊢
      obtain ⟨p, kvs, h1, h2, hk, h3, h4, h5, h6⟩ := r.mp j ks ds q
      refine ⟨p, kvs, h1, h2, hk, h3, h4, h5, fun k ks' ds' q1 q2 => ?_⟩
      by_cases hk : k = i
      · subst hk
        obtain ⟨z, hl⟩ := get_set_eq q1
        cases z
      · rw [get_set_ne hk] at q1 q2
        exact h6 k ks' ds' q1 q2
  ext := r.ext
  f0 := r.f0
  f1 := r.f1
  wf := r.wf
theorem Rel.freeze {c : Ent} {ρ : Rho} {σ : St} {H : Hp} {F : Addr → Prop} (r : Rel T K c ρ σ H F) {i : Nat} {ds : List D} (e : ρ[i]? = some (some (.own ds))) : ∃ F', (∀ a, F a → F' a) ∧ Rel T K c (ρ.set i (some (.sh (.lst ds)))) σ H F' := by
  obtain ⟨p, vs, h1, h2, h3, h4, h5, h6⟩ := r.own i ds e
  have k : Keep F H H := fun a o e _ => e
  have f : ∀ a, F a → (fun a => F a ∨ a = p) a := fun a h => .inl h
  refine ⟨fun a => F a ∨ a = p, f, ?_, fun j e q => ?_, fun j ds' q => ?_, fun j ks ds' q => ?_, r.ext, fun a h => .inl (r.f0 a h), fun a h => ?_, fun a h => ?_⟩
  · rw [List.length_set]; exact r.len
  · by_cases hj : j = i
    · subst hj
      obtain ⟨z, hl⟩ := get_set_eq q
      cases z
      exact ⟨_, h1, .lst (.inl ⟨.inr rfl, .inl h2⟩) (h3.keep k f)⟩
    · rw [get_set_ne hj] at q
      obtain ⟨v, q1, q2⟩ := r.sh j e q
      exact ⟨v, q1, q2.keep k f⟩
  · by_cases hj : j = i
    · subst hj
      obtain ⟨z, hl⟩ := get_set_eq q
      cases z
    · rw [get_set_ne hj] at q
      obtain ⟨p', vs', q1, q2, q3, q4, q5, q6⟩ := r.own j ds' q
      refine ⟨p', vs', q1, q2, q3.keep k f, ?_, q5, fun m ds'' w1 w2 => ?_⟩
      · rintro (z | z)
        · exact q4 z
        · subst z
          exact hj (h6 j ds' q q1)
      · by_cases hm : m = i
        · subst hm
          obtain ⟨z, hl⟩ := get_set_eq w1
          cases z
        · rw [get_set_ne hm] at w1
          exact q6 m ds'' w1 w2
  · by_cases hj : j = i
    · subst hj
      obtain ⟨z, hl⟩ := get_set_eq q
      cases z
    · rw [get_set_ne hj] at q
      obtain ⟨p', kvs, q1, q2, qk, q3, q4, q5, q6⟩ := r.mp j ks ds' q
      refine ⟨p', kvs, q1, q2, qk, q3.keep k f, ?_, q5, fun m ks'' ds'' w1 w2 => ?_⟩
      · rintro (z | z)
        · exact q4 z
        · subst z
          rw [h2] at q2
          cases q2
      · by_cases hm : m = i
        · subst hm
          obtain ⟨z, hl⟩ := get_set_eq w1
          cases z
        · rw [get_set_ne hm] at w1
          exact q6 m ks'' ds'' w1 w2
  · rcases h with h | h
    · exact r.f1 a h
    · subst h; exact .inr h5
  · rcases h with h | h
    · exact r.wf a h
    · subst h; rw [h2]; simp
theorem Rel.change {c : Ent} {ρ : Rho} {σ : St} {H : Hp} {F : Addr → Prop} (r : Rel T K c ρ σ H F) {i : Nat} {ds ds' : List D} {p : Addr} {vs' : List V} (e : ρ[i]? = some (some (.own ds))) (hp : σ[i]? = some (some (.ref p))) (h : Reps T K F H vs' ds') :
    Keep F H (upd H p (.lst vs')) ∧ Rel T K c (ρ.set i (some (.own ds'))) σ (upd H p (.lst vs')) F := by
  obtain ⟨p', vs, h1, h2, h3, h4, h5, h6⟩ := r.own i ds e
  have : p' = p := by rw [hp] at h1; cases h1; rfl
  subst this
  have k : Keep F H (upd H p' (.lst vs')) := fun a o q z => by
    by_cases ha : a = p'
    · subst ha
      rcases z with z | z
      · exact absurd z h4
      · rw [h2] at q; cases q; exact absurd rfl (z.1 vs)
    · rw [upd_ne ha]; exact q
  refine ⟨k, by rw [List.length_set]; exact r.len, fun j d q => ?_, fun j es q => ?_, fun j ks es q => ?_, fun a o q => ?_, r.f0, r.f1, fun a q => ?_⟩
  · by_cases hj : j = i
    · subst hj
      obtain ⟨z, _⟩ := get_set_eq q
      cases z
    · rw [get_set_ne hj] at q
      obtain ⟨v, q1, q2⟩ := r.sh j d q
      exact ⟨v, q1, q2.keep k fun _ z => z⟩
  · by_cases hj : j = i
    · subst hj
      obtain ⟨z, _⟩ := get_set_eq q
      cases z
      refine ⟨p', vs', h1, upd_same, h.keep k fun _ z => z, h4, h5, fun m es w1 w2 => ?_⟩
      by_cases hm : m = j
      · exact hm
      · rw [get_set_ne hm] at w1
        exact h6 m es w1 w2
    · rw [get_set_ne hj] at q
      obtain ⟨p2, vs2, q1, q2, q3, q4, q5, q6⟩ := r.own j es q
      have hne : p2 ≠ p' := fun z => by subst z; exact hj (h6 j es q q1)
      refine ⟨p2, vs2, q1, by rw [upd_ne hne]; exact q2, q3.keep k fun _ z => z, q4, q5, fun m es' w1 w2 => ?_⟩
      by_cases hm : m = i
      · subst hm
        rw [h1] at w2
        exact absurd (by cases w2; rfl) hne
      · rw [get_set_ne hm] at w1
        exact q6 m es' w1 w2
  · by_cases hj : j = i
    · subst hj
      obtain ⟨z, _⟩ := get_set_eq q
      cases z
    · rw [get_set_ne hj] at q
      obtain ⟨p2, kvs2, q1, q2, qk, q3, q4, q5, q6⟩ := r.mp j ks es q
      have hne : p2 ≠ p' := fun z => by subst z; rw [h2] at q2; cases q2
      refine ⟨p2, kvs2, q1, by rw [upd_ne hne]; exact q2, qk, q3.keep k fun _ z => z, q4, q5, fun m ks' es' w1 w2 => ?_⟩
      by_cases hm : m = i
      · subst hm
        obtain ⟨z, _⟩ := get_set_eq w1
        cases z
      · rw [get_set_ne hm] at w1
        exact q6 m ks' es' w1 w2
  · by_cases ha : a = p'
    · subst ha; rw [h5] at q; cases q
    · rw [upd_ne ha]; exact r.ext a o q
  · by_cases ha : a = p'
    · subst ha; rw [upd_same]; simp
    · rw [upd_ne ha]; exact r.wf a q
end BD
namespace BD
open PySem L2
variable {T : Tab} {K : PySem.W.Frag}
theorem PE.imp {X : Cx} {e : Expr} {t t' : TE} (h : PE X e t) (w : ∀ σ H Q, t' σ H Q → t σ H Q) : PE X e t' := fun pins s σ H Q I q => h pins s σ H Q I (w σ H Q q)
theorem PT.imp {X : Cx} {e : Expr} {t t' : TT} (h : PT X e t) (w : ∀ σ H Q, t' σ H Q → t σ H Q) : PT X e t' := fun pins s σ H Q I q => h pins s σ H Q I (w σ H Q q)
theorem PW.imp {X : Cx} {e : Expr} {t t' : TT} (h : PW X e t) (w : ∀ σ H Q, t' σ H Q → t σ H Q) : PW X e t' := fun wh pins s σ H Q I q => h wh pins s σ H Q I (w σ H Q q)
theorem PA.imp {X : Cx} {e : List Expr} {t t' : TA} (h : PA X e t) (w : ∀ σ H Q, t' σ H Q → t σ H Q) : PA X e t' := fun pos pins s σ H Q I q => h pos pins s σ H Q I (w σ H Q q)
theorem PS.imp {X : Cx} {e : Stmt} {t t' : TS} (h : PS X e t) (w : ∀ D σ H, t' D σ H → t D σ H) : PS X e t' := fun pins s σ H D I q => h pins s σ H D I (w D σ H q)
theorem PSs.imp {X : Cx} {e : List Stmt} {t t' : TS} (h : PSs X e t) (w : ∀ D σ H, t' D σ H → t D σ H) : PSs X e t' := fun pins s σ H D I q => h pins s σ H D I (w D σ H q)
theorem PG.imp {X : Cx} {e : Expr} {t t' : TG} (h : PG X e t) (w : ∀ v σ H Q, t' v σ H Q → t v σ H Q) : PG X e t' := fun pins s σ H v u Q I r q => h pins s σ H v u Q I r (w v σ H Q q)
theorem OpR.imp {X : Cx} {f : Value → Value → Sem Value} {r r' : R2} (h : OpR X f r) (w : ∀ x y H Q, r' x y H Q → r x y H Q) : OpR X f r' := fun pins s σ H x y v u Q I rx ry q => h pins s σ H x y v u Q I rx ry (w x y H Q q)
theorem UnR.imp {X : Cx} {f : Value → Sem Value} {r r' : V → Hp → VK → Prop} (h : UnR X f r) (w : ∀ x H Q, r' x H Q → r x H Q) : UnR X f r' := fun pins s σ H x v Q I rx q => h pins s σ H x v Q I rx (w x H Q q)
theorem CallR.imp {X : Cx} {f : Value} {r r' : List V → Hp → VK → Prop} (h : CallR X f r) (w : ∀ x H Q, r' x H Q → r x H Q) : CallR X f r' := fun pins s σ H x v Q I rx q => h pins s σ H x v Q I rx (w x H Q q)
def Then (T : Tab) (K : PySem.W.Frag) (E : XK) (H : Hp) (F : Addr → Prop) (Q : VK) : Out → Prop
  | .val d => ∀ v H' F', Grow H H' F F' → Rep T K F' H' v d → Q v H'
  | .exc n => ∀ H', Ext H H' → E (T.clsV n) none H'
theorem Then.grow {E : XK} {H H1 : Hp} {F F1 : Addr → Prop} {Q : VK} {o : Out} (g : Grow H H1 F F1) (h : Then T K E H F Q o) : Then T K E H1 F1 Q o := by
  cases o with
  | val d => exact fun v H' F' g' r => h v H' F' (g.trans g') r
  | exc n => exact fun H' e => h H' (g.ext.trans e)
def tD (T : Tab) (K : PySem.W.Frag) (E : XK) (f : Ev) : TE := fun σ H Q => ∃ c ρ F out, Rel T K c ρ σ H F ∧ f ρ = some out ∧ Then T K E H F Q out
def ThenB (T : Tab) (E : XK) (H : Hp) (F : Addr → Prop) (Q : Bool → Hp → Prop) : Out → Prop
  | .val (.bl b) => ∀ H' F', Grow H H' F F' → Q b H'
  | .val _ => False
  | .exc n => ∀ H', Ext H H' → E (T.clsV n) none H'
def tDT (T : Tab) (K : PySem.W.Frag) (E : XK) (f : Ev) : TT := fun σ H Q => ∃ c ρ F out, Rel T K c ρ σ H F ∧ f ρ = some out ∧ ThenB T E H F Q out
theorem ThenB.grow {E : XK} {H H1 : Hp} {F F1 : Addr → Prop} {Q : Bool → Hp → Prop} {o : Out} (g : Grow H H1 F F1) (h : ThenB T E H F Q o) : ThenB T E H1 F1 Q o := by
  cases o with
  | val d =>
    cases d with
    | bl b => exact fun H' F' g' => h H' F' (g.trans g')
    | _ => exact h
  | exc n => exact fun H' e => h H' (g.ext.trans e)
def ThenL (T : Tab) (K : PySem.W.Frag) (E : XK) (H : Hp) (F : Addr → Prop) (Q : List V → Hp → Prop) : OutL → Prop
  | .vals ds => ∀ vs H' F', Grow H H' F F' → Reps T K F' H' vs ds → Q vs H'
  | .exc n => ∀ H', Ext H H' → E (T.clsV n) none H'
theorem ThenL.grow {E : XK} {H H1 : Hp} {F F1 : Addr → Prop} {Q : List V → Hp → Prop} {o : OutL} (g : Grow H H1 F F1) (h : ThenL T K E H F Q o) : ThenL T K E H1 F1 Q o := by
  cases o with
  | vals d => exact fun v H' F' g' r => h v H' F' (g.trans g') r
  | exc n => exact fun H' e => h H' (g.ext.trans e)
def tDA (T : Tab) (K : PySem.W.Frag) (E : XK) (f : EvL) : TA := fun σ H Q => ∃ c ρ F out, Rel T K c ρ σ H F ∧ f ρ = some out ∧ ThenL T K E H F Q out
def obnd (o : Option Out) (k : D → Option Out) : Option Out := match o with
  | some (.val d) => k d
  | some (.exc n) => some (.exc n)
  | none => none
def obndL (o : Option Out) (k : D → Option OutL) : Option OutL := match o with
  | some (.val d) => k d
  | some (.exc n) => some (.exc n)
  | none => none
def lbnd (o : Option OutL) (k : List D → Option Out) : Option Out := match o with
  | some (.vals d) => k d
  | some (.exc n) => some (.exc n)
  | none => none
def lbndL (o : Option OutL) (k : List D → Option OutL) : Option OutL := match o with
  | some (.vals d) => k d
  | some (.exc n) => some (.exc n)
  | none => none
theorem obnd_some {o : Option Out} {k : D → Option Out} {out : Out} (h : obnd o k = some out) : (∃ d, o = some (.val d) ∧ k d = some out) ∨ ∃ n, o = some (.exc n) ∧ out = .exc n := by
  unfold obnd at h
  split at h
  · exact .inl ⟨_, rfl, h⟩
  · cases h; exact .inr ⟨_, rfl, rfl⟩
  · cases h
theorem lbnd_some {o : Option OutL} {k : List D → Option Out} {out : Out} (h : lbnd o k = some out) : (∃ d, o = some (.vals d) ∧ k d = some out) ∨ ∃ n, o = some (.exc n) ∧ out = .exc n := by
  unfold lbnd at h
  split at h
  · exact .inl ⟨_, rfl, h⟩
  · cases h; exact .inr ⟨_, rfl, rfl⟩
  · cases h
section
variable {E : XK} {c : Ent} {ρ : Rho} {σ : L2.St} {H : Hp} {F : Addr → Prop}
theorem tD_bind {f : Ev} {k : D → Option Out} {Q : VK} {out : Out} (r : Rel T K c ρ σ H F) (e : obnd (f ρ) k = some out) (hv : ∀ d v H' F', Grow H H' F F' → Rep T K F' H' v d → k d = some out → Q v H')
    (hx : ∀ n, out = .exc n → ∀ H', Ext H H' → E (T.clsV n) none H') : tD T K E f σ H Q := by
  rcases obnd_some e with ⟨d, e1, e2⟩ | ⟨n, e1, e2⟩
  · exact ⟨c, ρ, F, _, r, e1, fun v H' F' g rp => hv d v H' F' g rp e2⟩
  · exact ⟨c, ρ, F, _, r, e1, hx n e2⟩
theorem tDA_bind {f : EvL} {k : List D → Option Out} {Q : List V → Hp → Prop} {out : Out} (r : Rel T K c ρ σ H F) (e : lbnd (f ρ) k = some out) (hv : ∀ d v H' F', Grow H H' F F' → Reps T K F' H' v d → k d = some out → Q v H')
    (hx : ∀ n, out = .exc n → ∀ H', Ext H H' → E (T.clsV n) none H') : tDA T K E f σ H Q := by
  rcases lbnd_some e with ⟨d, e1, e2⟩ | ⟨n, e1, e2⟩
  · exact ⟨c, ρ, F, _, r, e1, fun v H' F' g rp => hv d v H' F' g rp e2⟩
  · exact ⟨c, ρ, F, _, r, e1, hx n e2⟩
theorem Then.exc {Q : VK} {out : Out} (h : Then T K E H F Q out) : ∀ n, out = .exc n → ∀ H', Ext H H' → E (T.clsV n) none H' := fun n e => by subst e; exact h
theorem ThenB.exc {Q : Bool → Hp → Prop} {out : Out} (h : ThenB T E H F Q out) : ∀ n, out = .exc n → ∀ H', Ext H H' → E (T.clsV n) none H' := fun n e => by subst e; exact h
end
section
variable {X : Cx} {E : XK} {a b e : Expr} {es : List Expr} {pos : Pos}
def eVar (i : Nat) : Ev := fun ρ => match ρ[i]? with
  | some (some (.sh d)) => some (.val d)
  | _ => none
theorem de_var {i : Nat} (h : PE X e (tVar i)) : PE X e (tD T K E (eVar i)) := PE.imp h fun σ H Q ⟨c, ρ, F, out, r, e, th⟩ => by
  unfold eVar at e
  split at e
  · rename_i d q
    cases e
    obtain ⟨v, h1, h2⟩ := r.sh i d q
    exact ⟨v, h1, th v H F (.refl r.wf) h2⟩
  · cases e
def eC (d : D) : Ev := fun _ => some (.val d)
theorem de_int {i j pos} : PE X (.Constant (.int i) j pos) (tD T K E (eC (.int i))) := PE.imp pe_int fun σ H Q ⟨c, ρ, F, out, r, e, th⟩ => by cases e; exact th _ H F (.refl r.wf) (.int i)
theorem de_bl {i j pos} : PE X (.Constant (.bool i) j pos) (tD T K E (eC (.bl i))) := PE.imp pe_bl fun σ H Q ⟨c, ρ, F, out, r, e, th⟩ => by cases e; exact th _ H F (.refl r.wf) (.bl i)
theorem de_glob {x : Str} {v : V} {u : Value} {d : D} (hg : Gl X x) (hm : X.mg x = some u) (r : RelV v u) (hr : ∀ F H, Rep T K F H v d) (hd : (x == ("__debug__" : Str)) = false := by decide) : PE X (.Name x pos) (tD T K E (eC d)) :=
  PE.imp (pe_glob hg hm r hd) fun σ H Q ⟨c, ρ, F, out, r, e, th⟩ => by cases e; exact th _ H F (.refl r.wf) (hr F H)
def aNil : EvL := fun _ => some (.vals [])
def aCons (f : Ev) (g : EvL) : EvL := fun ρ => obndL (f ρ) fun d => lbndL (g ρ) fun ds => some (.vals (d :: ds))
theorem da_nil : PA X [] (tDA T K E aNil) := PA.imp pa_nil fun σ H Q ⟨c, ρ, F, out, r, e, th⟩ => by cases e; exact th _ H F (.refl r.wf) .nil
theorem da_cons {f : Ev} {g : EvL} (ha : PE X e (tD T K E f)) (hr : PA X es (tDA T K E g)) (hs : starEach (e :: es) X.env = (false, eval e X.env) :: starEach es X.env := by rfl) : PA X (e :: es) (tDA T K E (aCons f g)) :=
  PA.imp (pa_cons ha hr hs) fun σ H Q ⟨c, ρ, F, out, r, e, th⟩ => by
    unfold aCons obndL at e
    split at e
    · rename_i d q
      refine ⟨c, ρ, F, _, r, q, fun v H1 F1 g1 r1 => ?_⟩
      unfold lbndL at e
      split at e
      · rename_i ds q2
        cases e
        exact ⟨c, ρ, F1, _, r.grow g1, q2, fun vs H2 F2 g2 r2 => th _ H2 F2 (g1.trans g2) (.cons (r1.grow g2) r2)⟩
      · rename_i n q2
        cases e
        exact ⟨c, ρ, F1, _, r.grow g1, q2, fun H2 e2 => th H2 (g1.ext.trans e2)⟩
      · cases e
    · rename_i n q
      cases e
      exact ⟨c, ρ, F, _, r, q, fun H2 e2 => th H2 e2⟩
    · cases e
def smallL (ds : List D) : Bool := decide (ds.length ≤ 1000000)
theorem smallL_ok {F : Addr → Prop} {H : Hp} {ds : List D} {vs : List V} (r : Reps T K F H vs ds) (h : smallL ds = true) : vs.length < sizeLine := by
  have h := of_decide_eq_true h
  rw [r.length]
  exact Nat.lt_of_le_of_lt h (by decide)
def eTup (g : EvL) : Ev := fun ρ => lbnd (g ρ) fun ds => if smallL ds then some (.val (.tup ds)) else none
theorem de_tup {g : EvL} {x1} (h : PA X es (tDA T K E g)) : PE X (.Tuple es x1 pos) (tD T K E (eTup g)) := PE.imp (pe_tup h) fun σ H Q ⟨c, ρ, F, out, r, e, th⟩ => by
  refine tDA_bind r e (fun ds vs H1 F1 g1 r1 e1 => ?_) th.exc
  split at e1
  · rename_i hs
    cases e1
    refine ⟨Nat.le_of_lt (smallL_ok r1 hs), fun p hp => ?_⟩
    have g2 := Grow.upd (o := .tup vs) (r.grow g1).wf hp
    exact th _ _ _ (g1.trans g2) (.tup (SqT.of upd_same) (r1.grow g2))
  · cases e1
def tDF (T : Tab) (K : PySem.W.Frag) (E : XK) (f : EvL) : TE := fun σ H Q => ∃ c ρ F out, Rel T K c ρ σ H F ∧ f ρ = some out ∧
  match out with
  | .vals ds => ∀ p vs H1 H' F', Grow H H1 F F' → H1 p = none → H' = upd H1 p (.lst vs) → Reps T K F' H' vs ds → Q (.ref p) H'
  | .exc n => ∀ H', Ext H H' → E (T.clsV n) none H'
def eFr (f : EvL) : Ev := fun ρ => lbnd (f ρ) fun ds => some (.val (.lst ds))
theorem de_fr {f : EvL} (h : PE X e (tDF T K E f)) : PE X e (tD T K E (eFr f)) := PE.imp h fun σ H Q ⟨c, ρ, F, out, r, e, th⟩ => by
  rcases lbnd_some e with ⟨d, e1, e2⟩ | ⟨n, e1, e2⟩
  · cases e2
    refine ⟨c, ρ, F, _, r, e1, fun p vs H1 H' F' g hp eH rp => ?_⟩
    subst eH
    have g2 := Grow.updF (o := .lst vs) (r.grow g).wf hp
    exact th _ _ _ (g.trans g2) (.lst (.inl ⟨.inr rfl, .inl upd_same⟩) (rp.keep (fun _ _ z _ => z) g2.more))
  · subst e2
    exact ⟨c, ρ, F, _, r, e1, th⟩
def lLst (g : EvL) : EvL := fun ρ => lbndL (g ρ) fun ds => if smallL ds then some (.vals ds) else none
theorem df_lst {g : EvL} (h : PA X es (tDA T K E g)) : PE X (.List es pos) (tDF T K E (lLst g)) := PE.imp (pe_lst h) fun σ H Q ⟨c, ρ, F, out, r, e, th⟩ => by
  unfold lLst lbndL at e
  split at e
  · rename_i ds q
    dsimp only at e
    split at e
    · rename_i hs
      cases e
      refine ⟨c, ρ, F, _, r, q, fun vs H1 F1 g1 r1 => ⟨Nat.le_of_lt (smallL_ok r1 hs), fun p hp => ?_⟩⟩
      have g2 := Grow.upd (o := .lst vs) (r.grow g1).wf hp
      exact th p vs H1 _ F1 g1 hp rfl (r1.grow g2)
    · cases e
  · rename_i n q
    cases e
    exact ⟨c, ρ, F, _, r, q, th⟩
  · cases e
def ov (o : Option D) : Option Out := o.map .val
def rD (T : Tab) (K : PySem.W.Frag) (g : D → D → Option D) : R2 := fun x y H Q => ∃ F dx dy d, (∀ a, F a → H a ≠ none) ∧ Rep T K F H x dx ∧ Rep T K F H y dy ∧ g dx dy = some d ∧ ∀ v H' F', Grow H H' F F' → Rep T K F' H' v d → Q v H'
def eOp (g : D → D → Option D) (fa fb : Ev) : Ev := fun ρ => obnd (fa ρ) fun x => obnd (fb ρ) fun y => ov (g x y)
theorem tOp_of {g : D → D → Option D} {fa fb : Ev} {σ : L2.St} {H : Hp} {Q : VK} (h : tD T K E (eOp g fa fb) σ H Q) : tOp (rD T K g) (tD T K E fa) (tD T K E fb) σ H Q := by
  obtain ⟨c, ρ, F, out, r, e, th⟩ := h
  refine tD_bind r e (fun d v H1 F1 g1 r1 e1 => ?_) th.exc
  have th1 := th.grow g1
  refine tD_bind (r.grow g1) e1 (fun d2 v2 H2 F2 g2 r2 e2 => ?_) th1.exc
  unfold ov at e2
  cases q : g d d2 with
  | none => rw [q] at e2; cases e2
  | some z =>
    rw [q] at e2
    cases e2
    exact ⟨F2, d, d2, z, g2.wf, r1.grow g2, r2, q, th1.grow g2⟩
theorem de_op {op : Operator} {g : D → D → Option D} {fa fb : Ev} (ho : OpR X (binaryOp op) (rD T K g)) (ha : PE X a (tD T K E fa)) (hb : PE X b (tD T K E fb)) : PE X (.BinOp a op b pos) (tD T K E (eOp g fa fb)) :=
  PE.imp (pe_op ho ha hb) fun σ H Q h => tOp_of h
theorem de_cmp {op : CmpOp} {g : D → D → Option D} {fa fb : Ev} (ho : OpR X (compareOp op) (rD T K g)) (ha : PE X a (tD T K E fa)) (hb : PE X b (tD T K E fb)) (hm : behindInMarks op b = false) : PE X (.Compare a [op] [b] pos) (tD T K E (eOp g fa fb)) :=
  PE.imp (pe_cmpR ho ha hb hm) fun σ H Q h => tOp_of h
def i2 (g : Int → Int → Option D) : D → D → Option D
  | .int i, .int j => g i j
  | _, _ => none
theorem rD_i2 {g : Int → Int → Option D} {x y : V} {H : Hp} {Q : VK} (h : rD T K (i2 g) x y H Q) : ∃ i j d F, x = .int i ∧ y = .int j ∧ g i j = some d ∧ (∀ a, F a → H a ≠ none) ∧ ∀ v H' F', Grow H H' F F' → Rep T K F' H' v d → Q v H' := by
  obtain ⟨F, dx, dy, d, wf, r1, r2, e, k⟩ := h
  unfold i2 at e
  split at e
  · cases r1; cases r2
    exact ⟨_, _, d, F, rfl, rfl, e, wf, k⟩
  · cases e
def smallI (i : Int) : Bool := decide (i.natAbs.log2 < 60000000)
theorem smallI_mul {i j : Int} (h1 : smallI i = true) (h2 : smallI j = true) : IntMulOk i j := by
  have h1 := of_decide_eq_true h1
  have h2 := of_decide_eq_true h2
  refine IntMulOk.of_le (m := 60000001) (n := 60000001) ?_ ?_ (by decide)
  · unfold Builtin.Int.intBits; split <;> omega
  · unfold Builtin.Int.intBits; split <;> omega
def addI (i j : Int) : Option D := some (.int (i + j))
def subI (i j : Int) : Option D := some (.int (i - j))
def mulI (i j : Int) : Option D := if smallI i && smallI j then some (.int (i * j)) else none
def divI (i j : Int) : Option D := if decide (j ≠ 0) && decide (j.natAbs.log2 < 9000) then some (.int (i.fdiv j)) else none
def modI (i j : Int) : Option D := if decide (j ≠ 0) then some (.int (i.fmod j)) else none
def powI (i j : Int) : Option D := if decide (0 ≤ j) && decide (j ≤ 1000000) && decide (i.natAbs < 2 ^ 64) then some (.int (i ^ j.toNat)) else none
theorem od_sub : OpR X (binaryOp .Sub) (rD T K (i2 subI)) := OpR.imp op_sub fun x y H Q h => by
  obtain ⟨i, j, d, F, rfl, rfl, e, wf, k⟩ := rD_i2 h
  cases e
  exact ⟨i, j, rfl, rfl, k _ _ F (.refl wf) (.int _)⟩
theorem od_mod : OpR X (binaryOp .Mod) (rD T K (i2 modI)) := OpR.imp op_modN fun x y H Q h => by
  obtain ⟨i, j, d, F, rfl, rfl, e, wf, k⟩ := rD_i2 h
  unfold modI at e
  split at e
  · rename_i z
    cases e
    exact ⟨i, j, rfl, rfl, of_decide_eq_true z, k _ _ F (.refl wf) (.int _)⟩
  · cases e
theorem od_pow : OpR X (binaryOp .Pow) (rD T K (i2 powI)) := OpR.imp op_pow fun x y H Q h => by
  obtain ⟨i, j, d, F, rfl, rfl, e, wf, k⟩ := rD_i2 h
  unfold powI at e
  split at e
  · rename_i z
    cases e
    simp only [Bool.and_eq_true, decide_eq_true_eq] at z
    exact ⟨i, j, rfl, rfl, ⟨z.1.1, z.1.2, z.2⟩, k _ _ F (.refl wf) (.int _)⟩
  · cases e
theorem od_div : OpR X (binaryOp .FloorDiv) (rD T K (i2 divI)) := OpR.imp (opI (C := fun _ j => j ≠ 0 ∧ j.natAbs.log2 < 9000) (g := fun i j => i.fdiv j) fun i j t u s Q E hc q => PyProof.Rows.floordiv_int hc.1 q (.inl (PyProof.noPylong_of_log2 hc.2))) fun x y H Q h => by
  obtain ⟨i, j, d, F, rfl, rfl, e, wf, k⟩ := rD_i2 h
  unfold divI at e
  split at e
  · rename_i z
    cases e
    simp only [Bool.and_eq_true, decide_eq_true_eq] at z
    exact ⟨i, j, rfl, rfl, z, k _ _ F (.refl wf) (.int _)⟩
  · cases e
theorem od_mul : OpR X (binaryOp .Mult) (rD T K (i2 mulI)) := OpR.imp (opI (C := IntMulOk) (g := fun i j => i * j) fun i j t u s Q E hc q => PyProof.Rows.mul_int q hc) fun x y H Q h => by
  obtain ⟨i, j, d, F, rfl, rfl, e, wf, k⟩ := rD_i2 h
  unfold mulI at e
  split at e
  · rename_i z
    cases e
    rw [Bool.and_eq_true] at z
    exact ⟨i, j, rfl, rfl, smallI_mul z.1 z.2, k _ _ F (.refl wf) (.int _)⟩
  · cases e
def ltI (i j : Int) : Option D := some (.bl (decide (i < j)))
def leI (i j : Int) : Option D := some (.bl (decide (i ≤ j)))
def gtI (i j : Int) : Option D := some (.bl (decide (j < i)))
def geI (i j : Int) : Option D := some (.bl (decide (j ≤ i)))
theorem od_lt : OpR X (compareOp .Lt) (rD T K (i2 ltI)) := OpR.imp op_lt fun x y H Q h => by
  obtain ⟨i, j, d, F, rfl, rfl, e, wf, k⟩ := rD_i2 h
  cases e
  exact ⟨i, j, rfl, rfl, k _ _ F (.refl wf) (.bl _)⟩
theorem od_le : OpR X (compareOp .LtE) (rD T K (i2 leI)) := OpR.imp op_le fun x y H Q h => by
  obtain ⟨i, j, d, F, rfl, rfl, e, wf, k⟩ := rD_i2 h
  cases e
  exact ⟨i, j, rfl, rfl, k _ _ F (.refl wf) (.bl _)⟩
theorem od_gt : OpR X (compareOp .Gt) (rD T K (i2 gtI)) := OpR.imp op_gt fun x y H Q h => by
  obtain ⟨i, j, d, F, rfl, rfl, e, wf, k⟩ := rD_i2 h
  cases e
  exact ⟨i, j, rfl, rfl, k _ _ F (.refl wf) (.bl _)⟩
theorem od_ge : OpR X (compareOp .GtE) (rD T K (i2 geI)) := OpR.imp op_ge fun x y H Q h => by
  obtain ⟨i, j, d, F, rfl, rfl, e, wf, k⟩ := rD_i2 h
  cases e
  exact ⟨i, j, rfl, rfl, k _ _ F (.refl wf) (.bl _)⟩
mutual
def pyO : D → Option PyData
  | .non => some .none
  | .bl b => some (.bool b)
  | .int i => some (.int i)
  | .str x => some (.str x)
  | .tup ds => (pyOs ds).map .tuple
  | .lst ds => (pyOs ds).map .list
  | _ => none
def pyOs : List D → Option (List PyData)
  | [] => some []
  | d :: ds => match pyO d, pyOs ds with
    | some p, some ps => some (p :: ps)
    | _, _ => none
end
mutual
theorem Rep.dp {F : Addr → Prop} {H : Hp} : ∀ {v : V} {d : D} {p : PyData}, Rep T K F H v d → pyO d = some p → Dp K H v p
  | _, _, _, .non, e => by simp only [pyO] at e; cases e; exact .non
  | _, _, _, .bl b, e => by simp only [pyO] at e; cases e; exact .bl b
  | _, _, _, .int i, e => by simp only [pyO] at e; cases e; exact .int i
  | _, _, _, .str x, e => by simp only [pyO] at e; cases e; exact .str x
  | _, _, _, .tup (ds := ds) h r, e => by
    simp only [pyO] at e
    cases q : pyOs ds with
    | none => rw [q] at e; cases e
    | some ps => rw [q] at e; cases e; exact .tup h (Reps.dp r q)
  | _, _, _, .lst (ds := ds) h r, e => by
    simp only [pyO] at e
    cases q : pyOs ds with
    | none => rw [q] at e; cases e
    | some ps => rw [q] at e; cases e; exact .lst h.sq (Reps.dp r q)
  | _, _, _, .dct _, e => by simp only [pyO] at e; cases e
  | _, _, _, .fn _, e => by simp only [pyO] at e; cases e
  | _, _, _, .exn _ _ _, e => by simp only [pyO] at e; cases e
theorem Reps.dp {F : Addr → Prop} {H : Hp} : ∀ {v : List V} {d : List D} {p : List PyData}, Reps T K F H v d → pyOs d = some p → DpAll K H v p
  | _, _, _, .nil, e => by simp only [pyOs] at e; cases e; exact .nil
  | _, _, _, .cons (d := d) (ds := ds) r t, e => by
    simp only [pyOs] at e
    cases q : pyO d with
    | none => rw [q] at e; cases e
    | some p =>
      cases q2 : pyOs ds with
      | none => rw [q, q2] at e; cases e
      | some ps => rw [q, q2] at e; cases e; exact .cons (Rep.dp r q) (Reps.dp t q2)
end
def eqvD (x y : D) : Option Bool := match pyO x, pyO y with
  | some p, some q => if SeqAt.shaped p && SeqAt.shaped q then some (PyData.eqv p q) else none
  | _, _ => none
def eqD (x y : D) : Option D := (eqvD x y).map .bl
def neD (x y : D) : Option D := (eqvD x y).map fun b => .bl (!b)
theorem eqv_of {x y : D} {b : Bool} (h : eqvD x y = some b) : ∃ p q, pyO x = some p ∧ pyO y = some q ∧ SeqAt.shaped p = true ∧ SeqAt.shaped q = true ∧ b = PyData.eqv p q := by
  unfold eqvD at h
  split at h
  · rename_i p q e1 e2
    split at h
    · rename_i z
      rw [Bool.and_eq_true] at z
      cases h
      exact ⟨p, q, e1, e2, z.1, z.2, rfl⟩
    · cases h
  · cases h
theorem od_eq (hu : X.A.units + 64 < cLine) : OpR X (compareOp .Eq) (rD T X.K eqD) := OpR.imp (op_eqD hu) fun x y H Q ⟨F, dx, dy, d, wf, r1, r2, e, k⟩ => by
  unfold eqD at e
  cases q : eqvD dx dy with
  | none => rw [q] at e; cases e
  | some b =>
    rw [q] at e; cases e
    obtain ⟨p, q', e1, e2, s1, s2, rfl⟩ := eqv_of q
    exact ⟨p, q', r1.dp e1, r2.dp e2, s1, s2, k _ H F (.refl wf) (.bl _)⟩
theorem od_ne (hu : X.A.units + 64 < cLine) : OpR X (compareOp .NotEq) (rD T X.K neD) := OpR.imp (op_neD hu) fun x y H Q ⟨F, dx, dy, d, wf, r1, r2, e, k⟩ => by
  unfold neD at e
  cases q : eqvD dx dy with
  | none => rw [q] at e; cases e
  | some b =>
    rw [q] at e; cases e
    obtain ⟨p, q', e1, e2, s1, s2, rfl⟩ := eqv_of q
    exact ⟨p, q', r1.dp e1, r2.dp e2, s1, s2, k _ H F (.refl wf) (.bl _)⟩
end
end BD
namespace BD
open PySem L2
variable {T : Tab} {K : PySem.W.Frag}
section
variable {X : Cx} {E : XK} {a b c e : Expr} {es rest : List Expr} {pos : Pos}
def eNeg (f : Ev) : Ev := fun ρ => obnd (f ρ) fun x => match x with
  | .int i => some (.val (.int (-i)))
  | _ => none
theorem de_neg {f : Ev} (h : PE X a (tD T K E f)) : PE X (.UnaryOp .USub a pos) (tD T K E (eNeg f)) := PE.imp (pe_un un_neg h) fun σ H Q ⟨c, ρ, F, out, r, e, th⟩ => by
  refine tD_bind r e (fun d v H1 F1 g1 r1 e1 => ?_) th.exc
  split at e1
  · cases r1; cases e1
    exact ⟨_, rfl, th _ _ _ g1 (.int _)⟩
  · cases e1
def truthD : D → Option Bool
  | .non => some false
  | .bl b => some b
  | .int i => some (i != 0)
  | .tup ds => some (!ds.isEmpty)
  | .lst ds => some (!ds.isEmpty)
  | _ => none
def qV (f : Ev) : Ev := fun ρ => obnd (f ρ) fun x => ov ((truthD x).map .bl)
theorem reps_empty {F : Addr → Prop} {H : Hp} {vs : List V} {ds : List D} (r : Reps T K F H vs ds) : vs.isEmpty = ds.isEmpty := by cases r <;> rfl
theorem truth_ok {F : Addr → Prop} {H : Hp} {v : V} {d : D} {k : Bool} (r : Rep T K F H v d) (e : truthD d = some k) : TruV K v H k := by
  cases r with
  | non => simp only [truthD] at e; cases e; rfl
  | bl b => simp only [truthD] at e; cases e; rfl
  | int i => simp only [truthD] at e; cases e; rfl
  | str x => cases e
  | tup h r => simp only [truthD] at e; cases e; exact .inr (.inl ⟨_, h, by rw [reps_empty r]⟩)
  | lst h r => simp only [truthD] at e; cases e; exact .inl ⟨_, h.sq, by rw [reps_empty r]⟩
  | dct h => cases e
  | fn h => cases e
  | exn h _ _ => cases e
  | obj _ h _ _ => cases e
  | cell h => cases e
  | dic _ _ _ => cases e
theorem dt_val {f : Ev} (h : PE X a (tD T X.K E f)) (he : ∀ whole, isTrue a X.env whole = (do let v ← whole; standAt a.pos; holding [v] (truthy v)) := by intro _; rfl) : PT X a (tDT T X.K E (qV f)) :=
  PT.imp (pt_truth h he) fun σ H Q ⟨c, ρ, F, out, r, e, th⟩ => by
    refine tD_bind r e (fun d v H1 F1 g1 r1 e1 => ?_) th.exc
    cases q : truthD d with
    | none => rw [q] at e1; cases e1
    | some k =>
      rw [q] at e1; cases e1
      exact ⟨k, truth_ok r1 q, th H1 F1 g1⟩
theorem tTest_of {g : D → D → Option D} {fa fb : Ev} {σ : L2.St} {H : Hp} {Q : Bool → Hp → Prop} (h : tDT T K E (eOp g fa fb) σ H Q) : tTest (tOp (rD T K g) (tD T K E fa) (tD T K E fb)) σ H Q := by
  obtain ⟨c, ρ, F, out, r, e, th⟩ := h
  refine tOp_of ⟨c, ρ, F, out, r, e, ?_⟩
  cases out with
  | exc n => exact th
  | val d =>
    intro v H' F' g r'
    cases d with
    | bl b => cases r'; exact ⟨b, rfl, th H' F' g⟩
    | _ => exact th.elim
theorem dt_cmp {op : CmpOp} {g : D → D → Option D} {fa fb : Ev} (ho : OpR X (compareOp op) (rD T K g)) (ha : PE X a (tD T K E fa)) (hb : PE X b (tD T K E fb)) (hm : behindInMarks op b = false) : PT X (.Compare a [op] [b] pos) (tDT T K E (eOp g fa fb)) :=
  PT.imp (pt_cmpR ho ha hb hm) fun σ H Q h => tTest_of h
def eChain (g g' : D → D → Option D) (fa fb fc : Ev) : Ev := fun ρ => obnd (fa ρ) fun x => obnd (fb ρ) fun y => obnd (ov (g x y)) fun z => match z with
  | .bl true => obnd (fc ρ) fun w => ov (g' y w)
  | .bl false => some (.val (.bl false))
  | _ => none
theorem tChain_of {g g' : D → D → Option D} {fa fb fc : Ev} {σ : L2.St} {H : Hp} {Q : VK} (h : tD T K E (eChain g g' fa fb fc) σ H Q) : tChain (rD T K g) (rD T K g') (tD T K E fa) (tD T K E fb) (tD T K E fc) σ H Q := by
  obtain ⟨c, ρ, F, out, r, e, th⟩ := h
  refine tD_bind r e (fun d v H1 F1 g1 r1 e1 => ?_) th.exc
  have th1 := th.grow g1
  refine tD_bind (r.grow g1) e1 (fun d2 v2 H2 F2 g2 r2 e2 => ?_) th1.exc
  have th2 := th1.grow g2
  cases q : g d d2 with
  | none => rw [q] at e2; cases e2
  | some z =>
    rw [q] at e2
    refine ⟨F2, d, d2, z, g2.wf, r1.grow g2, r2, q, fun v3 H3 F3 g3 r3 => ?_⟩
    have th3 := th2.grow g3
    have e3 := e2
    dsimp only [ov, Option.map, obnd] at e3
    cases z with
    | bl k =>
      cases r3
      refine ⟨k, rfl, ?_⟩
      cases k with
      | true =>
        rw [if_pos rfl]
        refine tD_bind (((r.grow g1).grow g2).grow g3) e3 (fun d4 v4 H4 F4 g4 r4 e4 => ?_) th3.exc
        cases q' : g' d2 d4 with
        | none => rw [q'] at e4; cases e4
        | some z' =>
          rw [q'] at e4
          cases e4
          exact ⟨F4, d2, d4, z', g4.wf, (r2.grow g3).grow g4, r4, q', th3.grow g4⟩
      | false =>
        rw [if_neg (by decide)]
        cases e3
        exact th3 _ _ _ (.refl g3.wf) (.bl false)
    | _ => cases e3
theorem de_chain {op op' : CmpOp} {g g' : D → D → Option D} {fa fb fc : Ev} (ho : OpR X (compareOp op) (rD T K g)) (ho' : OpR X (compareOp op') (rD T K g')) (ha : PE X a (tD T K E fa)) (hb : PE X b (tD T K E fb)) (hc : PE X c (tD T K E fc))
    (hm : lastMarks [op, op'] [b, c] = false := by with_unfolding_all rfl) : PE X (.Compare a [op, op'] [b, c] pos) (tD T K E (eChain g g' fa fb fc)) := PE.imp (pe_chain ho ho' ha hb hc hm) fun σ H Q h => tChain_of h
def qAnd (f g : Ev) : Ev := fun ρ => obnd (f ρ) fun x => match x with
  | .bl true => g ρ
  | .bl false => some (.val (.bl false))
  | _ => none
def qOr (f g : Ev) : Ev := fun ρ => obnd (f ρ) fun x => match x with
  | .bl true => some (.val (.bl true))
  | .bl false => g ρ
  | _ => none
def qNot (f : Ev) : Ev := fun ρ => obnd (f ρ) fun x => match x with
  | .bl k => some (.val (.bl (!k)))
  | _ => none
theorem tDT_bind {f : Ev} {k : D → Option Out} {Q : Bool → Hp → Prop} {out : Out} {c : Ent} {ρ : Rho} {σ : L2.St} {H : Hp} {F : Addr → Prop} (r : Rel T K c ρ σ H F) (e : obnd (f ρ) k = some out) (hk : ∀ d, k d = some out → ∃ b, d = .bl b)
    (hv : ∀ b H' F', Grow H H' F F' → k (.bl b) = some out → Q b H') (hx : ∀ n, out = .exc n → ∀ H', Ext H H' → E (T.clsV n) none H') : tDT T K E f σ H Q := by
  rcases obnd_some e with ⟨d, e1, e2⟩ | ⟨n, e1, e2⟩
  · obtain ⟨b, rfl⟩ := hk d e2
    exact ⟨c, ρ, F, _, r, e1, fun H' F' g => hv b H' F' g e2⟩
  · exact ⟨c, ρ, F, _, r, e1, hx n e2⟩
theorem dw_or1 {f : Ev} (h : PT X a (tDT T K E f)) : PW X (.BoolOp .Or [a] pos) (tDT T K E f) := pw_or1 h
theorem dw_or {f g : Ev} (ha : PT X a (tDT T K E f)) (hb : PW X (.BoolOp .Or (b :: rest) pos) (tDT T K E g)) : PW X (.BoolOp .Or (a :: b :: rest) pos) (tDT T K E (qOr f g)) :=
  PW.imp (pw_or ha hb) fun σ H Q ⟨c, ρ, F, out, r, e, th⟩ => by
    refine tDT_bind r e (fun d e1 => ?_) (fun k H1 F1 g1 e1 => ?_) th.exc
    · split at e1
      · exact ⟨_, rfl⟩
      · exact ⟨_, rfl⟩
      · cases e1
    · cases k with
      | true => rw [if_pos rfl]; cases e1; exact th H1 F1 g1
      | false => rw [if_neg (by decide)]; exact ⟨c, ρ, F1, out, r.grow g1, e1, th.grow g1⟩
theorem dt_not {f : Ev} (ha : PT X a (tDT T K E f)) : PT X (.UnaryOp .Not a pos) (tDT T K E (qNot f)) :=
  PT.imp (pt_not ha) fun σ H Q ⟨c, ρ, F, out, r, e, th⟩ => by
    refine tDT_bind r e (fun d e1 => ?_) (fun k H1 F1 g1 e1 => ?_) th.exc
    · split at e1
      · exact ⟨_, rfl⟩
      · cases e1
    · cases e1; exact th H1 F1 g1
theorem de_one {f : Ev} {op} (h : PE X a (tD T K E f)) : PE X (.BoolOp op [a] pos) (tD T K E f) := pe_one h
theorem de_and {f g : Ev} (ha : PE X a (tD T K E f)) (hb : PE X (.BoolOp .And (b :: rest) pos) (tD T K E g)) : PE X (.BoolOp .And (a :: b :: rest) pos) (tD T K E (qAnd f g)) :=
  PE.imp (pe_and ha hb) fun σ H Q ⟨c, ρ, F, out, r, e, th⟩ => by
    refine tD_bind r e (fun d v H1 F1 g1 r1 e1 => ?_) th.exc
    split at e1
    · cases r1; exact ⟨true, rfl, by rw [if_pos rfl]; exact ⟨c, ρ, F1, out, r.grow g1, e1, th.grow g1⟩⟩
    · cases r1; cases e1; exact ⟨false, rfl, by rw [if_neg (by decide)]; exact th _ H1 F1 g1 (.bl false)⟩
    · cases e1
theorem de_not {f : Ev} (ha : PE X a (tD T K E f)) : PE X (.UnaryOp .Not a pos) (tD T K E (qNot f)) :=
  PE.imp (pe_not ha) fun σ H Q ⟨c, ρ, F, out, r, e, th⟩ => by
    refine tD_bind r e (fun d v H1 F1 g1 r1 e1 => ?_) th.exc
    split at e1
    · cases r1; cases e1; exact ⟨_, rfl, th _ H1 F1 g1 (.bl _)⟩
    · cases e1
def eIf (q f g : Ev) : Ev := fun ρ => obnd (q ρ) fun x => match x with
  | .bl true => f ρ
  | .bl false => g ρ
  | _ => none
theorem de_if {q f g : Ev} (hc : PT X c (tDT T K E q)) (ha : PE X a (tD T K E f)) (hb : PE X b (tD T K E g)) : PE X (.IfExp c a b pos) (tD T K E (eIf q f g)) :=
  PE.imp (pe_ifExp hc ha hb) fun σ H Q ⟨c, ρ, F, out, r, e, th⟩ => by
    refine tDT_bind r e (fun d e1 => ?_) (fun k H1 F1 g1 e1 => ?_) th.exc
    · split at e1
      · exact ⟨_, rfl⟩
      · exact ⟨_, rfl⟩
      · cases e1
    · cases k with
      | true => rw [if_pos rfl]; exact ⟨c, ρ, F1, out, r.grow g1, e1, th.grow g1⟩
      | false => rw [if_neg (by decide)]; exact ⟨c, ρ, F1, out, r.grow g1, e1, th.grow g1⟩
def spD (T : Tab) (K : PySem.W.Frag) (g : List D → Option Out) : Sp := fun vs H Q E => ∃ F ds out, (∀ a, F a → H a ≠ none) ∧ Reps T K F H vs ds ∧ g ds = some out ∧ Then T K E H F Q out
def eCall (g : List D → Option Out) (fs : EvL) : Ev := fun ρ => lbnd (fs ρ) g
theorem tCall_of {g : List D → Option Out} {fs : EvL} {σ : L2.St} {H : Hp} {Q : VK} (h : tD T K E (eCall g fs) σ H Q) : tCall (spD T K g) [] E (tDA T K E fs) σ H Q := by
  obtain ⟨c, ρ, F, out, r, e, th⟩ := h
  refine tDA_bind r e (fun ds vs H1 F1 g1 r1 e1 => ?_) th.exc
  rw [List.append_nil]
  exact ⟨F1, ds, out, g1.wf, r1, e1, th.grow g1⟩
theorem de_call {CX : CXT} {k : Nat} {f : Addr} {fd : FuncData} {ps : List Str} {g : List D → Option Out} {fs : EvL} {x : Str} {p : Pos} (G : FnOk X.prog X.w X.K X.mg X.base CX k f fd ps (spD T K g)) (hr : Room k X.A) (hg : Gl X x) (hm : X.mg x = some (.ref f))
    (hk : PySem.W.keepIn X.K (.ref f) = true) (hb : Binds X.K fd ps []) (hx : Passes CX X E) (ha : PA X (e :: es) (tDA T K E fs)) (hdb : (x == ("__debug__" : Str)) = false := by decide) (he : starEach (e :: es) X.env = (false, eval e X.env) :: starEach es X.env := by rfl)
    (hpl : (backTo pos (starEach es X.env)).any (·.1) = false := by rfl) : PE X (.Call (.Name x p) (e :: es) [] pos) (tD T K E (eCall g fs)) :=
  PE.imp (pe_call G hr hg hm hk hb .nil hx ha hdb he hpl) fun σ H Q h => tCall_of h
def rB (T : Tab) (K : PySem.W.Frag) (g : List D → Option D) : List V → Hp → VK → Prop := fun vs H Q => ∃ F ds d, (∀ a, F a → H a ≠ none) ∧ Reps T K F H vs ds ∧ g ds = some d ∧ ∀ v H' F', Grow H H' F F' → Rep T K F' H' v d → Q v H'
def eB (g : List D → Option D) (fs : EvL) : Ev := fun ρ => lbnd (fs ρ) fun ds => ov (g ds)
theorem tCB_of {g : List D → Option D} {fs : EvL} {σ : L2.St} {H : Hp} {Q : VK} (h : tD T K E (eB g fs) σ H Q) : tCB (rB T K g) (tDA T K E fs) σ H Q := by
  obtain ⟨c, ρ, F, out, r, e, th⟩ := h
  refine tDA_bind r e (fun ds vs H1 F1 g1 r1 e1 => ?_) th.exc
  cases q : g ds with
  | none => rw [q] at e1; cases e1
  | some d =>
    rw [q] at e1
    cases e1
    exact ⟨F1, ds, d, g1.wf, r1, q, th.grow g1⟩
theorem de_callB {id : String} {g : List D → Option D} {fs : EvL} {x : Str} {p : Pos} (hc : CallR X (.builtin id) (rB T K g)) (hg : Gl X x) (hm : X.mg x = none) (hv : bootBuiltins x = some (.builtin id)) (ha : PA X (e :: es) (tDA T K E fs)) (hn : x ≠ "__name__" := by decide)
    (hdb : (x == ("__debug__" : Str)) = false := by decide) (he : starEach (e :: es) X.env = (false, eval e X.env) :: starEach es X.env := by rfl) (hpl : (backTo pos (starEach es X.env)).any (·.1) = false := by rfl) : PE X (.Call (.Name x p) (e :: es) [] pos) (tD T K E (eB g fs)) :=
  PE.imp (pe_callB hc hg hm hv ha hn hdb he hpl) fun σ H Q h => tCB_of h
def lenB : List D → Option D
  | [.lst ds] => some (.int ds.length)
  | [.tup ds] => some (.int ds.length)
  | _ => none
theorem cb_len : CallR X (.builtin "len") (rB T X.K lenB) := CallR.imp call_len_seq fun vs H Q ⟨F, ds, d, wf, r, e, k⟩ => by
  unfold lenB at e
  split at e
  · cases e
    cases r with
    | cons r1 t =>
      cases t
      cases r1 with
      | lst h rr => exact ⟨_, _, rfl, .inl h.sq, by rw [rr.length]; exact k _ H F (.refl wf) (.int _)⟩
  · cases e
    cases r with
    | cons r1 t =>
      cases t
      cases r1 with
      | tup h rr => exact ⟨_, _, rfl, .inr h, by rw [rr.length]; exact k _ H F (.refl wf) (.int _)⟩
  · cases e
def absB : List D → Option D
  | [.int i] => some (.int (if i < 0 then -i else i))
  | _ => none
theorem cb_abs : CallR X (.builtin "abs") (rB T K absB) := CallR.imp call_abs fun vs H Q ⟨F, ds, d, wf, r, e, k⟩ => by
  unfold absB at e
  split at e
  · cases e
    cases r with
    | cons r1 t => cases t; cases r1; exact ⟨_, rfl, k _ H F (.refl wf) (.int _)⟩
  · cases e
def intsO : List D → Option (List Int)
  | [] => some []
  | .int i :: ds => (intsO ds).map (i :: ·)
  | _ :: _ => none
theorem intsO_ok {F : Addr → Prop} {H : Hp} : ∀ {vs : List V} {ds : List D} {ns : List Int}, Reps T K F H vs ds → intsO ds = some ns → vs = ns.map V.int
  | _, _, _, .nil, e => by cases e; rfl
  | _, _, ns, .cons (d := d) (ds := ds) r t, e => by
    cases r with
    | int i =>
      simp only [intsO] at e
      cases q : intsO ds with
      | none => rw [q] at e; cases e
      | some ms => rw [q] at e; cases e; rw [intsO_ok t q]; rfl
    | _ => cases e
def blsO : List D → Option (List Bool)
  | [] => some []
  | .bl i :: ds => (blsO ds).map (i :: ·)
  | _ :: _ => none
theorem blsO_ok {F : Addr → Prop} {H : Hp} : ∀ {vs : List V} {ds : List D} {ns : List Bool}, Reps T K F H vs ds → blsO ds = some ns → vs = ns.map V.bl
  | _, _, _, .nil, e => by cases e; rfl
  | _, _, ns, .cons (d := d) (ds := ds) r t, e => by
    cases r with
    | bl i =>
      simp only [blsO] at e
      cases q : blsO ds with
      | none => rw [q] at e; cases e
      | some ms => rw [q] at e; cases e; rw [blsO_ok t q]; rfl
    | _ => cases e
def sumB : List D → Option D
  | [.lst ds] => (intsO ds).map fun ns => .int ns.sum
  | _ => none
theorem cb_sum (hc : X.calm = true) : CallR X (.builtin "sum") (rB T X.K sumB) := CallR.imp (cr_sum hc) fun vs H Q ⟨F, ds, d, wf, r, e, k⟩ => by
  unfold sumB at e
  split at e
  · rename_i ds
    cases q : intsO ds with
    | none => rw [q] at e; cases e
    | some ns =>
      rw [q] at e; cases e
      cases r with
      | cons r1 t =>
        cases t
        cases r1 with
        | lst h rr => exact ⟨_, ns, rfl, by rw [← intsO_ok rr q]; exact h.sq, k _ H F (.refl wf) (.int _)⟩
  · cases e
def allB : List D → Option D
  | [.lst ds] => (blsO ds).map fun ns => .bl (ns.all id)
  | _ => none
theorem cb_all (hc : X.calm = true) : CallR X (.builtin "all") (rB T X.K allB) := CallR.imp (cr_all hc) fun vs H Q ⟨F, ds, d, wf, r, e, k⟩ => by
  unfold allB at e
  split at e
  · rename_i ds
    cases q : blsO ds with
    | none => rw [q] at e; cases e
    | some ns =>
      rw [q] at e; cases e
      cases r with
      | cons r1 t =>
        cases t
        cases r1 with
        | lst h rr => exact ⟨_, ns, rfl, by rw [← blsO_ok rr q]; exact h.sq, k _ H F (.refl wf) (.bl _)⟩
  · cases e
def tyD : D → Option String
  | .non => some "NoneType"
  | .bl _ => some "bool"
  | .int _ => some "int"
  | .str _ => some "str"
  | .tup _ => some "tuple"
  | .lst _ => some "list"
  | .dct => some "dict"
  | _ => none
def isiN (c t : String) : Option Bool :=
  if c = "int" then some (t == "int" || t == "bool")
  else if c = "bool" then some (t == "bool")
  else if c = "tuple" then some (t == "tuple")
  else if c = "list" then some (t == "list")
  else if c = "str" then some (t == "str")
  else none
theorem kit_ty {c t : String} {b : Bool} (h : isiN c t = some b) (ht : t = "NoneType" ∨ t = "bool" ∨ t = "int" ∨ t = "str" ∨ t = "tuple" ∨ t = "list" ∨ t = "dict") : PySem.W.kitOne K (.type t) (.type c) = some b := by
  unfold isiN at h
  split at h
  · rename_i e; subst e
    rcases ht with rfl | rfl | rfl | rfl | rfl | rfl | rfl <;> cases h <;> with_unfolding_all rfl
  split at h
  · rename_i e; subst e
    rcases ht with rfl | rfl | rfl | rfl | rfl | rfl | rfl <;> cases h <;> with_unfolding_all rfl
  split at h
  · rename_i e; subst e
    rcases ht with rfl | rfl | rfl | rfl | rfl | rfl | rfl <;> cases h <;> with_unfolding_all rfl
  split at h
  · rename_i e; subst e
    rcases ht with rfl | rfl | rfl | rfl | rfl | rfl | rfl <;> cases h <;> with_unfolding_all rfl
  split at h
  · rename_i e; subst e
    rcases ht with rfl | rfl | rfl | rfl | rfl | rfl | rfl <;> cases h <;> with_unfolding_all rfl
  cases h
def isiB (c : String) (d : D) : Option D := (tyD d).bind fun t => (isiN c t).map .bl
theorem isi_ok {c : String} {pins : List (Addr × Obj)} {σ : L2.St} {H : Hp} {s : Shared} {A : Around} {E : Value → Shared → Prop} {Q : Value → Shared → Prop} {F : Addr → Prop} {x : V} {u : Value} {d : D} {b : Bool} (I : Inv X pins σ H s) (rx : RelV x u) (r : Rep T X.K F H x d) (e : isiB c d = some (.bl b)) (h : ∀ tk, Q (.bool b) { s with toks := tk }) :
    wpAny (model X.prog X.w) A (call (.builtin "isinstance") [u, .type c]) Q E s := by
  have key : ∀ t, tyD d = some t → (t = "NoneType" ∨ t = "bool" ∨ t = "int" ∨ t = "str" ∨ t = "tuple" ∨ t = "list" ∨ t = "dict") → PySem.W.kitOne X.K (.type t) (.type c) = some b := fun t q ht => by
    unfold isiB at e
    rw [q] at e
    cases z : isiN c t with
    | none => simp [z] at e
    | some b' => simp [z] at e; rw [← e]; exact kit_ty z ht
  cases r with
  | non => cases (show u = Value.none from rx); exact PySem.W.kia_one PySem.W.kitx_none I.kIn True.intro (key _ rfl (by simp)) (fun z => nomatch z) h
  | bl y => cases (show u = Value.bool y from rx); exact PySem.W.kia_one PySem.W.kitx_bool I.kIn True.intro (key _ rfl (by simp)) (fun z => nomatch z) h
  | int i => obtain ⟨t, q⟩ := (show ∃ t, u = Value.int i t from rx); cases q; exact PySem.W.kia_one PySem.W.kitx_int I.kIn True.intro (key _ rfl (by simp)) (fun z => nomatch z) h
  | str y => obtain ⟨t, q⟩ := (show ∃ t, u = Value.str y t from rx); cases q; exact PySem.W.kia_one PySem.W.kitx_str I.kIn True.intro (key _ rfl (by simp)) (fun z => nomatch z) h
  | @tup a vs ds hq rr =>
    cases (show u = Value.ref a from rx)
    obtain ⟨its, _, ⟨o, h1, h2, _⟩, _⟩ := I.tuple hq
    exact PySem.W.kia_one PySem.W.kitx_tuple I.kIn ⟨o, h1, h2⟩ (key _ rfl (by simp)) (fun z => nomatch z) h
  | @lst a vs ds hq rr =>
    cases (show u = Value.ref a from rx)
    obtain ⟨its, _, ⟨o, n, h1, h2, _⟩, _⟩ := I.list hq.sq
    exact PySem.W.kia_one PySem.W.kitx_list I.kIn ⟨o, h1, h2⟩ (key _ rfl (by simp)) (fun z => nomatch z) h
  | @dct a hq =>
    cases (show u = Value.ref a from rx)
    obtain ⟨_, _, vs, _, p⟩ := (show ObjOk X.prog X.w H s.heap a (.dK []) from I.hok a _ hq)
    obtain ⟨o, es, ep, h1, h2, _⟩ := p
    exact PySem.W.kia_one PySem.W.kitx_dict I.kIn ⟨o, h1, h2.1⟩ (key _ rfl (by simp)) (fun z => nomatch z) h
  | fn hq => simp [isiB, tyD] at e
  | exn hq _ _ => simp [isiB, tyD] at e
  | obj _ hq _ _ => simp [isiB, tyD] at e
  | cell hq => simp [isiB, tyD] at e
  | dic _ _ _ => simp [isiB, tyD] at e
def eIsi (c : String) (f : Ev) : Ev := fun ρ => obnd (f ρ) fun x => ov (isiB c x)
theorem de_isi {f : Ev} {c : String} {x : Str} {p p2 : Pos} (ha : PE X a (tD T X.K E f)) (hg : Gl X "isinstance") (hm : X.mg "isinstance" = none) (hgc : Gl X x) (hmc : X.mg x = none) (hvc : bootBuiltins x = some (.type c)) (hnc : x ≠ "__name__" := by decide)
    (hdc : (x == ("__debug__" : Str)) = false := by decide)
    (he : starEach [a, .Name x p2] X.env = (false, eval a X.env) :: starEach [.Name x p2] X.env := by rfl) (hpl : (backTo pos (starEach [.Name x p2] X.env)).any (·.1) = false := by rfl) : PE X (.Call (.Name "isinstance" p) [a, .Name x p2] [] pos) (tD T X.K E (eIsi c f)) := by
  have hc : CallR X (.builtin "isinstance") (fun vs H Q => ∃ F d b y, vs = [y, .ty c] ∧ Rep T X.K F H y d ∧ isiB c d = some (.bl b) ∧ Q (.bl b) H) := fun pins s σ H vs us Q I r ⟨F, d, b, y, ev, rp, e, q⟩ => by
    subst ev
    obtain ⟨u, w', rfl, r1, r2⟩ := vals2 r
    cases (show w' = Value.type c from r2)
    exact isi_ok I r1 rp e fun tk => ⟨.bl b, H, I.tok _, rfl, q⟩
  refine PE.imp (pe_callB hc hg hm (by decide +kernel) (pa_cons ha (pa_cons (pe_bltn (v := .ty c) hgc hmc hvc rfl hnc hdc) pa_nil) he) (by decide) (by decide) he hpl) fun σ H Q ⟨c', ρ, F, out, r, e, th⟩ => ?_
  refine tD_bind r e (fun d v H1 F1 g1 r1 e1 => ?_) th.exc
  cases q : isiB c d with
  | none => rw [q] at e1; cases e1
  | some z =>
    rw [q] at e1
    cases e1
    have : ∃ b, z = .bl b := by
      unfold isiB at q
      cases h1 : tyD d with
      | none => rw [h1] at q; cases q
      | some t =>
        rw [h1] at q
        cases h2 : isiN c t with
        | none => simp [h2] at q
        | some b => simp [h2] at q; exact ⟨b, q.symm⟩
    obtain ⟨b, rfl⟩ := this
    exact ⟨F1, d, b, v, rfl, r1, q, th _ H1 F1 g1 (.bl b)⟩
end
end BD
namespace BD
open PySem L2
variable {T : Tab} {K : PySem.W.Frag}
section
variable {X : Cx} {E : XK} {a b c e : Expr} {es rest : List Expr} {pos : Pos}
theorem atI_get {α : Type} {xs : List α} {i : Int} {x : α} (h : atI xs i = some x) : ∃ j, ixN xs.length i = some j ∧ xs[j]? = some x := by
  unfold atI at h
  cases q : ixN xs.length i with
  | none => rw [q] at h; cases h
  | some j => rw [q] at h; exact ⟨j, rfl, h⟩
theorem Reps.at {F : Addr → Prop} {H : Hp} {vs : List V} {ds : List D} {i : Int} {d : D} (r : Reps T K F H vs ds) (h : atI ds i = some d) : ∃ v, atI vs i = some v ∧ Rep T K F H v d := by
  obtain ⟨j, h1, h2⟩ := atI_get h
  obtain ⟨v, h3, h4⟩ := r.get h2
  exact ⟨v, by unfold atI; rw [r.length, h1]; exact h3, h4⟩
def ixD : D → D → Option D
  | .lst ds, .int i => atI ds i
  | .tup ds, .int i => atI ds i
  | _, _ => none
theorem ixr_d : IxR X (rD T X.K ixD) := fun value slice pins s σ H x y v u Q I rx ry ⟨F, dx, dy, d, wf, r1, r2, e, k⟩ hs => by
  unfold ixD at e
  split at e
  · cases r1 with
    | lst h rr =>
      cases r2
      obtain ⟨z, h1, h2⟩ := rr.at e
      exact ix_list value slice pins s σ H _ _ v u Q I rx ry ⟨_, _, _, z, rfl, rfl, h.sq, h1, k _ H F (.refl wf) h2⟩ hs
  · cases r1 with
    | tup h rr =>
      cases r2
      obtain ⟨z, h1, h2⟩ := rr.at e
      exact ix_tup value slice pins s σ H _ _ v u Q I rx ry ⟨_, _, _, z, rfl, rfl, h, h1, k _ H F (.refl wf) h2⟩ hs
  · cases e
theorem de_ix {fa fb : Ev} (ha : PE X a (tD T X.K E fa)) (hb : PE X b (tD T X.K E fb)) (hs : PlainIx b := by intro _ _; rfl) : PE X (.Subscript a b pos) (tD T X.K E (eOp ixD fa fb)) :=
  PE.imp (pe_ix ixr_d ha hb hs) fun σ H Q h => tOp_of h
def cutD (xs : List D) (lo hi : Option Int) : List D := (xs.drop (HT.sIx xs.length 0 lo)).take (HT.sIx xs.length xs.length hi - HT.sIx xs.length 0 lo)
theorem Reps.cut {F : Addr → Prop} {H : Hp} {vs : List V} {ds : List D} (r : Reps T K F H vs ds) (lo hi : Option Int) : Reps T K F H (cutV vs lo hi) (cutD ds lo hi) := by
  unfold cutV cutD
  rw [r.length]
  exact (r.drop _).take _
abbrev EvO := Rho → Option (Option Int)
def oNone : EvO := fun _ => some none
def oSome (f : Ev) : EvO := fun ρ => match f ρ with
  | some (.val (.int i)) => some (some i)
  | _ => none
def tDO (T : Tab) (K : PySem.W.Frag) (f : EvO) : TO := fun σ H Q => ∃ c ρ F o, Rel T K c ρ σ H F ∧ f ρ = some o ∧ ∀ H' F', Grow H H' F F' → Q o H'
theorem do_none : PO X none (tDO T K oNone) := fun pins s σ H Q I ⟨c, ρ, F, o, r, e, k⟩ => po_none pins s σ H Q I (by cases e; exact k H F (.refl r.wf))
theorem do_some {f : Ev} (h : PE X e (tD T K E f)) : PO X (some e) (tDO T K (oSome f)) := fun pins s σ H Q I ⟨c, ρ, F, o, r, e, k⟩ => po_some h pins s σ H Q I (by
  unfold oSome at e
  split at e
  · rename_i i q
    cases e
    exact ⟨c, ρ, F, _, r, q, fun v H' F' g rp => by cases rp; exact ⟨i, rfl, k H' F' g⟩⟩
  · cases e)
def lSlice (f : Ev) (lo hi : EvO) : EvL := fun ρ => obndL (f ρ) fun d => match d, lo ρ, hi ρ with
  | .lst ds, some l, some h => some (.vals (cutD ds l h))
  | _, _, _ => none
theorem df_slice {f : Ev} {l h : EvO} {lo hi : Option Expr} {p2 : Pos} (he : PE X e (tD T X.K E f)) (hl : PO X lo (tDO T X.K l)) (hh : PO X hi (tDO T X.K h)) : PE X (.Subscript e (.Slice lo hi none p2) pos) (tDF T X.K E (lSlice f l h)) :=
  PE.imp (pe_slice sl_list he hl hh) fun σ H Q ⟨c, ρ, F, out, r, e, th⟩ => by
    unfold lSlice obndL at e
    split at e
    · rename_i d q
      refine ⟨c, ρ, F, _, r, q, fun v H1 F1 g1 r1 => ?_⟩
      dsimp only at e
      split at e
      · rename_i ds lv hv el eh
        cases e
        cases r1 with
        | lst hq rr =>
          refine ⟨c, ρ, F1, lv, r.grow g1, el, fun H2 F2 g2 => ⟨c, ρ, F2, hv, (r.grow g1).grow g2, eh, fun H3 F3 g3 => ?_⟩⟩
          have rr3 := (rr.grow g2).grow g3
          refine ⟨_, _, rfl, ((hq.keep g2.ext.keep g2.more).keep g3.ext.keep g3.more).sq, fun p hp => ?_⟩
          exact th p _ H3 _ F3 ((g1.trans g2).trans g3) hp rfl ((rr3.cut lv hv).grow (Grow.upd g3.wf hp))
      · cases e
    · rename_i n q
      cases e
      exact ⟨c, ρ, F, _, r, q, th⟩
    · cases e
open PySem.Spec PyProof.Rows in
theorem add_lists0 {prog : Program} {w : World} {A : Around} {E : Value → Shared → Prop} {s : Shared} {l b : Addr} {vs ws : List Value} {Q : Value → Shared → Prop} (hl : s.heap.IsList l vs.toArray) (hb : s.heap.IsList b ws.toArray)
    (h : Q (.ref s.heap.objs.size) { s with heap := s.heap.push { cls := .type "list", data := .seq (vs ++ ws).toArray } }) (hsz : vs.length + ws.length ≤ sizeLine) :
    wpAny (model prog w) A (binaryOp .Add (.ref l) (.ref b)) Q E s := by
  obtain ⟨⟨cls, dd, data, sl⟩, ho, hc, n, hd⟩ := id hl
  obtain ⟨⟨cls2, dd2, data2, sl2⟩, ho2, hc2, n2, hd2⟩ := id hb
  simp only at hc hd hc2 hd2
  subst hc hd hc2 hd2
  have e : vs.toArray ++ ws.toArray = (vs ++ ws).toArray := by simp
  refine concat_meets ⟨_, ho, rfl⟩ ⟨_, ho2, rfl⟩ noFill_list_add seq_list_add PySem.F.slot_list_add PySem.F.entry_list_add (PySem.F.args_list_add_2 _ _) (list_addW l b vs.toArray ws.toArray n n2 dd dd2 sl sl2 (by simpa using hsz)) ⟨ho, ho2, ?_⟩
  rw [e]
  exact h
theorem op_catL : OpR X (binaryOp .Add) (fun x y H Q => ∃ l b xs zs, x = .ref l ∧ y = .ref b ∧ SqL X.K H l xs ∧ SqL X.K H b zs ∧ xs.length + zs.length ≤ sizeLine ∧ ∀ p, H p = none → Q (.ref p) (upd H p (.lst (xs ++ zs)))) := by
  intro pins s σ H x y v u Q I rx ry h
  obtain ⟨l, b, xs, zs, rfl, rfl, hH, hB, hz, q⟩ := h
  cases rx
  cases ry
  obtain ⟨its, r, e, _⟩ := I.list hH
  obtain ⟨its2, r2, e2, _⟩ := I.list hB
  refine add_lists0 e.isList e2.isList ?_ (by rw [← r.length, ← r2.length]; exact hz)
  exact ⟨.ref _, _, I.lnew (t' := s.toks) (r.append r2) (by rw [List.length_append]; omega), rfl, q _ I.fresh⟩
def lCat (fa fb : Ev) : EvL := fun ρ => obndL (fa ρ) fun x => obndL (fb ρ) fun y => match x, y with
  | .lst xs, .lst ys => if smallL xs && smallL ys then some (.vals (xs ++ ys)) else none
  | _, _ => none
theorem df_cat {fa fb : Ev} (ha : PE X a (tD T X.K E fa)) (hb : PE X b (tD T X.K E fb)) : PE X (.BinOp a .Add b pos) (tDF T X.K E (lCat fa fb)) := PE.imp (pe_op op_catL ha hb) fun σ H Q ⟨c, ρ, F, out, r, e, th⟩ => by
  unfold lCat obndL at e
  split at e
  · rename_i d q
    refine ⟨c, ρ, F, _, r, q, fun v H1 F1 g1 r1 => ?_⟩
    dsimp only at e
    split at e
    · rename_i d2 q2
      refine ⟨c, ρ, F1, _, r.grow g1, q2, fun v2 H2 F2 g2 r2 => ?_⟩
      split at e
      · rename_i xs ys
        split at e
        · rename_i hs
          cases e
          rw [Bool.and_eq_true] at hs
          cases r1 with
          | lst hx rx =>
            cases r2 with
            | lst hy ry =>
              have l1 := of_decide_eq_true hs.1
              have l2 := of_decide_eq_true hs.2
              refine ⟨_, _, _, _, rfl, rfl, (hx.keep g2.ext.keep g2.more).sq, hy.sq, ?_, fun p hp => ?_⟩
              · rw [rx.length, ry.length]
                exact Nat.le_trans (Nat.add_le_add l1 l2) (by decide)
              · exact th p _ H2 _ F2 (g1.trans g2) hp rfl (((rx.grow g2).append ry).grow (Grow.upd g2.wf hp))
        · cases e
      · cases e
    · rename_i n q2
      cases e
      exact ⟨c, ρ, F1, _, r.grow g1, q2, fun H' z => th H' (g1.ext.trans z)⟩
    · cases e
  · rename_i n q
    cases e
    exact ⟨c, ρ, F, _, r, q, th⟩
  · cases e
theorem od_add : OpR X (binaryOp .Add) (rD T K (i2 addI)) := OpR.imp op_add fun x y H Q h => by
  obtain ⟨i, j, d, F, rfl, rfl, e, wf, k⟩ := rD_i2 h
  cases e
  exact ⟨i, j, rfl, rfl, k _ _ F (.refl wf) (.int _)⟩
def ThenS (T : Tab) (K : PySem.W.Frag) (E : XK) (c : Ent) (H : Hp) (F : Addr → Prop) (D : Ends) : Fl → Prop
  | .nx ρ => ∀ σ H' F', Later H H' F F' → Rel T K c ρ σ H' F' → D.nx σ H'
  | .bk ρ => ∀ σ H' F', Later H H' F F' → Rel T K c ρ σ H' F' → D.bk σ H'
  | .ct ρ => ∀ σ H' F', Later H H' F F' → Rel T K c ρ σ H' F' → D.ct σ H'
  | .rt d => ∀ v H F, Grow c.H H c.F F → Rep T K F H v d → D.rt v H
  | .exc n => ∀ H, Ext c.H H → E (T.clsV n) none H
theorem ThenS.later {E : XK} {c : Ent} {H H1 : Hp} {F F1 : Addr → Prop} {D : Ends} {fl : Fl} (l : Later H H1 F F1) (h : ThenS T K E c H F D fl) : ThenS T K E c H1 F1 D fl := by
  cases fl with
  | nx ρ => exact fun σ H' F' l' r => h σ H' F' (l.trans l') r
  | bk ρ => exact fun σ H' F' l' r => h σ H' F' (l.trans l') r
  | ct ρ => exact fun σ H' F' l' r => h σ H' F' (l.trans l') r
  | rt d => exact h
  | exc n => exact h
def tDS (T : Tab) (K : PySem.W.Frag) (E : XK) (f : Sv) : TS := fun D σ H => ∃ c ρ F fl, Rel T K c ρ σ H F ∧ f ρ = some fl ∧ ThenS T K E c H F D fl
variable {st : Stmt} {sts : List Stmt}
def sNext : Sv := fun ρ => some (.nx ρ)
def sSeq (f g : Sv) : Sv := fun ρ => match f ρ with
  | some (.nx ρ') => g ρ'
  | r => r
theorem ds_nil : PSs X [] (tDS T K E sNext) := PSs.imp pss_nil fun D σ H ⟨c, ρ, F, fl, r, e, th⟩ => by cases e; exact th σ H F .refl r
theorem ds_cons {f g : Sv} (h1 : PS X st (tDS T K E f)) (h2 : PSs X sts (tDS T K E g)) : PSs X (st :: sts) (tDS T K E (sSeq f g)) := PSs.imp (pss_cons h1 h2) fun D σ H ⟨c, ρ, F, fl, r, e, th⟩ => by
  unfold sSeq at e
  split at e
  · rename_i ρ' q
    exact ⟨c, ρ, F, _, r, q, fun σ' H' F' l r' => ⟨c, ρ', F', fl, r', e, th.later l⟩⟩
  · rename_i q
    refine ⟨c, ρ, F, fl, r, e, ?_⟩
    cases fl with
    | nx ρ' => exact absurd e (q ρ')
    | bk ρ' => exact th
    | ct ρ' => exact th
    | rt d => exact th
    | exc n => exact th
theorem ds_one {f : Sv} (h1 : PS X st (tDS T K E f)) : PSs X [st] (tDS T K E f) := PSs.imp (ds_cons h1 ds_nil) fun D σ H ⟨c, ρ, F, fl, r, e, th⟩ => ⟨c, ρ, F, fl, r, by unfold sSeq; rw [e]; cases fl <;> rfl, th⟩
def sFrz (i : Nat) (g : Sv) : Sv := fun ρ => match ρ[i]? with
  | some (some (.own ds)) => g (ρ.set i (some (.sh (.lst ds))))
  | _ => g ρ
theorem ds_frz {i : Nat} {g : Sv} (h : PSs X sts (tDS T K E g)) : PSs X sts (tDS T K E (sFrz i g)) := PSs.imp h fun D σ H ⟨c, ρ, F, fl, r, e, th⟩ => by
  unfold sFrz at e
  split at e
  · rename_i ds q
    obtain ⟨F', m, r'⟩ := r.freeze q
    exact ⟨c, _, F', fl, r', e, th.later ⟨fun _ _ e _ => e, m⟩⟩
  · exact ⟨c, ρ, F, fl, r, e, th⟩
def sbnd (o : Option Out) (k : D → Option Fl) : Option Fl := match o with
  | some (.val d) => k d
  | some (.exc n) => some (.exc n)
  | none => none
def lbndS (o : Option OutL) (k : List D → Option Fl) : Option Fl := match o with
  | some (.vals d) => k d
  | some (.exc n) => some (.exc n)
  | none => none
theorem tD_bindS {f : Ev} {k : D → Option Fl} {Q : VK} {fl : Fl} {c : Ent} {ρ : Rho} {σ : L2.St} {H : Hp} {F : Addr → Prop} {D : Ends} (r : Rel T K c ρ σ H F) (e : sbnd (f ρ) k = some fl) (th : ThenS T K E c H F D fl)
    (hv : ∀ d v H' F', Grow H H' F F' → Rep T K F' H' v d → k d = some fl → Q v H') : tD T K E f σ H Q := by
  unfold sbnd at e
  split at e
  · rename_i d q
    exact ⟨c, ρ, F, _, r, q, fun v H' F' g rp => hv d v H' F' g rp e⟩
  · rename_i n q
    cases e
    exact ⟨c, ρ, F, _, r, q, fun H' z => th H' (r.ext.trans z)⟩
  · cases e
theorem tDT_bindS {f : Ev} {k : D → Option Fl} {Q : Bool → Hp → Prop} {fl : Fl} {c : Ent} {ρ : Rho} {σ : L2.St} {H : Hp} {F : Addr → Prop} {D : Ends} (r : Rel T K c ρ σ H F) (e : sbnd (f ρ) k = some fl) (th : ThenS T K E c H F D fl)
    (hk : ∀ d, k d = some fl → ∃ b, d = .bl b) (hv : ∀ b H' F', Grow H H' F F' → k (.bl b) = some fl → Q b H') : tDT T K E f σ H Q := by
  unfold sbnd at e
  split at e
  · rename_i d q
    obtain ⟨b, rfl⟩ := hk d e
    exact ⟨c, ρ, F, _, r, q, fun H' F' g => hv b H' F' g e⟩
  · rename_i n q
    cases e
    exact ⟨c, ρ, F, _, r, q, fun H' z => th H' (r.ext.trans z)⟩
  · cases e
def sRet (f : Ev) : Sv := fun ρ => sbnd (f ρ) fun d => some (.rt d)
theorem ds_ret {f : Ev} (h : PE X e (tD T K E f)) : PS X (.Return (some e) pos) (tDS T K E (sRet f)) := PS.imp (ps_ret h) fun D σ H ⟨c, ρ, F, fl, r, e, th⟩ =>
  tD_bindS r e th fun d v H' F' g rp e1 => by cases e1; exact th v H' F' (r.grow g).growE rp
def sIf (q : Ev) (f g : Sv) : Sv := fun ρ => sbnd (q ρ) fun d => match d with
  | .bl true => f ρ
  | .bl false => g ρ
  | _ => none
theorem ds_if {q : Ev} {f g : Sv} {sa sb : List Stmt} (hc : PT X c (tDT T K E q)) (ha : PSs X sa (tDS T K E f)) (hb : PSs X sb (tDS T K E g)) : PS X (.If c sa sb pos) (tDS T K E (sIf q f g)) :=
  PS.imp (ps_if hc ha hb) fun D σ H ⟨c, ρ, F, fl, r, e, th⟩ => by
    refine tDT_bindS r e th (fun d e1 => ?_) (fun k H1 F1 g1 e1 => ?_)
    · split at e1
      · exact ⟨_, rfl⟩
      · exact ⟨_, rfl⟩
      · cases e1
    · cases k with
      | true => rw [if_pos rfl]; exact ⟨c, ρ, F1, fl, r.grow g1, e1, th.later g1.later⟩
      | false => rw [if_neg (by decide)]; exact ⟨c, ρ, F1, fl, r.grow g1, e1, th.later g1.later⟩
abbrev Gv := D → Rho → Option Rho
def But (ss : List Nat) (σ σ' : L2.St) : Prop := σ'.length = σ.length ∧ ∀ j : Nat, j ∉ ss → σ'[j]? = σ[j]?
theorem But.refl {ss : List Nat} {σ : L2.St} : But ss σ σ := ⟨rfl, fun _ _ => rfl⟩
theorem But.trans {ss ts : List Nat} {σ σ1 σ2 : L2.St} (a : But ss σ σ1) (b : But ts σ1 σ2) : But (ss ++ ts) σ σ2 := ⟨b.1.trans a.1, fun j hj => by
  rw [List.mem_append] at hj
  rw [b.2 j fun z => hj (.inr z), a.2 j fun z => hj (.inl z)]⟩
def tDG (T : Tab) (K : PySem.W.Frag) (g : Gv) (ss : List Nat) : TG := fun v σ H Q => ∃ c ρ F d ρ', Rel T K c ρ σ H F ∧ Rep T K F H v d ∧ g d ρ = some ρ' ∧ ∀ σ', Rel T K c ρ' σ' H F → But ss σ σ' → Q σ' H
abbrev Gvs := List D → Rho → Option Rho
def tDGs (T : Tab) (K : PySem.W.Frag) (g : Gvs) (ss : List Nat) : TGs := fun vs σ H Q => ∃ c ρ F ds ρ', Rel T K c ρ σ H F ∧ Reps T K F H vs ds ∧ g ds ρ = some ρ' ∧ ∀ σ', Rel T K c ρ' σ' H F → But ss σ σ' → Q σ' H
def gNm (i : Nat) : Gv := fun d ρ => some (ρ.set i (some (.sh d)))
theorem dg_name {i : Nat} {x : Str} (hN : X.N.Nodup) (hi : X.N[i]? = some x) (hx : Loc X.env.scope x) (hf : X.fn x = true ∨ X.env.scope.names.lookup x = some .local := by first | exact .inl rfl | exact .inr rfl | assumption) : PG X (.Name x pos) (tDG T K (gNm i) [i]) :=
  PG.imp (pg_name hN hi hx hf) fun v σ H Q ⟨c, ρ, F, d, ρ', r, rp, e, k⟩ => by cases e; exact k _ (r.set rp) ⟨List.length_set, fun j hj => get_set_ne fun z => hj (by simp [z])⟩
def gsNil : Gvs := fun ds ρ => match ds with
  | [] => some ρ
  | _ => none
def gsCons (g : Gv) (h : Gvs) : Gvs := fun ds ρ => match ds with
  | d :: r => (g d ρ).bind fun ρ' => h r ρ'
  | _ => none
theorem dgs_nil : PGs X [] (tDGs T K gsNil []) := fun pins s σ H vs us Q I r ⟨c, ρ, F, ds, ρ', rl, rp, e, k⟩ => pgs_nil pins s σ H vs us Q I r (by
  unfold gsNil at e
  split at e
  · cases rp; cases e; exact ⟨rfl, k _ rl .refl⟩
  · cases e)
theorem dgs_cons {g : Gv} {h : Gvs} {ss ts : List Nat} (h1 : PG X e (tDG T K g ss)) (h2 : PGs X es (tDGs T K h ts)) (hs : (assignEach (e :: es) X.env).map (·.2) = assign e X.env :: (assignEach es X.env).map (·.2) := by rfl) : PGs X (e :: es) (tDGs T K (gsCons g h) (ss ++ ts)) :=
  fun pins s σ H vs us Q I r ⟨c, ρ, F, ds, ρ', rl, rp, e, k⟩ => pgs_cons h1 h2 hs pins s σ H vs us Q I r (by
    unfold gsCons at e
    split at e
    · rename_i d ds'
      cases rp with
      | cons r1 r2 =>
        cases q : g d ρ with
        | none => rw [q] at e; cases e
        | some ρ1 =>
          rw [q] at e
          exact ⟨_, _, rfl, c, ρ, F, d, ρ1, rl, r1, q, fun σ1 rl1 b1 => ⟨c, ρ1, F, _, ρ', rl1, r2, e, fun σ2 rl2 b2 => k σ2 rl2 (b1.trans b2)⟩⟩
    · cases e)
def gTp (h : Gvs) : Gv := fun d ρ => match d with
  | .tup ds => h ds ρ
  | _ => none
theorem dg_tup {kk : Nat} {h : Gvs} {n : Nat} {ss : List Nat} (hc : X.calm = true) (hh : PGs X es (tDGs T X.K h ss)) (hl : ∀ ds ρ ρ', h ds ρ = some ρ' → ds.length = n) (hn : (assignEach es X.env).length = n := by rfl) (hst : (assignEach es X.env).findIdx? (·.1) = none := by rfl) :
    PG X (.Tuple es kk pos) (tDG T X.K (gTp h) ss) := PG.imp (pg_tup hc hh hn hst) fun v σ H Q ⟨c, ρ, F, d, ρ', r, rp, e, k⟩ => by
  unfold gTp at e
  split at e
  · cases rp with
    | tup hq rr => exact ⟨_, _, rfl, hq, by rw [rr.length]; exact hl _ _ _ e, c, ρ, F, _, ρ', r, rr, e, k⟩
  · cases e
theorem gl_nil : ∀ ds ρ ρ', gsNil ds ρ = some ρ' → ds.length = 0 := fun ds ρ ρ' e => by
  unfold gsNil at e
  split at e
  · rfl
  · cases e
theorem gl_cons {g : Gv} {h : Gvs} {n : Nat} (hl : ∀ ds ρ ρ', h ds ρ = some ρ' → ds.length = n) : ∀ ds ρ ρ', gsCons g h ds ρ = some ρ' → ds.length = n + 1 := fun ds ρ ρ' e => by
  unfold gsCons at e
  split at e
  · rename_i d r
    cases q : g d ρ with
    | none => rw [q] at e; cases e
    | some ρ1 => rw [q] at e; simp [hl _ _ _ e]
  · cases e
def sAsg (f : Ev) (g : Gv) : Sv := fun ρ => sbnd (f ρ) fun d => (g d ρ).map .nx
theorem ds_asg {tg : Expr} {f : Ev} {g : Gv} {ss : List Nat} (he : PE X e (tD T K E f)) (hg : PG X tg (tDG T K g ss)) (hs : swapsWithSole [tg] e pos.line X.env = pure false := by rfl) (hw : swappedStores [tg] e X.env = pure none := by rfl) (h1 : (assignEach [tg] X.env).map (·.2) = [assign tg X.env] := by rfl)
    : PS X (.Assign [tg] e pos) (tDS T K E (sAsg f g)) := PS.imp (ps_asg he hg hs hw h1) fun D σ H ⟨c, ρ, F, fl, r, e, th⟩ =>
  tD_bindS r e th fun d v H' F' g' rp e1 => by
    cases q : g d ρ with
    | none => rw [q] at e1; cases e1
    | some ρ1 =>
      rw [q] at e1
      cases e1
      exact ⟨c, ρ, F', d, ρ1, r.grow g', rp, q, fun σ' r' _ => th σ' H' F' g'.later r'⟩
theorem ds_set {i : Nat} {x : Str} {f : Ev} {pos' : Pos} (hN : X.N.Nodup) (hi : X.N[i]? = some x) (hx : Loc X.env.scope x) (he : PE X e (tD T K E f)) (hs : swapsWith e (some (.Name x pos')) pos.line X.env = pure false := by rfl)
    (hf : X.fn x = true ∨ X.env.scope.names.lookup x = some .local := by first | exact .inl rfl | exact .inr rfl | assumption) : PS X (.Assign [.Name x pos'] e pos) (tDS T K E (sAsg f (gNm i))) := PS.imp (ps_set hN hi hx he hs hf) fun D σ H ⟨c, ρ, F, fl, r, e, th⟩ =>
  tD_bindS r e th fun d v H' F' g' rp e1 => by
    cases e1
    exact th _ H' F' g'.later ((r.grow g').set rp)
def sOwn (f : EvL) (i : Nat) : Sv := fun ρ => lbndS (f ρ) fun ds => some (.nx (ρ.set i (some (.own ds))))
theorem rel_own {c : Ent} {ρ : Rho} {σ : L2.St} {H H1 H' : Hp} {F F' : Addr → Prop} {p : Addr} {vs : List V} {ds : List D} (r : Rel T K c ρ σ H F) (g : Grow H H1 F F') (hp : H1 p = none) (eH : H' = upd H1 p (.lst vs)) (rp : Reps T K F' H' vs ds) (i : Nat) :
    Rel T K c (ρ.set i (some (.own ds))) (σ.set i (some (.ref p))) H' F' := by
  subst eH
  have g2 : Grow H1 (upd H1 p (.lst vs)) F' F' := Grow.upd g.wf hp
  have r2 := (r.grow g).grow g2
  refine r2.setOwn upd_same rp (fun z => g.wf p z hp) ((r.grow g).ext.none hp) fun j ds' q1 q2 => ?_
  obtain ⟨p', vs', h1, h2, _⟩ := (r.grow g).own j ds' q1
  rw [q2] at h1
  cases h1
  rw [hp] at h2
  cases h2
theorem ds_own {i : Nat} {x : Str} {f : EvL} {pos' : Pos} (hN : X.N.Nodup) (hi : X.N[i]? = some x) (hx : Loc X.env.scope x) (he : PE X e (tDF T K E f)) (hs : swapsWith e (some (.Name x pos')) pos.line X.env = pure false := by rfl)
    (hf : X.fn x = true ∨ X.env.scope.names.lookup x = some .local := by first | exact .inl rfl | exact .inr rfl | assumption) : PS X (.Assign [.Name x pos'] e pos) (tDS T K E (sOwn f i)) := PS.imp (ps_set hN hi hx he hs hf) fun D σ H ⟨c, ρ, F, fl, r, e, th⟩ => by
  unfold sOwn lbndS at e
  split at e
  · rename_i ds q
    cases e
    exact ⟨c, ρ, F, _, r, q, fun p vs H1 H' F' g hp eH rp => th _ H' F' (by subst eH; exact g.later.trans (Grow.upd g.wf hp).later) (rel_own r g hp eH rp i)⟩
  · rename_i n q
    cases e
    exact ⟨c, ρ, F, _, r, q, fun H' z => th H' (r.ext.trans z)⟩
  · cases e
def sPar (i j : Nat) (fa fb : Ev) : Sv := fun ρ => sbnd (fa ρ) fun x => sbnd (fb ρ) fun y => some (.nx ((ρ.set i (some (.sh x))).set j (some (.sh y))))
theorem ds_par {i j : Nat} {x y : Str} {fa fb : Ev} {px py pt : Pos} {kt k2 pt2} (hc : X.calm = true) (hN : X.N.Nodup) (hi : X.N[i]? = some x) (hj : X.N[j]? = some y) (hij : i ≠ j) (hx : X.env.scope.names.lookup x = some .local) (hy : X.env.scope.names.lookup y = some .local)
    (ha : PE X a (tD T K E fa)) (hb : PE X b (tD T K E fb)) (hw : swappedStores [.Tuple [.Name x px, .Name y py] kt pt] (.Tuple [a, b] k2 pt2) X.env = pure (some [x, y]) := by rfl)
    (hs1 : starEach [a, b] X.env = (false, eval a X.env) :: starEach [b] X.env := by rfl) (hs2 : starEach [b] X.env = (false, eval b X.env) :: starEach [] X.env := by rfl)
    (hs : swapsWithSole [.Tuple [.Name x px, .Name y py] kt pt] (.Tuple [a, b] k2 pt2) pos.line X.env = pure false := by rfl) :
    PS X (.Assign [.Tuple [.Name x px, .Name y py] kt pt] (.Tuple [a, b] k2 pt2) pos) (tDS T K E (sPar i j fa fb)) := PS.imp (ps_par hc hN hi hj hij hx hy (pa_cons ha (pa_cons hb pa_nil hs2) hs1) hw hs) fun D σ H ⟨c, ρ, F, fl, r, e, th⟩ =>
  tD_bindS r e th fun d v H1 F1 g1 r1 e1 => tD_bindS (r.grow g1) e1 (th.later g1.later) fun d2 v2 H2 F2 g2 r2 e2 => by
    cases e2
    exact ⟨v, v2, rfl, th _ H2 F2 (g1.trans g2).later ((((r.grow g1).grow g2).set (r1.grow g2)).set r2)⟩
end
end BD
namespace BD
open PySem L2
variable {T : Tab} {K : PySem.W.Frag}
theorem SqF.later {H H' : Hp} {F F' : Addr → Prop} {a : Addr} {xs : List V} (l : Later H H' F F') (h : SqF K F H a xs) : SqF K F' H' a xs := h.keep l.keep l.more
theorem Rep.later {H H' : Hp} {F F' : Addr → Prop} {v : V} {d : D} (l : Later H H' F F') (h : Rep T K F H v d) : Rep T K F' H' v d := h.keep l.keep l.more
theorem Reps.later {H H' : Hp} {F F' : Addr → Prop} {v : List V} {d : List D} (l : Later H H' F F') (h : Reps T K F H v d) : Reps T K F' H' v d := h.keep l.keep l.more
def Yields (T : Tab) (K : PySem.W.Frag) (J : It) (ds : List D) (H : Hp) (F : Addr → Prop) : Prop :=
  ∃ P : Hp → (Addr → Prop) → Prop, P H F ∧ (∀ H F H' F', P H F → Later H H' F F' → P H' F') ∧
    ∀ H F i, P H F → (∀ a, F a → H a ≠ none) → (i < ds.length → J.go i H ∧ ∀ x H', J.yld i H x H' → ∃ d, ds[i]? = some d ∧ ∃ F', Grow H H' F F' ∧ Rep T K F' H' x d) ∧ (ds.length ≤ i → J.stop i H)
def ThenI (T : Tab) (K : PySem.W.Frag) (E : XK) (H : Hp) (F : Addr → Prop) (R : It → Hp → Prop) : OutL → Prop
  | .vals ds => ∀ J H' F', Grow H H' F F' → Yields T K J ds H' F' → R J H'
  | .exc n => ∀ H', Ext H H' → E (T.clsV n) none H'
def tDI (T : Tab) (K : PySem.W.Frag) (E : XK) (f : EvL) : TI := fun σ H R => ∃ c ρ F out, Rel T K c ρ σ H F ∧ f ρ = some out ∧ ThenI T K E H F R out
section
variable {X : Cx} {E : XK} {a b c e l tg : Expr} {es rest : List Expr} {pos : Pos}
theorem PI.imp {wi wi' : TI} (h : PI X tg l wi) (w : ∀ σ H R, wi' σ H R → wi σ H R) : PI X tg l wi' := fun pins s σ H R I q => h pins s σ H R I (w σ H R q)
theorem get_of_lt {α : Type} {xs : List α} {i : Nat} (h : i < xs.length) : ∃ x, xs[i]? = some x := ⟨xs[i], by simp [h]⟩
theorem yields_list {H : Hp} {F : Addr → Prop} {p : Addr} {vs : List V} {ds : List D} (h : SqF K F H p vs) (r : Reps T K F H vs ds) : Yields T K (Itl K p) ds H F := by
  refine ⟨fun H F => SqF K F H p vs ∧ Reps T K F H vs ds, ⟨h, r⟩, fun H F H' F' q l => ⟨q.1.later l, q.2.later l⟩, fun H F i q wf => ⟨fun hi => ⟨?_, fun x H' y => ?_⟩, fun hi => ?_⟩⟩
  · obtain ⟨x, hx⟩ := get_of_lt (show i < vs.length by rw [q.2.length]; exact hi)
    exact ⟨vs, x, q.1.sq, hx⟩
  · obtain ⟨e, y⟩ := y
    subst e
    have hx := y vs q.1.sq
    obtain ⟨d, h1, h2⟩ := q.2.get' hx
    exact ⟨d, h1, F, .refl wf, h2⟩
  · exact ⟨vs, q.1.sq, by rw [q.2.length]; exact hi⟩
def rngD (lo st : Int) (n : Nat) : List D := (List.range n).map fun k : Nat => D.int (lo + ((k : Nat) : Int) * st)
theorem yields_range {lo : Int} {n : Nat} {H : Hp} {F : Addr → Prop} : Yields T K (Itr lo n) (rngD lo 1 n) H F := by
  have hl : (rngD lo 1 n).length = n := by simp [rngD]
  refine ⟨fun _ _ => True, trivial, fun _ _ _ _ _ _ => trivial, fun H F i _ wf => ⟨fun hi => ⟨?_, fun x H' y => ?_⟩, fun hi => ?_⟩⟩
  · rw [hl] at hi; exact hi
  · obtain ⟨e, y⟩ := y
    subst e y
    rw [hl] at hi
    refine ⟨.int (lo + ((i : Nat) : Int) * 1), by simp [rngD, hi], F, .refl wf, ?_⟩
    rw [Int.mul_one]; exact .int _
  · rw [hl] at hi; exact hi
def zipD (xs ys : List D) : List D := (xs.zip ys).map fun p => D.tup [p.1, p.2]
theorem yields_zip {H : Hp} {F : Addr → Prop} {p q : Addr} {vs us : List V} {ds es : List D} (h : SqF K F H p vs) (r : Reps T K F H vs ds) (h2 : SqF K F H q us) (r2 : Reps T K F H us es) : Yields T K (Itz K p q) (zipD ds es) H F := by
  have hl : (zipD ds es).length = min ds.length es.length := by simp [zipD]
  refine ⟨fun H F => (SqF K F H p vs ∧ Reps T K F H vs ds) ∧ SqF K F H q us ∧ Reps T K F H us es, ⟨⟨h, r⟩, h2, r2⟩, fun H F H' F' q l => ⟨⟨q.1.1.later l, q.1.2.later l⟩, q.2.1.later l, q.2.2.later l⟩, fun H F i ⟨⟨q1, q2⟩, q3, q4⟩ wf => ⟨fun hi => ⟨?_, fun x H' y => ?_⟩, fun hi => ?_⟩⟩
  · rw [hl] at hi
    obtain ⟨x, hx⟩ := get_of_lt (show i < vs.length by rw [q2.length]; omega)
    obtain ⟨y, hy⟩ := get_of_lt (show i < us.length by rw [q4.length]; omega)
    exact ⟨vs, us, x, y, q1.sq, q3.sq, hx, hy⟩
  · obtain ⟨t, x1, y1, rfl, ht, rfl, hx, hy⟩ := y
    obtain ⟨d1, a1, b1⟩ := q2.get' (hx vs q1.sq)
    obtain ⟨d2, a2, b2⟩ := q4.get' (hy us q3.sq)
    have g := Grow.upd (o := .tup [x1, y1]) wf ht
    refine ⟨.tup [d1, d2], ?_, F, g, .tup (SqT.of upd_same) ((Reps.cons b1 (.cons b2 .nil)).grow g)⟩
    simp [zipD, List.getElem?_zip_eq_some, a1, a2]
  · rw [hl] at hi
    exact ⟨vs, us, q1.sq, q3.sq, by rw [q2.length, q4.length]; omega⟩
def enumD (xs : List D) : List D := (List.range xs.length).map fun k : Nat => D.tup [.int ((k : Nat) : Int), (xs[k]?).getD .non]
def wSeq (f : Ev) : EvL := fun ρ => obndL (f ρ) fun d => match d with
  | .lst ds => some (.vals ds)
  | _ => none
theorem di_list {f : Ev} (h : PE X l (tD T X.K E f)) : PI X tg l (tDI T X.K E (wSeq f)) := PI.imp (pi_list h) fun σ H R ⟨c, ρ, F, out, r, e, th⟩ => by
  unfold wSeq obndL at e
  split at e
  · rename_i d q
    refine ⟨c, ρ, F, _, r, q, fun v H1 F1 g1 r1 => ?_⟩
    dsimp only at e
    split at e
    · cases e
      cases r1 with
      | lst hq rr => exact ⟨_, rfl, ⟨_, hq.sq⟩, th _ H1 F1 g1 (yields_list hq rr)⟩
    · cases e
  · rename_i n q
    cases e
    exact ⟨c, ρ, F, _, r, q, th⟩
  · cases e
def big62 (i : Int) : Bool := decide (-(2 ^ 62) ≤ i) && decide (i < 2 ^ 62)
theorem tDA_bindI {f : EvL} {k : List D → Option OutL} {Q : List V → Hp → Prop} {out : OutL} {c : Ent} {ρ : Rho} {σ : L2.St} {H : Hp} {F : Addr → Prop} {R : It → Hp → Prop} (r : Rel T K c ρ σ H F) (e : lbndL (f ρ) k = some out)
    (th : ThenI T K E H F R out) (nx : ∀ ds n, k ds ≠ some (.exc n))
    (hv : ∀ d v H' F' ds, Grow H H' F F' → Reps T K F' H' v d → k d = some (.vals ds) → (∀ J, Yields T K J ds H' F' → R J H') → Q v H') : tDA T K E f σ H Q := by
  unfold lbndL at e
  split at e
  · rename_i d q
    refine ⟨c, ρ, F, _, r, q, fun v H' F' g rp => ?_⟩
    cases out with
    | vals ds => exact hv d v H' F' ds g rp e fun J y => th J H' F' g y
    | exc n => exact absurd e (nx d n)
  · rename_i n q
    cases e
    exact ⟨c, ρ, F, _, r, q, th⟩
  · cases e
def wRng1 (f : EvL) : EvL := fun ρ => lbndL (f ρ) fun ds => match ds with
  | [.int j] => if big62 j then some (.vals (rngD 0 1 j.toNat)) else none
  | _ => none
def wRng2 (f : EvL) : EvL := fun ρ => lbndL (f ρ) fun ds => match ds with
  | [.int i, .int j] => if big62 i && big62 j then some (.vals (rngD i 1 (j - i).toNat)) else none
  | _ => none
theorem big_ok {i : Int} (h : big62 i = true) : -(2 ^ 62) ≤ i ∧ i < 2 ^ 62 := by
  unfold big62 at h
  rw [Bool.and_eq_true] at h
  exact ⟨of_decide_eq_true h.1, of_decide_eq_true h.2⟩
theorem di_range1 {f : EvL} {p : Pos} (hg : Gl X "range") (hm : X.mg "range" = none) (ha : PA X [a] (tDA T K E f)) (hs : starEach [a] X.env = [(false, eval a X.env)] := by rfl) : PI X tg (.Call (.Name "range" p) [a] [] pos) (tDI T K E (wRng1 f)) :=
  PI.imp (pi_range1 hg hm ha hs) fun σ H R ⟨c, ρ, F, out, r, e, th⟩ => by
    refine tDA_bindI r e th (fun ds n z => ?_) (fun d v H' F' ds g rp e1 k => ?_)
    · split at z
      · split at z <;> cases z
      · cases z
    · split at e1
      · split at e1
        · rename_i hb
          cases e1
          cases rp with
          | cons r1 t => cases t; cases r1; exact ⟨_, rfl, (big_ok hb).1, (big_ok hb).2, k _ yields_range⟩
        · cases e1
      · cases e1
theorem di_range2 {f : EvL} {p : Pos} (hg : Gl X "range") (hm : X.mg "range" = none) (ha : PA X [a, b] (tDA T K E f)) (hs : starEach [a, b] X.env = [(false, eval a X.env), (false, eval b X.env)] := by rfl) (hs2 : starEach [b] X.env = [(false, eval b X.env)] := by rfl) :
    PI X tg (.Call (.Name "range" p) [a, b] [] pos) (tDI T K E (wRng2 f)) :=
  PI.imp (pi_range2 hg hm ha hs hs2) fun σ H R ⟨c, ρ, F, out, r, e, th⟩ => by
    refine tDA_bindI r e th (fun ds n z => ?_) (fun d v H' F' ds g rp e1 k => ?_)
    · split at z
      · split at z <;> cases z
      · cases z
    · split at e1
      · split at e1
        · rename_i hb
          rw [Bool.and_eq_true] at hb
          cases e1
          cases rp with
          | cons r1 t => cases t with | cons r2 t2 => cases t2; cases r1; cases r2; exact ⟨_, _, rfl, ⟨(big_ok hb.1).1, (big_ok hb.1).2, (big_ok hb.2).1, (big_ok hb.2).2⟩, k _ yields_range⟩
        · cases e1
      · cases e1
def wZip (f : EvL) : EvL := fun ρ => lbndL (f ρ) fun ds => match ds with
  | [.lst xs, .lst ys] => some (.vals (zipD xs ys))
  | _ => none
theorem di_zip {f : EvL} {p tpos : Pos} {elts : List Expr} {kk : Nat} (hg : Gl X "zip") (hm : X.mg "zip" = none) (ha : PA X [a, b] (tDA T X.K E f)) (hs : starEach [a, b] X.env = (false, eval a X.env) :: starEach [b] X.env := by rfl) (hpl : (backTo pos (starEach [b] X.env)).any (·.1) = false := by rfl) :
    PI X (.Tuple elts kk tpos) (.Call (.Name "zip" p) [a, b] [] pos) (tDI T X.K E (wZip f)) :=
  PI.imp (pi_zip hg hm ha hs hpl) fun σ H R ⟨c, ρ, F, out, r, e, th⟩ => by
    refine tDA_bindI r e th (fun ds n z => ?_) (fun d v H' F' ds g rp e1 k => ?_)
    · split at z
      · cases z
      · cases z
    · split at e1
      · cases e1
        cases rp with
        | cons r1 t => cases t with | cons r2 t2 => cases t2; cases r1 with | lst h1 q1 => cases r2 with | lst h2 q2 => exact ⟨_, _, _, _, rfl, h1.sq, h2.sq, k _ (yields_zip h1 q1 h2 q2)⟩
      · cases e1
def forS (g : Gv) (body : Sv) : List D → Sv
  | [], ρ => some (.nx ρ)
  | d :: ds, ρ => (g d ρ).bind fun ρ1 => match body ρ1 with
    | some (.nx ρ2) => forS g body ds ρ2
    | some (.ct ρ2) => forS g body ds ρ2
    | some (.bk ρ2) => some (.nx ρ2)
    | r => r
def sFor (f : EvL) (g : Gv) (body : Sv) : Sv := fun ρ => lbndS (f ρ) fun ds => forS g body ds ρ
theorem drop_cons {α : Type} {xs : List α} {i : Nat} {x : α} (h : xs[i]? = some x) : xs.drop i = x :: xs.drop (i + 1) := by
  obtain ⟨hl, e⟩ := List.getElem?_eq_some_iff.mp h
  rw [← e]
  exact List.drop_eq_getElem_cons hl
theorem ds_for {f : EvL} {g : Gv} {fb : Sv} {body : List Stmt} {ss : List Nat} (hp : PassesOwn (model X.prog X.w) X.A X.env X.xe) (hc : X.calm = true) (hi : PI X tg l (tDI T K E f)) (hg : PG X tg (tDG T K g ss)) (hb : PSs X body (tDS T K E fb))
    (hs : ∀ x, foldedSetIterable l X.env x = pure x := by intro _; rfl) : PS X (.For tg l body [] pos) (tDS T K E (sFor f g fb)) := PS.imp (ps_for hp hc hi hg hb hs) fun D σ H ⟨c, ρ, F, fl, r, e, th⟩ => by
  unfold sFor lbndS at e
  split at e
  · rename_i ds q
    refine ⟨c, ρ, F, _, r, q, fun J H1 F1 g1 ⟨P, p1, pl, py⟩ => ?_⟩
    refine ⟨fun i m σ' H' => m = ds.length - i ∧ i ≤ ds.length ∧ ∃ ρ' F', Rel T K c ρ' σ' H' F' ∧ P H' F' ∧ forS g fb (ds.drop i) ρ' = some fl ∧ Later H H' F F', ⟨ds.length, by simp, Nat.zero_le _, ρ, F1, r.grow g1, p1, e, g1.later⟩, ?_⟩
    rintro i m σ' H' ⟨rfl, hi, ρ', F', r', p', e', l'⟩
    obtain ⟨y1, y2⟩ := py H' F' i p' r'.wf
    by_cases hlt : i < ds.length
    · obtain ⟨go, yl⟩ := y1 hlt
      refine .inr ⟨go, fun σ2 H2 => ∃ ρ2 F2, Rel T K c ρ2 σ2 H2 F2 ∧ P H2 F2 ∧ forS g fb (ds.drop (i + 1)) ρ2 = some fl ∧ Later H H2 F F2, fun σ2 H2 ⟨ρ2, F2, r2, p2, e2, l2⟩ => ⟨ds.length - (i + 1), by omega, rfl, hlt, ρ2, F2, r2, p2, e2, l2⟩, fun x H2 y => ?_⟩
      obtain ⟨d, hd, F2, g2, rp⟩ := yl x H2 y
      rw [drop_cons hd] at e'
      unfold forS at e'
      cases qg : g d ρ' with
      | none => rw [qg] at e'; cases e'
      | some ρ1 =>
        rw [qg] at e'
        refine ⟨c, ρ', F2, d, ρ1, r'.grow g2, rp, qg, fun σ3 r3 _ => ?_⟩
        have e' : (match fb ρ1 with
          | some (.nx ρ2) => forS g fb (ds.drop (i + 1)) ρ2
          | some (.ct ρ2) => forS g fb (ds.drop (i + 1)) ρ2
          | some (.bk ρ2) => some (.nx ρ2)
          | r => r) = some fl := e'
        have p2 := pl _ _ _ _ p' g2.later
        cases qb : fb ρ1 with
        | none => rw [qb] at e'; cases e'
        | some fl1 =>
          rw [qb] at e'
          refine ⟨c, ρ1, F2, fl1, r3, qb, ?_⟩
          cases fl1 with
          | nx ρ2 => exact fun σ4 H4 F4 l4 r4 => ⟨ρ2, F4, r4, pl _ _ _ _ p2 l4, e', (l'.trans g2.later).trans l4⟩
          | ct ρ2 => exact fun σ4 H4 F4 l4 r4 => ⟨ρ2, F4, r4, pl _ _ _ _ p2 l4, e', (l'.trans g2.later).trans l4⟩
          | bk ρ2 => cases e'; exact fun σ4 H4 F4 l4 r4 => th σ4 H4 F4 ((l'.trans g2.later).trans l4) r4
          | rt d => cases e'; exact th
          | exc n => cases e'; exact th
    · have hi' : i = ds.length := by omega
      subst hi'
      rw [List.drop_length] at e'
      cases e'
      exact .inl ⟨y2 (Nat.le_refl _), th σ' H' F' l' r'⟩
  · rename_i n q
    cases e
    exact ⟨c, ρ, F, _, r, q, fun H' z => th H' (r.ext.trans z)⟩
  · cases e
def whileS (q : Ev) (body : Sv) : Nat → Sv
  | 0, _ => none
  | n + 1, ρ => sbnd (q ρ) fun d => match d with
    | .bl true => (match body ρ with
      | some (.nx ρ2) => whileS q body n ρ2
      | some (.ct ρ2) => whileS q body n ρ2
      | some (.bk ρ2) => some (.nx ρ2)
      | r => r)
    | .bl false => some (.nx ρ)
    | _ => none
def sWhile (m : Rho → Nat) (q : Ev) (body : Sv) : Sv := fun ρ => whileS q body (m ρ) ρ
theorem ds_while {m : Rho → Nat} {q : Ev} {fb : Sv} {body : List Stmt} (hp : PassesOwn (model X.prog X.w) X.A X.env X.xe) (hc : PT X c (tDT T K E q)) (hb : PSs X body (tDS T K E fb)) : PS X (.While c body [] pos) (tDS T K E (sWhile m q fb)) :=
  PS.imp (ps_while hp hc hb) fun D σ H ⟨c, ρ, F, fl, r, e, th⟩ => by
    refine ⟨fun n σ' H' => ∃ ρ' F', Rel T K c ρ' σ' H' F' ∧ whileS q fb n ρ' = some fl ∧ Later H H' F F', ⟨m ρ, ρ, F, r, e, .refl⟩, ?_⟩
    rintro n σ' H' ⟨ρ', F', r', e', l'⟩
    cases n with
    | zero => cases e'
    | succ n =>
      unfold whileS at e'
      refine tDT_bindS r' e' (th.later l') (fun d e1 => ?_) (fun k H1 F1 g1 e1 => ?_)
      · split at e1
        · exact ⟨_, rfl⟩
        · exact ⟨_, rfl⟩
        · cases e1
      · cases k with
        | false => rw [if_neg (by decide)]; cases e1; exact th σ' H1 F1 (l'.trans g1.later) (r'.grow g1)
        | true =>
          rw [if_pos rfl]
          refine ⟨fun σ2 H2 => ∃ ρ2 F2, Rel T K c ρ2 σ2 H2 F2 ∧ whileS q fb n ρ2 = some fl ∧ Later H H2 F F2, fun σ2 H2 h2 => ⟨n, Nat.lt_succ_self _, h2⟩, ?_⟩
          dsimp only at e1
          cases qb : fb ρ' with
          | none => rw [qb] at e1; cases e1
          | some fl1 =>
            rw [qb] at e1
            refine ⟨c, ρ', F1, fl1, r'.grow g1, qb, ?_⟩
            cases fl1 with
            | nx ρ2 => exact fun σ4 H4 F4 l4 r4 => ⟨ρ2, F4, r4, e1, (l'.trans g1.later).trans l4⟩
            | ct ρ2 => exact fun σ4 H4 F4 l4 r4 => ⟨ρ2, F4, r4, e1, (l'.trans g1.later).trans l4⟩
            | bk ρ2 => cases e1; exact fun σ4 H4 F4 l4 r4 => th σ4 H4 F4 ((l'.trans g1.later).trans l4) r4
            | rt d => cases e1; exact th
            | exc n => cases e1; exact th
end
end BD
namespace BD
open PySem L2
variable {T : Tab} {K : PySem.W.Frag}
section
variable {X : Cx} {E : XK} {a b c e l tg : Expr} {es rest : List Expr} {pos : Pos}
def sApp (i : Nat) (f : Ev) : Sv := fun ρ => match ρ[i]? with
  | some (some (.own ds)) => sbnd (f ρ) fun d => if smallL ds then some (.nx (ρ.set i (some (.own (ds ++ [d]))))) else none
  | _ => none
theorem ds_append {i : Nat} {f : Ev} {o : Expr} {apos cpos : Pos} (ho : PE X o (tVar i)) (ha : PE X e (tD T X.K E f)) (hbase : attributeBase o "append" X.env (eval o X.env) = eval o X.env := by rfl)
    (hfew : ((backTo cpos (starEach [e] X.env)).all (fun x => !x.1) && (backToKw cpos (keywordEach [] X.env)).all (fun x => x.1.isSome) && decide ([e].length + ([] : List Keyword).length + (if ([] : List Keyword).isEmpty then 0 else 1) < 30)) = true := by rfl)
    (hline : (apos.endLine == cpos.line) = true := by rfl) (hs : starEach [e] X.env = (false, eval e X.env) :: starEach [] X.env := by rfl)
    (hsw : swapsWith (.Call (.Attribute o "append" apos) [e] [] cpos) none pos.line X.env = pure false := by rfl) : PS X (.Expr (.Call (.Attribute o "append" apos) [e] [] cpos) pos) (tDS T X.K E (sApp i f)) :=
  PS.imp (ps_expr (pe_bm PySem.F.plainAttrs_list PySem.F.slot_list_append PySem.F.type_list_append mt_append ho (pa_cons ha pa_nil hs) hbase hfew hline hs) hsw) fun D σ H ⟨c, ρ, F, fl, r, e, th⟩ => by
    unfold sApp at e
    split at e
    · rename_i ds q
      obtain ⟨p, vs, h1, h2, h3, h4, h5, h6⟩ := r.own i ds q
      refine ⟨_, h1, .inl ⟨rfl, vs, SqL.of h2⟩, ?_⟩
      refine tD_bindS r e th fun d v H1 F1 g1 r1 e1 => ?_
      split at e1
      · rename_i hsm
        cases e1
        refine ⟨p, vs, v, rfl, rfl, g1.ext _ _ h2, smallL_ok h3 hsm, ?_⟩
        obtain ⟨kp, r'⟩ := (r.grow g1).change q h1 ((h3.grow g1).append (.cons r1 .nil))
        exact th σ _ F1 (g1.later.trans ⟨kp, fun _ z => z⟩) r'
      · cases e1
    · cases e
def wipeR (ρ : Rho) : List Nat → Rho
  | [] => ρ
  | v :: vs => (wipeR ρ vs).set v none
theorem Rel.wipe {c : Ent} {ρ : Rho} {σ : L2.St} {H : Hp} {F : Addr → Prop} (r : Rel T K c ρ σ H F) : ∀ vs : List Nat, Rel T K c (wipeR ρ vs) (wipe σ vs) H F
  | [] => r
  | v :: vs => (r.wipe vs).drop
theorem wipe_get (σ : L2.St) : ∀ (vs : List Nat) (j : Nat), (wipe σ vs)[j]? = if j ∈ vs then (σ[j]?).map (fun _ => none) else σ[j]?
  | [], j => by simp [L2.wipe]
  | v :: vs, j => by
    unfold L2.wipe
    by_cases hj : j = v
    · subst hj
      rw [List.getElem?_set_self']
      rw [wipe_get σ vs j]
      simp
      split
      · cases σ[j]? <;> rfl
      · cases σ[j]? <;> rfl
    · rw [get_set_ne hj, wipe_get σ vs j]
      simp [hj]
theorem wipe_but {ss vs : List Nat} {σ σ' : L2.St} (b : But ss (wipe σ vs) σ') (h : ∀ j ∈ ss, j ∈ vs) : wipe σ' vs = wipe σ vs := by
  apply List.ext_getElem?
  intro j
  rw [wipe_get, wipe_get]
  by_cases hj : j ∈ vs
  · rw [if_pos hj, if_pos hj]
    have hl : σ'.length = σ.length := by rw [b.1, wipe_length]
    by_cases hlt : j < σ.length
    · rw [List.getElem?_eq_getElem hlt, List.getElem?_eq_getElem (by omega)]; rfl
    · rw [List.getElem?_eq_none (by omega), List.getElem?_eq_none (by omega)]
  · rw [if_neg hj, if_neg hj, b.2 j fun z => hj (h j z), wipe_get, if_neg hj]
def qYes : Ev := fun _ => some (.val (.bl true))
theorem dts_nil : PTs X [] (tDT T K E qYes) := fun pins s σ H Q I ⟨c, ρ, F, out, r, e, th⟩ => pts_nil pins s σ H Q I (by cases e; exact th H F (.refl r.wf))
def compS (g : Gv) (q elt : Ev) (ρ : Rho) : List D → Option (List D)
  | [] => some []
  | d :: ds => (g d ρ).bind fun ρ1 => match q ρ1 with
    | some (.val (.bl true)) => (match elt ρ1 with
      | some (.val y) => (compS g q elt ρ ds).map (y :: ·)
      | _ => none)
    | some (.val (.bl false)) => compS g q elt ρ ds
    | _ => none
def lComp (f : EvL) (g : Gv) (q elt : Ev) (vs : List Nat) : EvL := fun ρ => lbndL (f ρ) fun ds => if smallL ds then (compS g q elt (wipeR ρ vs) ds).map .vals else none
def rm (H : Hp) (p : Addr) : Hp := fun a => if a = p then none else H a
theorem rm_self {H : Hp} {p : Addr} : rm H p p = none := if_pos rfl
theorem rm_ne {H : Hp} {p a : Addr} (h : a ≠ p) : rm H p a = H a := if_neg h
theorem rm_upd {H : Hp} {p : Addr} {o : HO} (h : H p = some o) : upd (rm H p) p o = H := by
  funext a
  by_cases ha : a = p
  · subst ha; rw [upd_same, h]
  · rw [upd_ne ha, rm_ne ha]
theorem rm_of_none {H : Hp} {p : Addr} (h : H p = none) : rm H p = H := by
  funext a
  by_cases ha : a = p
  · subst ha; rw [rm_self, h]
  · exact rm_ne ha
theorem rm_upd2 {H : Hp} {p : Addr} {o : HO} : rm (upd H p o) p = rm H p := by
  funext a
  by_cases ha : a = p
  · subst ha; rw [rm_self, rm_self]
  · rw [rm_ne ha, rm_ne ha, upd_ne ha]
theorem Grow.rm {H H' : Hp} {F F' : Addr → Prop} {p : Addr} {o : HO} (g : Grow H H' F F') (hp : H p = some o) (nf : ¬ F p) : Grow (BD.rm H p) (BD.rm H' p) F F' := by
  have nf' : ¬ F' p := fun z => by
    rcases g.new p z with z | z
    · exact nf z
    · rw [hp] at z; cases z
  refine ⟨fun a u e => ?_, g.more, fun a z => ?_, fun a z => ?_⟩
  · by_cases ha : a = p
    · subst ha; rw [rm_self] at e; cases e
    · rw [rm_ne ha] at e ⊢; exact g.ext a u e
  · rcases g.new a z with z | z
    · exact .inl z
    · by_cases ha : a = p
      · subst ha; rw [hp] at z; cases z
      · exact .inr (by rw [rm_ne ha]; exact z)
  · by_cases ha : a = p
    · subst ha; exact absurd z nf'
    · rw [rm_ne ha]; exact g.wf a z
theorem tLc_of {E2 : XK} {f : EvL} {g : Gv} {q elt : Ev} {vs ss : List Nat} {σ : L2.St} {H : Hp} {Q : VK} (hss : ∀ j ∈ ss, j ∈ vs) (h : tDF T K E (lComp f g q elt vs) σ H Q) :
    tLc (tDI T K E f) (tDG T K g ss) (tDT T K E2 q) (tD T K E2 elt) vs σ H Q := by
  obtain ⟨c, ρ, F, out, r, e, th⟩ := h
  unfold lComp lbndL at e
  split at e
  · rename_i ds qf
    dsimp only at e
    split at e
    · rename_i hsm
      cases qc : compS g q elt (wipeR ρ vs) ds with
      | none => rw [qc] at e; cases e
      | some res =>
        rw [qc] at e
        cases e
        refine ⟨c, ρ, F, _, r, qf, fun J H1 F1 g1 ⟨P, p1, pl, py⟩ p hp => ?_⟩
        have hsm := of_decide_eq_true hsm
        have rw1 := (r.grow g1).wipe vs
        have nf1 : ¬ F1 p := fun z => g1.wf p z hp
        have g0 : Grow H1 (upd H1 p (.lst [])) F1 F1 := Grow.upd g1.wf hp
        refine ⟨fun i m H' => m = ds.length - i ∧ i ≤ ds.length ∧ ∃ F' av ad rest, P H' F' ∧ Grow H1 (rm H' p) F1 F' ∧ H' p = some (.lst av) ∧ Reps T K F' H' av ad ∧ ad.length ≤ i ∧ compS g q elt (wipeR ρ vs) (ds.drop i) = some rest ∧ ad ++ rest = res,
          ⟨ds.length, by simp, Nat.zero_le _, F1, [], [], res, pl _ _ _ _ p1 g0.later, by rw [rm_upd2, rm_of_none hp]; exact .refl g1.wf, upd_same, .nil, by simp, by simpa using qc, by simp⟩, ?_⟩
        rintro i m H' ⟨rfl, hi, F', av, ad, rest, p', gw, hpp, ra, la, ec, er⟩
        have nf' : ¬ F' p := fun z => gw.wf p z rm_self
        have eH := rm_upd hpp
        have gq : Grow (rm H' p) H' F' F' := by
          have := Grow.upd (o := .lst av) gw.wf (rm_self (H := H') (p := p))
          rw [eH] at this
          exact this
        have rr := (rw1.grow gw).grow gq
        obtain ⟨y1, y2⟩ := py H' F' i p' rr.wf
        by_cases hlt : i < ds.length
        · obtain ⟨go, yl⟩ := y1 hlt
          refine .inr ⟨go, fun H2 => ∃ F' av ad rest, P H2 F' ∧ Grow H1 (rm H2 p) F1 F' ∧ H2 p = some (.lst av) ∧ Reps T K F' H2 av ad ∧ ad.length ≤ i + 1 ∧ compS g q elt (wipeR ρ vs) (ds.drop (i + 1)) = some rest ∧ ad ++ rest = res,
            fun H2 h2 => ⟨ds.length - (i + 1), by omega, rfl, hlt, h2⟩, fun x H2 y => ?_⟩
          obtain ⟨d, hd, F2, g2, rp⟩ := yl x H2 y
          rw [drop_cons hd] at ec
          unfold compS at ec
          cases qg : g d (wipeR ρ vs) with
          | none => rw [qg] at ec; cases ec
          | some ρ1 =>
            rw [qg] at ec
            dsimp only [Option.bind] at ec
            refine ⟨c, wipeR ρ vs, F2, d, ρ1, rr.grow g2, rp, qg, fun σ3 r3 b3 => ⟨wipe_but b3 hss, ?_⟩⟩
            cases qq : q ρ1 with
            | none => rw [qq] at ec; cases ec
            | some o1 =>
              rw [qq] at ec
              refine ⟨c, ρ1, F2, o1, r3, qq, ?_⟩
              cases o1 with
              | exc n => cases ec
              | val d1 =>
                cases d1 with
                | bl k =>
                  intro H3 F3 g3
                  have g23 := g2.trans g3
                  have gw3 := gw.trans (g23.rm hpp nf')
                  have h3p := g23.ext _ _ hpp
                  have ra3 := ra.grow g23
                  have p3 := pl _ _ _ _ p' g23.later
                  cases k with
                  | false =>
                    rw [if_neg (by decide)]
                    exact ⟨F3, av, ad, rest, p3, gw3, h3p, ra3, by omega, ec, er⟩
                  | true =>
                    rw [if_pos rfl]
                    dsimp only at ec
                    cases qe : elt ρ1 with
                    | none => rw [qe] at ec; cases ec
                    | some o2 =>
                      rw [qe] at ec
                      refine ⟨c, ρ1, F3, o2, r3.grow g3, qe, ?_⟩
                      cases o2 with
                      | exc n => cases ec
                      | val d2 =>
                        intro y2 H4 F4 g4 r4
                        dsimp only at ec
                        cases qr : compS g q elt (wipeR ρ vs) (ds.drop (i + 1)) with
                        | none => rw [qr] at ec; cases ec
                        | some rest' =>
                          rw [qr] at ec
                          cases ec
                          have nf3 : ¬ F3 p := fun z => gw3.wf p z rm_self
                          have gw4 := gw3.trans (g4.rm h3p nf3)
                          have h4p := g4.ext _ _ h3p
                          have ra4 := (ra3.grow g4).append (.cons r4 .nil)
                          have nf4 : ¬ F4 p := fun z => gw4.wf p z rm_self
                          have kp : Later H4 (upd H4 p (.lst (av ++ [y2]))) F4 F4 := ⟨fun a o e z => by
                            by_cases ha : a = p
                            · subst ha
                              rcases z with z | z
                              · exact absurd z nf4
                              · rw [h4p] at e; cases e; exact absurd rfl (z.1 av)
                            · rw [upd_ne ha]; exact e, fun _ z => z⟩
                          refine ⟨av, h4p, ?_, F4, av ++ [y2], ad ++ [d2], rest', pl _ _ _ _ p3 (g4.later.trans kp), by rw [rm_upd2]; exact gw4, upd_same, ra4.later kp, by simp; omega, rfl, by rw [← er]; simp⟩
                          rw [ra.length]
                          have : ad.length ≤ 1000000 := by omega
                          exact Nat.lt_of_le_of_lt this (by decide)
                | _ => cases ec
        · have hi' : i = ds.length := by omega
          subst hi'
          rw [List.drop_length] at ec
          cases ec
          rw [List.append_nil] at er
          subst er
          refine .inl ⟨y2 (Nat.le_refl _), ?_⟩
          exact th p av (rm H' p) H' F' (g1.trans gw) rm_self eH.symm ra
    · cases e
  · rename_i n qf
    cases e
    exact ⟨c, ρ, F, _, r, qf, th⟩
  · cases e
theorem df_lc {E2 : XK} {elt iter : Expr} {ifs : List Expr} {scope : Scope} {own : List (Str × Nat)} {f : EvL} {g : Gv} {q fe : Ev} {ss : List Nat} (hc : X.calm = true) (hN : X.N.Nodup) (hi : PI X tg iter (tDI T K E f)) (ok : BlkOk X.N X.env.scope scope own)
    (hg : ∀ (s : Shared) (H : Hp) (C : Addr) (cl : List (Str × Addr)) (fp : List Addr), PG (X.blk s H scope (compEnvC scope cl C X.env) fp) tg (tDG T K g ss)) (ht : ∀ (s : Shared) (H : Hp) (C : Addr) (cl : List (Str × Addr)) (fp : List Addr), PTs (X.blk s H scope (compEnvC scope cl C X.env) fp) ifs (tDT T K E2 q))
    (he : ∀ (s : Shared) (H : Hp) (C : Addr) (cl : List (Str × Addr)) (fp : List Addr), PE (X.blk s H scope (compEnvC scope cl C X.env) fp) elt (tD T K E2 fe)) (hss : ∀ j ∈ ss, j ∈ own.map (·.2)) (hs : ∀ x, foldedSetIterable iter X.env x = pure x := by intro _; rfl) :
    PE X (.ListComp elt [⟨tg, iter, ifs, 0⟩] scope pos) (tDF T K E (lComp f g q fe (own.map (·.2)))) := PE.imp (pe_lc hc hN hi ok hg ht he hs) fun σ H Q h => tLc_of hss h
theorem ds_setLc {E2 : XK} {i : Nat} {y : Str} {py : Pos} {elt iter : Expr} {ifs : List Expr} {scope : Scope} {own : List (Str × Nat)} {spos : Pos} {f : EvL} {g : Gv} {q fe : Ev} {ss : List Nat} (hc : X.calm = true) (hN : X.N.Nodup) (hy : X.N[i]? = some y) (hyl : X.env.scope.names.lookup y = some .local)
    (hsw : swapsWith (.ListComp elt [⟨tg, iter, ifs, 0⟩] scope pos) (some (.Name y py)) spos.line X.env = pure true) (hi : PI X tg iter (tDI T K E f)) (ok : BlkOk X.N X.env.scope scope own)
    (hg : ∀ (s : Shared) (H : Hp) (C : Addr) (cl : List (Str × Addr)) (fp : List Addr), PG (X.blk s H scope (compEnvC scope cl C X.env) fp) tg (tDG T K g ss)) (ht : ∀ (s : Shared) (H : Hp) (C : Addr) (cl : List (Str × Addr)) (fp : List Addr), PTs (X.blk s H scope (compEnvC scope cl C X.env) fp) ifs (tDT T K E2 q))
    (he : ∀ (s : Shared) (H : Hp) (C : Addr) (cl : List (Str × Addr)) (fp : List Addr), PE (X.blk s H scope (compEnvC scope cl C X.env) fp) elt (tD T K E2 fe)) (hss : ∀ j ∈ ss, j ∈ own.map (·.2)) (hs : ∀ x, foldedSetIterable iter X.env x = pure x := by intro _; rfl) :
    PS X (.Assign [.Name y py] (.ListComp elt [⟨tg, iter, ifs, 0⟩] scope pos) spos) (tDS T K E (sOwn (lComp f g q fe (own.map (·.2))) i)) := PS.imp (ps_setLc hc hN hy hyl hsw hi ok hg ht he hs) fun D σ H ⟨c, ρ, F, fl, r, e, th⟩ => by
  refine tLc_of hss ?_
  unfold sOwn lbndS at e
  split at e
  · rename_i ds q
    cases e
    exact ⟨c, ρ, F, _, r, q, fun p vs H1 H' F' g hp eH rp => th _ H' F' (by subst eH; exact g.later.trans (Grow.upd g.wf hp).later) (rel_own r g hp eH rp i)⟩
  · rename_i n q
    cases e
    exact ⟨c, ρ, F, _, r, q, fun H' z => th H' (r.ext.trans z)⟩
  · cases e
end
def fnSem (n m : Nat) (body : Sv) : List D → Option Out := fun ds => if ds.length = n then (match body (ds.map (fun d => some (.sh d)) ++ List.replicate m none) with
  | some (.rt d) => some (.val d)
  | some (.nx _) => some (.val .non)
  | some (.exc k) => some (.exc k)
  | _ => none) else none
theorem fnSem_len {n m : Nat} {body : Sv} {ds : List D} {o : Out} (h : fnSem n m body ds = some o) : ds.length = n := by
  unfold fnSem at h
  split at h
  · assumption
  · cases h
theorem rel_start {N : List Str} {H : Hp} {F : Addr → Prop} {vs : List V} {ds : List D} {n : Nat} (wf : ∀ a, F a → H a ≠ none) (r : Reps T K F H vs ds) (hl : ds.length = n) (hN : n ≤ N.length) :
    Rel T K ⟨H, F⟩ (ds.map (fun d => some (.sh d)) ++ List.replicate (N.length - n) none) (L2.start N vs) H F where
  len := by unfold L2.start; simp [r.length, hl]
  sh := fun i d e => by
    have hi : i < ds.length := by
      by_cases hi : i < ds.length
      · exact hi
      · rw [List.getElem?_append_right (by simpa using hi), List.getElem?_replicate] at e
        split at e <;> cases e
    rw [List.getElem?_append_left (by simpa using hi), List.getElem?_map] at e
    cases q : ds[i]? with
    | none => rw [q] at e; cases e
    | some d' =>
      rw [q] at e
      cases e
      obtain ⟨v, h1, h2⟩ := r.get q
      refine ⟨v, ?_, h2⟩
      unfold L2.start
      rw [List.getElem?_append_left (by simp [r.length]; exact hi), List.getElem?_map, h1]
      rfl
  own := fun i d e => by
    by_cases hi : i < ds.length
    · rw [List.getElem?_append_left (by simpa using hi), List.getElem?_map] at e
      cases q : ds[i]? with
      | none => rw [q] at e; cases e
      | some d' => rw [q] at e; cases e
    · rw [List.getElem?_append_right (by simpa using hi), List.getElem?_replicate] at e
      split at e <;> cases e
  mp := fun i _ d e => by
    by_cases hi : i < ds.length
    · rw [List.getElem?_append_left (by simpa using hi), List.getElem?_map] at e
      cases q : ds[i]? with
      | none => rw [q] at e; cases e
      | some d' => rw [q] at e; cases e
    · rw [List.getElem?_append_right (by simpa using hi), List.getElem?_replicate] at e
      split at e <;> cases e
  ext := .refl H
  f0 := fun _ h => h
  f1 := fun _ h => .inl h
  wf := wf
theorem sp_body {N : List Str} {n : Nat} {fb : Sv} {vs : List V} {H : Hp} {Q : VK} {E : XK} (hN : n ≤ N.length) (h : spD T K (fnSem n (N.length - n) fb) vs H Q E) : tDS T K E fb { nx := fun _ H' => Q .non H', rt := Q } (L2.start N vs) H := by
  obtain ⟨F, ds, out, wf, r, e, th⟩ := h
  have hl := fnSem_len e
  have rl := rel_start (N := N) wf r hl hN
  unfold fnSem at e
  rw [if_pos hl] at e
  split at e
  · rename_i d q
    cases e
    exact ⟨_, _, F, _, rl, q, fun v H' F' g rp => th v H' F' g rp⟩
  · rename_i ρ q
    cases e
    exact ⟨_, _, F, _, rl, q, fun σ' H' F' l r' => th _ H' F' r'.growE .non⟩
  · rename_i k q
    cases e
    exact ⟨_, _, F, _, rl, q, fun H' x => th H' x⟩
  · cases e
end BD
namespace BD
open PySem L2
variable {T : Tab} {K : PySem.W.Frag}
theorem sp_script {g : List D → Option Out} {H : Hp} {a : Addr} {ns : List Int} (hS : SqL K H a (ns.map V.int)) (hg : g [.lst (ns.map D.int)] = some (.val (.bl true))) : spD T K g [.ref a] H (fun v _ => v = .bl true) fun _ _ _ => False := by
  rcases hS with h | h
  · refine ⟨fun b => b = a, [.lst (ns.map D.int)], _, fun b e => ?_, .cons (.lst (.inl ⟨rfl, h⟩) (Reps.ints ns)) .nil, hg, fun v H' F' _ r => by cases r; rfl⟩
    subst e
    rcases h with h | ⟨o, h⟩ <;> rw [h] <;> simp
  · exact ⟨fun _ => False, [.lst (ns.map D.int)], _, fun b e => e.elim, .cons (.lst (.inr h) (Reps.ints ns)) .nil, hg, fun v H' F' _ r => by cases r; rfl⟩
theorem wt_mem {ns : List Int} : ∀ {i : Int}, i ∈ ns → PySem.W.WData.weight (.int i) ≤ PySem.W.WData.weightAll (ns.map .int) := by
  induction ns with
  | nil => intro i h; cases h
  | cons n ns ih =>
    intro i h
    simp only [List.map_cons, PySem.W.WData.weightAll]
    rcases List.mem_cons.mp h with rfl | h
    · omega
    · have := ih h; omega
theorem bits_of {ns : List Int} (h : PySem.W.WData.layableAll [.list (ns.map .int)] = true) : ∀ i ∈ ns, i.natAbs.log2 < 1048576 := fun i hi => by
  simp only [PySem.W.WData.layableAll, List.all_cons, List.all_nil, Bool.and_true, PySem.W.WData.layable, Bool.and_eq_true, decide_eq_true_eq] at h
  have hw : PySem.W.WData.weightAll (ns.map .int) ≤ 2 ^ 20 := by simpa only [PySem.W.WData.weight] using h.2
  have := wt_mem hi
  have e : PySem.W.WData.weight (.int i) = if i == 0 then 0 else i.natAbs.log2 + 1 := by simp only [PySem.W.WData.weight]
  rw [e] at this
  by_cases z : i = 0
  · subst z; decide
  · rw [if_neg (by simpa using z)] at this
    have : (2 : Nat) ^ 20 = 1048576 := by decide
    omega
def LawT (n : Nat) (g : List D → Option Out) : Prop := ∀ ns : List Int, ns.length ≤ n → (∀ i ∈ ns, i.natAbs.log2 < 1048576) → g [.lst (ns.map D.int)] = some (.val (.bl true))
open PySem.W PyProof.Rows Att in
theorem walk_D {l : PySem.W.OpenLaw} {n k : Nat} {q : Program} {loose : List Str} {XP : (Str → Option Value) → Heap → Prop} {YP : World → Heap → Prop} {d : DefRec} {K : Params → PySem.W.Frag} {CX : CXT} {x : Str} {g : List D → Option Out}
    (hn : l.most = some n) (hn2 : n ≤ sizeLine) (hdf : d.params.defaults = []) (hr : Room k callerA) (hY : ∀ (w : World) (h : Heap), YP w h → (K w.params).In h) (hL : LawT n g)
    (hCX : ∀ (H : Hp) (s : Shared) (e : Value) (s' : Shared), CX [] H s (fun _ _ _ => False) e s' → False)
    (F : ∀ (w : World) (mg : Str → Option Value) (fa : Addr) (h : Heap), (K w.params).In h → h.Ns mainGlobals mg → mg d.name = some (.ref fa) →
      ∃ (fd : FuncData) (T : Tab), (∀ (s : Shared) (u : Value), BindsTo s fd ⟨[u], []⟩ [(x, u)]) ∧ ∀ base : Heap, (K w.params).In base → base.Ns mainGlobals mg → FnOk l.prog w (K w.params) mg base CX k fa fd [x] (spD T (K w.params) g)) :
    PySem.W.WalkO q loose XP YP l.row.toRowW d [] (fun f vs => PySem.call f vs) := by
  intro w s₀ s₁ mg mb G Y fa o pm cd doc dV kV ho hd hcd hD hmg hg args vals as hpre hlay hrd hwl hlo
  obtain rfl : dV = .none := Dflts.none hD hdf
  obtain rfl : kV = .none := Dflts.noKw hD
  obtain ⟨a, vs, ns, rfl, rfl, hobj, hints, hlen⟩ := script_of hn hpre hwl
  have KX := hY w _ Y
  obtain ⟨fd, T, hb, hF⟩ := F w mg fa _ KX G.T.g hmg
  have hc := law_call KX G.T.g G.T.b G.T.builtins G.T.nolimit hg hobj hints (Nat.le_trans hlen hn2) hr hF hb (fun H hO hS => sp_script hS (hL ns hlen (bits_of hlay))) fun H e s' => hCX H s₁ e s'
  refine enter_call (codeAny_mono hc fun r s' hq => ?_)
  obtain ⟨rfl, h2, h3, h4⟩ := hq
  exact ⟨.inl ⟨.bool true, .bool true, [], rfl, fun _ => rfl, .bool true, post_true l _, fun _ => ⟨List.Pairwise.nil, fun _ hm => (nomatch hm)⟩⟩, h2, h3, h4⟩
end BD
namespace BD
open PySem L2
variable {T : Tab} {K : PySem.W.Frag}
def Cl (P : Program) (w : World) (K : PySem.W.Frag) (mg : Str → Option Value) (base : Heap) (CX : CXT) (T : Tab) (x : Str) (ps : List Str) (k : Nat) (g : List D → Option Out) : Prop :=
  ∃ f fd, FnOk P w K mg base CX k f fd ps (spD T K g) ∧ mg x = some (.ref f) ∧ PySem.W.keepIn K (.ref f) = true ∧ Binds K fd ps []
def fuelR : Rho → Nat
  | [] => 2
  | some (.sh (.int i)) :: r => i.natAbs + fuelR r
  | _ :: r => fuelR r
section
variable {X : Cx} {E : XK} {a b c e l tg : Expr} {es rest : List Expr} {pos : Pos}
theorem de_c {CX : CXT} {k : Nat} {ps : List Str} {g : List D → Option Out} {fs : EvL} {x : Str} {p : Pos} (C : Cl X.prog X.w X.K X.mg X.base CX T x ps k g) (hr : Room k X.A) (hx : Passes CX X E) (hg : Gl X x) (ha : PA X (e :: es) (tDA T X.K E fs)) (hdb : (x == ("__debug__" : Str)) = false := by decide)
    (he : starEach (e :: es) X.env = (false, eval e X.env) :: starEach es X.env := by rfl) (hpl : (backTo pos (starEach es X.env)).any (·.1) = false := by rfl) : PE X (.Call (.Name x p) (e :: es) [] pos) (tD T X.K E (eCall g fs)) := by
  obtain ⟨f, fd, G, hm, hk, hb⟩ := C
  exact de_call G hr hg hm hk hb hx ha hdb he hpl
theorem vr (i : Nat) {x : Str} {pos : Pos} (hN : X.N[i]? = some x := by rfl) (hv : Vis X.env.scope x := by first | exact Or.inl rfl | exact Or.inr (Or.inl rfl) | exact Or.inr (Or.inr rfl)) (hd : (x == ("__debug__" : Str)) = false := by decide)
    (hcd : (x == ("__classdict__" : Str)) = false := by decide) : PE X (.Name x pos) (tD T K E (eVar i)) := de_var (pe_var hN hv hd hcd)
end
end BD
namespace BD
open PySem L2
structure JE (X : Cx) (T : Tab) (E : XK) (e : Expr) (f : Ev) : Prop where h : PE X e (tD T X.K E f)
structure JF (X : Cx) (T : Tab) (E : XK) (e : Expr) (f : EvL) : Prop where h : PE X e (tDF T X.K E f)
structure JT (X : Cx) (T : Tab) (E : XK) (e : Expr) (f : Ev) : Prop where h : PT X e (tDT T X.K E f)
structure JW (X : Cx) (T : Tab) (E : XK) (e : Expr) (f : Ev) : Prop where h : PW X e (tDT T X.K E f)
structure JTs (X : Cx) (T : Tab) (E : XK) (es : List Expr) (f : Ev) : Prop where h : PTs X es (tDT T X.K E f)
structure JA (X : Cx) (T : Tab) (E : XK) (es : List Expr) (f : EvL) : Prop where h : PA X es (tDA T X.K E f)
structure JO (X : Cx) (T : Tab) (E : XK) (e : Option Expr) (f : EvO) : Prop where h : PO X e (tDO T X.K f)
structure JI (X : Cx) (T : Tab) (E : XK) (tg e : Expr) (f : EvL) : Prop where h : PI X tg e (tDI T X.K E f)
structure JG (X : Cx) (T : Tab) (e : Expr) (g : Gv) (ss : List Nat) : Prop where h : PG X e (tDG T X.K g ss)
structure JGs (X : Cx) (T : Tab) (e : List Expr) (g : Gvs) (ss : List Nat) : Prop where h : PGs X e (tDGs T X.K g ss)
structure JS (X : Cx) (T : Tab) (E : XK) (st : Stmt) (f : Sv) : Prop where h : PS X st (tDS T X.K E f)
structure JB (X : Cx) (T : Tab) (E : XK) (st : List Stmt) (f : Sv) : Prop where h : PSs X st (tDS T X.K E f)
structure JBin (X : Cx) (T : Tab) (op : Operator) (g : D → D → Option D) : Prop where h : OpR X (binaryOp op) (rD T X.K g)
structure JCmp (X : Cx) (T : Tab) (op : CmpOp) (g : D → D → Option D) : Prop where h : OpR X (compareOp op) (rD T X.K g)
structure JCall (X : Cx) (T : Tab) (id : String) (g : List D → Option D) : Prop where h : CallR X (.builtin id) (rB T X.K g)
section
variable {X : Cx} {T : Tab} {E E2 : XK} {a b c e l tg elt iter o ix : Expr} {es rest ifs : List Expr} {pos pos' p p2 apos cpos spos tpos : Pos} {fa fb fc f g q fe fi : Ev} {fs gs : EvL} {st : Stmt} {sts sa sb body : List Stmt} {F G : Sv}
theorem jp_add : JBin X T .Add (i2 addI) := ⟨od_add⟩
theorem jp_sub : JBin X T .Sub (i2 subI) := ⟨od_sub⟩
theorem jp_mul : JBin X T .Mult (i2 mulI) := ⟨od_mul⟩
theorem jp_div : JBin X T .FloorDiv (i2 divI) := ⟨od_div⟩
theorem jp_mod : JBin X T .Mod (i2 modI) := ⟨od_mod⟩
theorem jp_pow : JBin X T .Pow (i2 powI) := ⟨od_pow⟩
theorem jp_lt : JCmp X T .Lt (i2 ltI) := ⟨od_lt⟩
theorem jp_le : JCmp X T .LtE (i2 leI) := ⟨od_le⟩
theorem jp_gt : JCmp X T .Gt (i2 gtI) := ⟨od_gt⟩
theorem jp_ge : JCmp X T .GtE (i2 geI) := ⟨od_ge⟩
theorem jp_eq (hu : X.A.units + 64 < cLine) : JCmp X T .Eq eqD := ⟨od_eq hu⟩
theorem jp_ne (hu : X.A.units + 64 < cLine) : JCmp X T .NotEq neD := ⟨od_ne hu⟩
theorem jc_len : JCall X T "len" lenB := ⟨cb_len⟩
theorem jc_abs : JCall X T "abs" absB := ⟨cb_abs⟩
theorem jc_sum (hc : X.calm = true) : JCall X T "sum" sumB := ⟨cb_sum hc⟩
theorem jc_all (hc : X.calm = true) : JCall X T "all" allB := ⟨cb_all hc⟩
theorem jv (i : Nat) {x : Str} (hN : X.N[i]? = some x := by kernel_rfl) (hv : Vis X.env.scope x := by exact Or.inl (by kernel_rfl)) (hd : (x == ("__debug__" : Str)) = false := by kernel_rfl)
    (hcd : (x == ("__classdict__" : Str)) = false := by kernel_rfl) : JE X T E (.Name x pos) (eVar i) := ⟨vr i hN hv hd hcd⟩
theorem je_int {i j} : JE X T E (.Constant (.int i) j pos) (eC (.int i)) := ⟨de_int⟩
theorem je_bl {i j} : JE X T E (.Constant (.bool i) j pos) (eC (.bl i)) := ⟨de_bl⟩
theorem ja_nil : JA X T E [] aNil := ⟨da_nil⟩
theorem ja_cons (ha : JE X T E e f) (hr : JA X T E es fs) (hs : starEach (e :: es) X.env = (false, eval e X.env) :: starEach es X.env := by kernel_rfl) : JA X T E (e :: es) (aCons f fs) := ⟨da_cons ha.h hr.h hs⟩
theorem je_tup {x1} (h : JA X T E es fs) : JE X T E (.Tuple es x1 pos) (eTup fs) := ⟨de_tup h.h⟩
theorem je_fr (h : JF X T E e fs) : JE X T E e (eFr fs) := ⟨de_fr h.h⟩
theorem jf_lst (h : JA X T E es fs) : JF X T E (.List es pos) (lLst fs) := ⟨df_lst h.h⟩
theorem je_op {op : Operator} {gg : D → D → Option D} (ho : JBin X T op gg) (ha : JE X T E a fa) (hb : JE X T E b fb) : JE X T E (.BinOp a op b pos) (eOp gg fa fb) := ⟨de_op ho.h ha.h hb.h⟩
theorem je_cmp {op : CmpOp} {gg : D → D → Option D} (ho : JCmp X T op gg) (ha : JE X T E a fa) (hb : JE X T E b fb) (hm : behindInMarks op b = false) : JE X T E (.Compare a [op] [b] pos) (eOp gg fa fb) := ⟨de_cmp ho.h ha.h hb.h hm⟩
theorem jt_cmp {op : CmpOp} {gg : D → D → Option D} (ho : JCmp X T op gg) (ha : JE X T E a fa) (hb : JE X T E b fb) (hm : behindInMarks op b = false) : JT X T E (.Compare a [op] [b] pos) (eOp gg fa fb) := ⟨dt_cmp ho.h ha.h hb.h hm⟩
theorem je_chain {op op' : CmpOp} {gg gg' : D → D → Option D} (ho : JCmp X T op gg) (ho' : JCmp X T op' gg') (ha : JE X T E a fa) (hb : JE X T E b fb) (hc : JE X T E c fc) (hm : lastMarks [op, op'] [b, c] = false := by kernel_rfl) : JE X T E (.Compare a [op, op'] [b, c] pos) (eChain gg gg' fa fb fc) := ⟨de_chain ho.h ho'.h ha.h hb.h hc.h hm⟩
theorem je_neg (h : JE X T E a f) : JE X T E (.UnaryOp .USub a pos) (eNeg f) := ⟨de_neg h.h⟩
theorem je_not (h : JE X T E a f) : JE X T E (.UnaryOp .Not a pos) (qNot f) := ⟨de_not h.h⟩
theorem jt_not (h : JT X T E a f) : JT X T E (.UnaryOp .Not a pos) (qNot f) := ⟨dt_not h.h⟩
theorem jt_val (h : JE X T E a f) (he : ∀ whole, isTrue a X.env whole = (do let v ← whole; standAt a.pos; holding [v] (truthy v)) := by intro _; kernel_rfl) : JT X T E a (qV f) := ⟨dt_val h.h he⟩
theorem jw_or1 (h : JT X T E a f) : JW X T E (.BoolOp .Or [a] pos) f := ⟨dw_or1 h.h⟩
theorem jw_or (ha : JT X T E a f) (hb : JW X T E (.BoolOp .Or (b :: rest) pos) g) : JW X T E (.BoolOp .Or (a :: b :: rest) pos) (qOr f g) := ⟨dw_or ha.h hb.h⟩
theorem JW.pt (h : JW X T E a f) : JT X T E a f := ⟨PW.pt h.h⟩
theorem je_one {op} (h : JE X T E a f) : JE X T E (.BoolOp op [a] pos) f := ⟨de_one h.h⟩
theorem je_and (ha : JE X T E a f) (hb : JE X T E (.BoolOp .And (b :: rest) pos) g) : JE X T E (.BoolOp .And (a :: b :: rest) pos) (qAnd f g) := ⟨de_and ha.h hb.h⟩
theorem je_if (hc : JT X T E c q) (ha : JE X T E a f) (hb : JE X T E b g) : JE X T E (.IfExp c a b pos) (eIf q f g) := ⟨de_if hc.h ha.h hb.h⟩
theorem je_c {CX : CXT} {k : Nat} {ps : List Str} {m : List D → Option Out} {x : Str} (C : Cl X.prog X.w X.K X.mg X.base CX T x ps k m) (hr : Room k X.A) (hx : Passes CX X E) (hg : X.env.kindOf x = some .globalImplicit) (ha : JA X T E (e :: es) fs) (hdb : (x == ("__debug__" : Str)) = false := by kernel_rfl)
    (he : starEach (e :: es) X.env = (false, eval e X.env) :: starEach es X.env := by kernel_rfl) (hpl : (backTo pos (starEach es X.env)).any (·.1) = false := by kernel_rfl) : JE X T E (.Call (.Name x p) (e :: es) [] pos) (eCall m fs) := ⟨de_c C hr hx hg ha.h hdb he hpl⟩
theorem je_callB {id : String} {m : List D → Option D} {x : Str} (hc : JCall X T id m) (hg : X.env.kindOf x = some .globalImplicit) (hm : X.mg x = none) (hv : bootBuiltins x = some (.builtin id)) (ha : JA X T E (e :: es) fs) (hn : x ≠ "__name__" := by decide) (hdb : (x == ("__debug__" : Str)) = false := by kernel_rfl)
    (he : starEach (e :: es) X.env = (false, eval e X.env) :: starEach es X.env := by kernel_rfl) (hpl : (backTo pos (starEach es X.env)).any (·.1) = false := by kernel_rfl) : JE X T E (.Call (.Name x p) (e :: es) [] pos) (eB m fs) := ⟨de_callB hc.h hg hm hv ha.h hn hdb he hpl⟩
theorem je_isi {cn : String} {x : Str} (ha : JE X T E a f) (hg : X.env.kindOf "isinstance" = some .globalImplicit) (hm : X.mg "isinstance" = none) (hgc : X.env.kindOf x = some .globalImplicit) (hmc : X.mg x = none) (hvc : bootBuiltins x = some (.type cn)) (hnc : x ≠ "__name__" := by decide) (hdc : (x == ("__debug__" : Str)) = false := by kernel_rfl)
    (he : starEach [a, .Name x p2] X.env = (false, eval a X.env) :: starEach [.Name x p2] X.env := by kernel_rfl) (hpl : (backTo pos (starEach [.Name x p2] X.env)).any (·.1) = false := by kernel_rfl) : JE X T E (.Call (.Name "isinstance" p) [a, .Name x p2] [] pos) (eIsi cn f) := ⟨de_isi ha.h hg hm hgc hmc hvc hnc hdc he hpl⟩
theorem je_ix (ha : JE X T E a fa) (hb : JE X T E b fb) (hs : PlainIx b := by intro _ _; kernel_rfl) : JE X T E (.Subscript a b pos) (eOp ixD fa fb) := ⟨de_ix ha.h hb.h hs⟩
theorem jo_none : JO X T E none oNone := ⟨do_none⟩
theorem jo_some (h : JE X T E e f) : JO X T E (some e) (oSome f) := ⟨do_some h.h⟩
theorem jf_slice {lo hi : EvO} {elo ehi : Option Expr} (he : JE X T E e f) (hl : JO X T E elo lo) (hh : JO X T E ehi hi) : JF X T E (.Subscript e (.Slice elo ehi none p2) pos) (lSlice f lo hi) := ⟨df_slice he.h hl.h hh.h⟩
theorem jf_cat (ha : JE X T E a fa) (hb : JE X T E b fb) : JF X T E (.BinOp a .Add b pos) (lCat fa fb) := ⟨df_cat ha.h hb.h⟩
theorem jb_nil : JB X T E [] sNext := ⟨ds_nil⟩
theorem jb_cons (h1 : JS X T E st F) (h2 : JB X T E sts G) : JB X T E (st :: sts) (sSeq F G) := ⟨ds_cons h1.h h2.h⟩
theorem jb_one (h1 : JS X T E st F) : JB X T E [st] F := ⟨ds_one h1.h⟩
theorem jb_frz {i : Nat} (h : JB X T E sts G) : JB X T E sts (sFrz i G) := ⟨ds_frz h.h⟩
theorem js_ret (h : JE X T E e f) : JS X T E (.Return (some e) pos) (sRet f) := ⟨ds_ret h.h⟩
theorem js_if (hc : JT X T E c q) (ha : JB X T E sa F) (hb : JB X T E sb G) : JS X T E (.If c sa sb pos) (sIf q F G) := ⟨ds_if hc.h ha.h hb.h⟩
theorem jg_name {i : Nat} {x : Str} (hN : X.N.Nodup) (hi : X.N[i]? = some x) (hx : Loc X.env.scope x) (hf : X.fn x = true ∨ X.env.scope.names.lookup x = some .local := by exact .inl (by kernel_rfl)) : JG X T (.Name x pos) (gNm i) [i] := ⟨dg_name hN hi hx hf⟩
theorem jgs_nil : JGs X T [] gsNil [] := ⟨dgs_nil⟩
theorem jgs_cons {gg : Gv} {h : Gvs} {ss ts : List Nat} (h1 : JG X T e gg ss) (h2 : JGs X T es h ts) (hs : (assignEach (e :: es) X.env).map (·.2) = assign e X.env :: (assignEach es X.env).map (·.2) := by kernel_rfl) : JGs X T (e :: es) (gsCons gg h) (ss ++ ts) := ⟨dgs_cons h1.h h2.h hs⟩
theorem jg_tup {kk : Nat} {h : Gvs} {n : Nat} {ss : List Nat} (hc : X.calm = true) (hh : JGs X T es h ss) (hl : ∀ ds ρ ρ', h ds ρ = some ρ' → ds.length = n) (hn : (assignEach es X.env).length = n := by kernel_rfl) (hst : (assignEach es X.env).findIdx? (·.1) = none := by kernel_rfl) : JG X T (.Tuple es kk pos) (gTp h) ss := ⟨dg_tup hc hh.h hl hn hst⟩
theorem js_asg {gg : Gv} {ss : List Nat} (he : JE X T E e f) (hg : JG X T tg gg ss) (hs : swapsWithSole [tg] e pos.line X.env = pure false := by kernel_rfl) (hw : swappedStores [tg] e X.env = pure none := by kernel_rfl) (h1 : (assignEach [tg] X.env).map (·.2) = [assign tg X.env] := by kernel_rfl) : JS X T E (.Assign [tg] e pos) (sAsg f gg) := ⟨ds_asg he.h hg.h hs hw h1⟩
theorem js_set {i : Nat} {x : Str} (hN : X.N.Nodup) (hi : X.N[i]? = some x) (hx : Loc X.env.scope x) (he : JE X T E e f) (hs : swapsWith e (some (.Name x pos')) pos.line X.env = pure false := by kernel_rfl)
    (hf : X.fn x = true ∨ X.env.scope.names.lookup x = some .local := by exact .inl (by kernel_rfl)) : JS X T E (.Assign [.Name x pos'] e pos) (sAsg f (gNm i)) := ⟨ds_set hN hi hx he.h hs hf⟩
theorem js_own {i : Nat} {x : Str} (hN : X.N.Nodup) (hi : X.N[i]? = some x) (hx : Loc X.env.scope x) (he : JF X T E e fs) (hs : swapsWith e (some (.Name x pos')) pos.line X.env = pure false := by kernel_rfl)
    (hf : X.fn x = true ∨ X.env.scope.names.lookup x = some .local := by exact .inl (by kernel_rfl)) : JS X T E (.Assign [.Name x pos'] e pos) (sOwn fs i) := ⟨ds_own hN hi hx he.h hs hf⟩
theorem js_par {i j : Nat} {x y : Str} {px py pt : Pos} {kt k2 pt2} (hc : X.calm = true) (hN : X.N.Nodup) (hi : X.N[i]? = some x) (hj : X.N[j]? = some y) (hij : i ≠ j) (hx : X.env.scope.names.lookup x = some .local) (hy : X.env.scope.names.lookup y = some .local)
    (ha : JE X T E a fa) (hb : JE X T E b fb) (hw : swappedStores [.Tuple [.Name x px, .Name y py] kt pt] (.Tuple [a, b] k2 pt2) X.env = pure (some [x, y]) := by kernel_rfl)
    (hs1 : starEach [a, b] X.env = (false, eval a X.env) :: starEach [b] X.env := by kernel_rfl) (hs2 : starEach [b] X.env = (false, eval b X.env) :: starEach [] X.env := by kernel_rfl)
    (hs : swapsWithSole [.Tuple [.Name x px, .Name y py] kt pt] (.Tuple [a, b] k2 pt2) pos.line X.env = pure false := by kernel_rfl) : JS X T E (.Assign [.Tuple [.Name x px, .Name y py] kt pt] (.Tuple [a, b] k2 pt2) pos) (sPar i j fa fb) := ⟨ds_par hc hN hi hj hij hx hy ha.h hb.h hw hs1 hs2 hs⟩
theorem ji_list (h : JE X T E l f) : JI X T E tg l (wSeq f) := ⟨di_list h.h⟩
theorem ji_range1 (hg : X.env.kindOf "range" = some .globalImplicit) (hm : X.mg "range" = none) (ha : JA X T E [a] fs) (hs : starEach [a] X.env = [(false, eval a X.env)] := by kernel_rfl) : JI X T E tg (.Call (.Name "range" p) [a] [] pos) (wRng1 fs) := ⟨di_range1 hg hm ha.h hs⟩
theorem ji_range2 (hg : X.env.kindOf "range" = some .globalImplicit) (hm : X.mg "range" = none) (ha : JA X T E [a, b] fs) (hs : starEach [a, b] X.env = [(false, eval a X.env), (false, eval b X.env)] := by kernel_rfl) (hs2 : starEach [b] X.env = [(false, eval b X.env)] := by kernel_rfl) : JI X T E tg (.Call (.Name "range" p) [a, b] [] pos) (wRng2 fs) := ⟨di_range2 hg hm ha.h hs hs2⟩
theorem ji_zip {elts : List Expr} {kk : Nat} (hg : X.env.kindOf "zip" = some .globalImplicit) (hm : X.mg "zip" = none) (ha : JA X T E [a, b] fs) (hs : starEach [a, b] X.env = (false, eval a X.env) :: starEach [b] X.env := by kernel_rfl) (hpl : (backTo pos (starEach [b] X.env)).any (·.1) = false := by kernel_rfl) : JI X T E (.Tuple elts kk tpos) (.Call (.Name "zip" p) [a, b] [] pos) (wZip fs) := ⟨di_zip hg hm ha.h hs hpl⟩
theorem js_for {gg : Gv} {ss : List Nat} (hp : PassesOwn (model X.prog X.w) X.A X.env X.xe) (hc : X.calm = true) (hi : JI X T E tg l fs) (hg : JG X T tg gg ss) (hb : JB X T E body F) (hs : ∀ x, foldedSetIterable l X.env x = pure x := by intro _; kernel_rfl) : JS X T E (.For tg l body [] pos) (sFor fs gg F) := ⟨ds_for hp hc hi.h hg.h hb.h hs⟩
theorem js_while {m : Rho → Nat} (hp : PassesOwn (model X.prog X.w) X.A X.env X.xe) (hc : JT X T E c q) (hb : JB X T E body F) : JS X T E (.While c body [] pos) (sWhile m q F) := ⟨ds_while hp hc.h hb.h⟩
theorem js_append {i : Nat} {x : Str} (hN : X.N[i]? = some x) (hv : Vis X.env.scope x) (ha : JE X T E e f) (hd : (x == ("__debug__" : Str)) = false := by kernel_rfl) (hcd : (x == ("__classdict__" : Str)) = false := by kernel_rfl) (hbase : attributeBase (.Name x pos') "append" X.env (eval (.Name x pos') X.env) = eval (.Name x pos') X.env := by kernel_rfl)
    (hfew : ((backTo cpos (starEach [e] X.env)).all (fun x => !x.1) && (backToKw cpos (keywordEach [] X.env)).all (fun x => x.1.isSome) && decide ([e].length + ([] : List Keyword).length + (if ([] : List Keyword).isEmpty then 0 else 1) < 30)) = true := by kernel_rfl)
    (hline : (apos.endLine == cpos.line) = true := by kernel_rfl) (hs : starEach [e] X.env = (false, eval e X.env) :: starEach [] X.env := by kernel_rfl)
    (hsw : swapsWith (.Call (.Attribute (.Name x pos') "append" apos) [e] [] cpos) none pos.line X.env = pure false := by kernel_rfl) : JS X T E (.Expr (.Call (.Attribute (.Name x pos') "append" apos) [e] [] cpos) pos) (sApp i f) := ⟨ds_append (pe_var hN hv hd hcd) ha.h hbase hfew hline hs hsw⟩
theorem jts_nil : JTs X T E [] qYes := ⟨dts_nil⟩
theorem jf_lc {scope : Scope} {own : List (Str × Nat)} {gg : Gv} {ss : List Nat} (hc : X.calm = true) (hN : X.N.Nodup) (hi : JI X T E tg iter fs) (ok : BlkOk X.N X.env.scope scope own)
    (hg : ∀ (s : Shared) (H : Hp) (C : Addr) (cl : List (Str × Addr)) (fp : List Addr), JG (X.blk s H scope (compEnvC scope cl C X.env) fp) T tg gg ss) (ht : ∀ (s : Shared) (H : Hp) (C : Addr) (cl : List (Str × Addr)) (fp : List Addr), JTs (X.blk s H scope (compEnvC scope cl C X.env) fp) T E0 ifs q)
    (he : ∀ (s : Shared) (H : Hp) (C : Addr) (cl : List (Str × Addr)) (fp : List Addr), JE (X.blk s H scope (compEnvC scope cl C X.env) fp) T E0 elt fe) (hss : ∀ j ∈ ss, j ∈ own.map (·.2)) (hs : ∀ x, foldedSetIterable iter X.env x = pure x := by intro _; kernel_rfl) :
    JF X T E (.ListComp elt [⟨tg, iter, ifs, 0⟩] scope pos) (lComp fs gg q fe (own.map (·.2))) := ⟨df_lc hc hN hi.h ok (fun s H C cl fp => (hg s H C cl fp).h) (fun s H C cl fp => (ht s H C cl fp).h) (fun s H C cl fp => (he s H C cl fp).h) hss hs⟩
theorem js_setLc {i : Nat} {y : Str} {py : Pos} {scope : Scope} {own : List (Str × Nat)} {gg : Gv} {ss : List Nat} (hc : X.calm = true) (hN : X.N.Nodup) (hy : X.N[i]? = some y) (hyl : X.env.scope.names.lookup y = some .local)
    (hsw : swapsWith (.ListComp elt [⟨tg, iter, ifs, 0⟩] scope pos) (some (.Name y py)) spos.line X.env = pure true) (hi : JI X T E tg iter fs) (ok : BlkOk X.N X.env.scope scope own)
    (hg : ∀ (s : Shared) (H : Hp) (C : Addr) (cl : List (Str × Addr)) (fp : List Addr), JG (X.blk s H scope (compEnvC scope cl C X.env) fp) T tg gg ss) (ht : ∀ (s : Shared) (H : Hp) (C : Addr) (cl : List (Str × Addr)) (fp : List Addr), JTs (X.blk s H scope (compEnvC scope cl C X.env) fp) T E0 ifs q)
    (he : ∀ (s : Shared) (H : Hp) (C : Addr) (cl : List (Str × Addr)) (fp : List Addr), JE (X.blk s H scope (compEnvC scope cl C X.env) fp) T E0 elt fe) (hss : ∀ j ∈ ss, j ∈ own.map (·.2)) (hs : ∀ x, foldedSetIterable iter X.env x = pure x := by intro _; kernel_rfl) :
    JS X T E (.Assign [.Name y py] (.ListComp elt [⟨tg, iter, ifs, 0⟩] scope pos) spos) (sOwn (lComp fs gg q fe (own.map (·.2))) i) := ⟨ds_setLc hc hN hy hyl hsw hi.h ok (fun s H C cl fp => (hg s H C cl fp).h) (fun s H C cl fp => (ht s H C cl fp).h) (fun s H C cl fp => (he s H C cl fp).h) hss hs⟩
end
end BD
namespace BD
open PySem L2
section
open PySem.Spec PyProof.Rows
variable {prog : Program} {w : World} {A : Around} {E : Value → Shared → Prop} {s : Shared}
theorem draw_list {it t : Addr} {items : Array Value} (hne : t ≠ it) : ∀ (n i : Nat) (s : Shared) (Q : List Value → Shared → Prop), s.heap.IsListIter it t i → s.heap.IsList t items → i + n ≤ items.size →
    (∀ h', Heap.IsListIter h' it t (i + n) → Heap.SameBut it s.heap h' → Q ((items.toList.drop i).take n) { s with heap := h' }) → wpAny (model prog w) A (draw (.ref it) n) Q E s
  | 0, i, s, Q, hit, _, _, hQ => by
    show wpAny _ _ (pure []) Q E s
    exact wpAny_pure (by simpa using hQ s.heap hit (Heap.SameBut.refl ..))
  | n + 1, i, s, Q, hit, ht, hle, hQ => by
    have hlt : i < items.size := by omega
    show wpAny _ _ (pyNext (.ref it) >>= _) Q E s
    refine wpAny_bind (wpAny_pyNext_list_item hit ht (x := items[i]) (by simp [hlt]) fun h₁ hit₁ hs₁ => ?_)
    refine wpAny_bind (wpAny_holding (draw_list hne n (i + 1) _ _ hit₁ (ht.extBut hs₁.extBut hne) (by omega) fun h₂ hit₂ hs₂ => wpAny_pure ?_))
    have hd : items.toList.drop i = items[i] :: items.toList.drop (i + 1) := by simp [List.drop_eq_getElem_cons, hlt]
    have := hQ h₂ (by rw [show i + (n + 1) = i + 1 + n by omega]; exact hit₂) (hs₁.trans hs₂)
    rw [hd, List.take_succ_cons] at this
    exact this
theorem unpackItems_list {t : Addr} {items : Array Value} {Q : List Value → Shared → Prop} (hh : A.handled = none) (ht : s.heap.IsList t items)
    (hQ : ∀ h', Heap.ExtBut s.heap.objs.size s.heap h' → Q items.toList { s with heap := h' }) : wpAny (model prog w) A (unpackItems (.ref t) items.size none) Q E s := by
  have hlt : t ≠ s.heap.objs.size := by obtain ⟨o, ho, _⟩ := ht; exact Nat.ne_of_lt (Heap.lt_size ho)
  unfold unpackItems
  refine wpAny_bind ?_
  · unfold notIterableAtAll
    refine wpAny_bind (wpAny_specialOf ht.typeIs slot_list_iter.lookup ?_)
    refine wpAny_pure ?_
    simp only [Bool.false_eq_true, if_false]
    refine wpAny_bind (wpAny_holding (wpAny_pyIter_list ht ?_))
    refine wpAny_bind (wpAny_holding (draw_list hlt items.size 0 _ _ ⟨_, Heap.get?_push_size _ rfl, rfl, rfl⟩ (ht.push _) (by omega) fun h₁ hit₁ hs₁ => ?_))
    have hall : List.take items.size (List.drop 0 items.toList) = items.toList := by
      rw [List.drop_zero]; exact List.take_of_length_le (by simp)
    rw [hall]
    rw [if_neg (by simp)]
    have ht₁ : Heap.IsList h₁ t items := (ht.push _).extBut hs₁.extBut hlt
    refine wpAny_bind (wpAny_holding (wpAny_pyNext_list_end hh hit₁ ht₁ (by simp) fun h₂ he₂ => ?_))
    simp only [Option.isSome_none, Bool.false_eq_true, if_false]
    refine wpAny_pure (hQ h₂ fun b o hb e => he₂ b o hb (hs₁.extBut b o hb (Heap.get?_push_of_some _ e)))
theorem assign_Tuple_list {env : Env} {elts : List Expr} {x1} {pos : Pos} {t : Addr} {items : Array Value} {Q : Unit → Shared → Prop} (hh : A.handled = none) (ht : s.heap.IsList t items)
    (hn : (assignEach elts env).length = items.size) (hstar : (assignEach elts env).findIdx? (·.1) = none)
    (h : ∀ h', Heap.ExtBut s.heap.objs.size s.heap h' → wpAny (model prog w) A (assignInOrder ((assignEach elts env).map (·.2)) items.toList) Q E { s with heap := h' }) :
    wpAny (model prog w) A (assign (.Tuple elts x1 pos) env (.ref t)) Q E s := by
  rw [assign_Tuple]
  refine wpAny_bind (wpAny_standAt ?_)
  unfold unpack
  rw [hn, hstar]
  exact wpAny_bind (wpAny_holding (unpackItems_list hh ht h))
end
section
variable {X : Cx} {T : Tab} {K : PySem.W.Frag} {es : List Expr} {pos : Pos}
theorem pg_lst {kk : Nat} {t : TGs} {n : Nat} (hc : X.calm = true) (h : PGs X es t) (hn : (assignEach es X.env).length = n) (hst : (assignEach es X.env).findIdx? (·.1) = none) :
    PG X (.Tuple es kk pos) (fun v σ H Q => ∃ a xs, v = .ref a ∧ SqL X.K H a xs ∧ xs.length = n ∧ t xs σ H Q) := by
  intro pins s σ H v u Q I r hw
  obtain ⟨a, xs, e1, hq, hl, hw⟩ := hw
  subst e1
  cases r
  obtain ⟨its, rv, ht, hz⟩ := I.list hq
  refine assign_Tuple_list (I.ok.hd hc) ht.isList (by simp [hn, ← hl, rv.length]) hst fun h' hx => ?_
  have I1 : Inv X pins σ H { s with heap := h' } := I.kept (t' := s.toks) fun b o e => hx b o (Nat.ne_of_lt (Heap.lt_size e)) e
  exact h pins _ σ H xs _ Q I1 (by simpa using rv) hw
def gLs (h : Gvs) : Gv := fun d ρ => match d with
  | .lst ds => h ds ρ
  | _ => none
theorem jg_lst {kk : Nat} {h : Gvs} {n : Nat} {ss : List Nat} (hc : X.calm = true) (hh : JGs X T es h ss) (hl : ∀ ds ρ ρ', h ds ρ = some ρ' → ds.length = n) (hn : (assignEach es X.env).length = n := by kernel_rfl) (hst : (assignEach es X.env).findIdx? (·.1) = none := by kernel_rfl) :
    JG X T (.Tuple es kk pos) (gLs h) ss := ⟨PG.imp (pg_lst hc hh.h hn hst) fun v σ H Q ⟨c, ρ, F, d, ρ', r, rp, e, k⟩ => by
  unfold gLs at e
  split at e
  · cases rp with
    | lst hq rr => exact ⟨_, _, rfl, hq.sq, by rw [rr.length]; exact hl _ _ _ e, c, ρ, F, _, ρ', r, rr, e, k⟩
  · cases e⟩
end
def GTup (K : PySem.W.Frag) (mg : Str → Option Value) (x : Str) (ns : List Int) : Prop := ∃ a o its n, mg x = some (.ref a) ∧ K.lookup a = some o ∧ o.cls = .type "tuple" ∧ o.data = .seq its n ∧ its.size ≤ sizeLine ∧ Vals (ns.map V.int) its.toList
theorem je_gt {X : Cx} {T : Tab} {E : XK} {pos : Pos} {x : Str} {ns : List Int} {ds : List D} (hg : X.env.kindOf x = some .globalImplicit) (hm : GTup X.K X.mg x ns) (hds : ds = ns.map D.int) (hd : (x == ("__debug__" : Str)) = false := by kernel_rfl) : JE X T E (.Name x pos) (eC (.tup ds)) := by
  obtain ⟨a, o, its, n, h1, h2, h3, h4, h5, h6⟩ := hm
  subst hds
  exact ⟨de_glob (v := .ref a) hg h1 rfl (fun F H => .tup (.inr ⟨o, its, n, h2, h3, h4, h5, h6⟩) (Reps.ints ns)) hd⟩
end BD
namespace BD
open PySem L2
section
variable {X : Cx} {T : Tab} {K : PySem.W.Frag} {E : XK} {a b c e l tg : Expr} {es : List Expr} {pos p p2 : Pos} {f fa fb : Ev} {fs gs : EvL}
theorem vals_rev : ∀ {xs : List V} {us : List Value}, Vals xs us → Vals xs.reverse us.reverse
  | _, _, .nil => .nil
  | _, _, .cons r t => by
    rw [List.reverse_cons, List.reverse_cons]
    exact (vals_rev t).append (.cons r .nil)
open PySem.Spec PyProof.Rows in
theorem pe_rev {te ts : TE} {j : Nat} {pj pu : Pos} (he : PE X e te) (hst : PE X (.UnaryOp .USub (.Constant (.int 1) j pj) pu) ts) : PE X (.Subscript e (.Slice none none (some (.UnaryOp .USub (.Constant (.int 1) j pj) pu)) p2) pos)
    (fun σ H Q => te σ H fun x H1 => ts σ H1 fun y H2 => ∃ a xs, x = .ref a ∧ y = .int (-1) ∧ SqL X.K H2 a xs ∧ ∀ p, H2 p = none → Q (.ref p) (upd H2 p (.lst xs.reverse))) := by
  intro pins s σ H Q I h
  refine Subscript_ (thn (he pins s σ H _ I h) fun v s1 ⟨x, H1, I1, r1, q1⟩ => ?_)
  refine wpAny_Slice ?_
  rw [evalPart_none]
  refine wpAny_pure ?_
  refine wpAny_pure ?_
  rw [evalPart_some]
  refine thn (hst pins s1 σ H1 _ I1 q1) fun u s2 ⟨y, H2, I2, r2, q2⟩ => ?_
  obtain ⟨al, xs, rfl, rfl, hx, q⟩ := q2
  cases r1
  obtain ⟨t, rfl⟩ := r2
  have I4 : Inv X pins σ H2 { s2 with heap := s2.heap.push { cls := .type "slice", data := .fields #[.none, .none, .int (-1) t] } } := I2.kept (t' := s2.toks) fun b ob q => Heap.get?_push_of_some _ q
  obtain ⟨its, rv, hl, hz⟩ := I4.list hx
  have hlen := rv.length
  show wpAny (model X.prog X.w) X.A (subscriptTail e (.Slice none none (some (.UnaryOp .USub (.Constant (.int 1) j pj) pu)) p2) (.ref al) (.ref s2.heap.objs.size)) (EP X pins σ Q) X.xe _
  refine tail_any hl.isList.typeIs slot_list_getitem.lookup ?_ (by with_unfolding_all rfl)
  refine wpAny_getItem_list_slice hl.isList (Heap.IsSliceOf.new ..) .none .none (IsPart.int _ _) (by decide) ?_ (by rw [List.size_toArray] <;> omega)
  rw [PySem.W.krv_pick, show its.toArray.toList.reverse.toArray = its.reverse.toArray by simp]
  refine ⟨.ref _, _, I4.laid (t' := s2.toks) (o := .lst xs.reverse) (fun b ob q => Heap.get?_push_of_some _ q) (Nat.le_refl _) ?_, rfl, q _ (I4.hok.fresh (Nat.le_refl _))⟩
  refine ⟨by rw [List.length_reverse]; exact hz, its.reverse, 0, ?_, ?_⟩
  · exact vals_rev rv
  · exact Heap.get?_push_size _ rfl
end
end BD
namespace BD
open PySem L2
section
variable {X : Cx} {T : Tab} {K : PySem.W.Frag} {E : XK} {a b c e l tg : Expr} {es : List Expr} {pos p p2 : Pos} {f fa fb : Ev} {fs gs : EvL}
def eSlT (f : Ev) (lo hi : EvO) : Ev := fun ρ => obnd (f ρ) fun d => match d, lo ρ, hi ρ with
  | .tup ds, some l, some h => if decide (HT.sIx ds.length 0 l = 0 ∧ HT.sIx ds.length ds.length h = ds.length) then none else some (.val (.tup (cutD ds l h)))
  | _, _, _ => none
theorem de_slT {l h : EvO} {lo hi : Option Expr} (he : PE X e (tD T X.K E f)) (hl : PO X lo (tDO T X.K l)) (hh : PO X hi (tDO T X.K h)) : PE X (.Subscript e (.Slice lo hi none p2) pos) (tD T X.K E (eSlT f l h)) :=
  PE.imp (pe_slice sl_tup he hl hh) fun σ H Q ⟨c, ρ, F, out, r, e, th⟩ => by
    refine tD_bind r e (fun d v H1 F1 g1 r1 e1 => ?_) th.exc
    split at e1
    · rename_i ds lv hv el eh
      split at e1
      · cases e1
      · rename_i hn
        cases e1
        cases r1 with
        | @tup _ ws _ hq rr =>
          refine ⟨c, ρ, F1, lv, r.grow g1, el, fun H2 F2 g2 => ⟨c, ρ, F2, hv, (r.grow g1).grow g2, eh, fun H3 F3 g3 => ?_⟩⟩
          have rr3 := (rr.grow g2).grow g3
          refine ⟨_, _, rfl, SqT.keep (F := F2) g3.ext.keep (SqT.keep (F := F1) g2.ext.keep hq), ?_, fun p hp => ?_⟩
          · rw [rr.length]
            intro z
            exact hn (decide_eq_true z)
          · have gu := Grow.upd (o := .tup (cutV ws lv hv)) g3.wf hp
            exact th _ _ _ (((g1.trans g2).trans g3).trans gu) (.tup (SqT.of upd_same) ((rr3.cut lv hv).grow gu))
    · cases e1
theorem je_slT {lo hi : EvO} {elo ehi : Option Expr} (he : JE X T E e f) (hl : JO X T E elo lo) (hh : JO X T E ehi hi) : JE X T E (.Subscript e (.Slice elo ehi none p2) pos) (eSlT f lo hi) := ⟨de_slT he.h hl.h hh.h⟩
def sParM (i j : Nat) (fs : EvL) (g : Ev) : Sv := fun ρ => lbndS (fs ρ) fun xs => sbnd (g ρ) fun y => some (.nx ((ρ.set i (some (.own xs))).set j (some (.sh y))))
theorem js_parM {i j : Nat} {x y : Str} {px py pt : Pos} {kt k2 pt2} (hc : X.calm = true) (hN : X.N.Nodup) (hi : X.N[i]? = some x) (hj : X.N[j]? = some y) (hij : i ≠ j) (hx : X.env.scope.names.lookup x = some .local) (hy : X.env.scope.names.lookup y = some .local)
    (ha : JF X T E a fs) (hb : JE X T E b f) (hw : swappedStores [.Tuple [.Name x px, .Name y py] kt pt] (.Tuple [a, b] k2 pt2) X.env = pure (some [x, y]) := by kernel_rfl)
    (hs1 : starEach [a, b] X.env = (false, eval a X.env) :: starEach [b] X.env := by kernel_rfl) (hs2 : starEach [b] X.env = (false, eval b X.env) :: starEach [] X.env := by kernel_rfl)
    (hs : swapsWithSole [.Tuple [.Name x px, .Name y py] kt pt] (.Tuple [a, b] k2 pt2) pos.line X.env = pure false := by kernel_rfl) : JS X T E (.Assign [.Tuple [.Name x px, .Name y py] kt pt] (.Tuple [a, b] k2 pt2) pos) (sParM i j fs f) :=
  ⟨PS.imp (ps_par hc hN hi hj hij hx hy (pa_cons ha.h (pa_cons hb.h pa_nil hs2) hs1) hw hs) fun D σ H ⟨c, ρ, F, fl, r, e, th⟩ => by
    unfold sParM lbndS at e
    split at e
    · rename_i xs q
      refine ⟨c, ρ, F, _, r, q, fun p vs H1 H' F' g hp eH rp => ?_⟩
      have r1 := rel_own r g hp eH rp i
      subst eH
      have g0 : Grow H1 (upd H1 p (.lst vs)) F' F' := Grow.upd g.wf hp
      have g1 := g.trans g0
      dsimp only at e
      refine tD_bindS (r.grow g1) e (th.later g1.later) fun d2 v2 H2 F2 g2 r2 e2 => ?_
      cases e2
      exact ⟨_, _, rfl, th _ H2 F2 (g1.trans g2).later ((r1.grow g2).set r2)⟩
    · rename_i n q
      cases e
      exact ⟨c, ρ, F, _, r, q, fun H'' z => th H'' (r.ext.trans z)⟩
    · cases e⟩
end
structure FunD (K : PySem.W.Frag) (x qual : Str) (st : Stmt) (dV : Value) (f : Addr) (fd : FuncData) : Prop where
  ex : ∃ (oc : Value) (od : Option Addr) (kV doc pm : Value) (an : Option Addr) (cdv ct : Value) (osl : Array (Option Value)),
    fd = PySem.W.fnOf x qual (defArgs st) (defBody st) (defScope st) dV kV doc pm an cdv ct ∧ K.lookup f = some ⟨oc, od, .func fd, osl⟩ ∧ PySem.W.codeIn K cdv qual = true
  kp : PySem.W.keepIn K (.ref f) = true
section
variable {P : Program} {w : World} {K : PySem.W.Frag} {mg : Str → Option Value} {base : Heap} {T : Tab}
theorem fund_mk {x qual : Str} {st : Stmt} {f : Addr} {oc dV : Value} {od an : Option Addr} {osl : Array (Option Value)} {kV doc pm cdv ct : Value} (l : K.lookup f = some ⟨oc, od, .func (PySem.W.fnOf x qual (defArgs st) (defBody st) (defScope st) dV kV doc pm an cdv ct), osl⟩)
    (c : PySem.W.codeIn K cdv qual = true) (k : PySem.W.keepIn K (.ref f) = true) : FunD K x qual st dV f (PySem.W.fnOf x qual (defArgs st) (defBody st) (defScope st) dV kV doc pm an cdv ct) := ⟨⟨oc, od, kV, doc, pm, an, cdv, ct, osl, rfl, l, c⟩, k⟩
def ClD (P : Program) (w : World) (K : PySem.W.Frag) (mg : Str → Option Value) (base : Heap) (CX : CXT) (T : Tab) (x : Str) (ps : List Str) (k : Nat) (g : List D → Option Out) (dd : Int) : Prop :=
  ∃ f fd t, FnOk P w K mg base CX k f fd ps (spD T K g) ∧ mg x = some (.ref f) ∧ PySem.W.keepIn K (.ref f) = true ∧ Binds K fd ps [.int dd t]
end
end BD
namespace BD
open PySem L2 PySem.W PyProof.Rows
def Tr (B h : Heap) (e : Addr) (C fl : Value) : Prop :=
  ∃ oe vs tb ot ts, h.get? e = some oe ∧ oe.cls = C ∧ oe.data = .fields vs ∧ vs[1]? = some (.ref tb) ∧ vs[2]? = some .none ∧ B.get? tb = none ∧ tb ≠ e ∧ h.get? tb = some ot ∧ ot.data = .fields ts ∧ ts[3]? = some fl
def Air (B : Heap) (l : List Env) (e : Addr) (C fl : Value) (h : Heap) : Prop := B.StaysIn h ∧ B.get? e = none ∧ h.FunFrames B l ∧ Tr B h e C fl
section
variable {M : Model} {A : Around} {E : Value → Shared → Prop} {s : Shared} {B : Heap} {env : Env} {outer : List Env} {L e : Addr}
theorem not_rec {h : Heap} {a b : Addr} {o ob : Obj} {vs : Array Value} (ha : h.get? a = some o) (hd : o.data = .fields vs) (hb : h.get? b = some ob) (nf : ∀ ws, ob.data ≠ .fields ws) : b ≠ a := fun z => by
  rw [z, ha] at hb
  cases hb
  exact nf vs hd
theorem air_entry {oe : Obj} {vs : Array Value} {hd0 : Value} {nx : Bool} {Q : Unit → Shared → Prop} (fr : A.frames = some (env :: outer)) (ff : s.heap.FunFrames B (env :: outer)) (hf : env.frame = some L)
    (ge : s.heap.get? e = some oe) (kb : B.StaysIn s.heap) (ne : B.get? e = none) (de : oe.data = .fields vs) (c1 : 1 < vs.size) (c2 : vs[2]? = some .none)
    (k : ∀ h', Air B (env :: outer) e oe.cls (rawInt L) h' → s.heap.UpToSlots h' → Q () { s with heap := h' }) :
    wpAny M A (do let fo ← frameOf env; let ps ← entryPlaceOf L nx; let b ← EntryCells.newEntry hd0 fo .none (rawInt L) .none ps; setField (.ref e) 1 b) Q E s := by
  have nfr : e ∉ (env :: outer).filterMap (·.frame) := fun z => by
    obtain ⟨_, o, q, nf⟩ := ff.mem z
    exact not_rec ge de q nf rfl
  refine wpAny_bind (wpAny_frameOf_fun fr ff hf fun g so => ?_)
  refine wpAny_bind (wpAny_entryPlaceOf fun ps isp => ?_)
  unfold EntryCells.newEntry newFields
  refine wpAny_bind (wpAny_newObj_type ?_ (isp.sizeOk5 _ _ _ _ _))
  have ge1 : g.get? e = some oe := (so.2.1 e nfr).trans ge
  have kb1 : B.StaysIn g := fun b o q => (so.2.1 b fun z => by rw [(ff.mem z).1] at q; cases q).trans (kb b o q)
  generalize hto : ({ cls := .type "traceback", dict := none, data := .fields ([hd0, .ref L, .none, rawInt L, .none] ++ (if ps.isEmpty then List.replicate 6 Value.none else ps)).toArray } : Obj) = to
  have tod : to.data = .fields ([hd0, .ref L, .none, rawInt L, .none] ++ (if ps.isEmpty then List.replicate 6 Value.none else ps)).toArray := by rw [← hto]
  have ge2 := Heap.get?_push_of_some (h := g) to ge1
  refine wpAny_setField ge2 de c1 ?_
  have nte : g.objs.size ≠ e := Nat.ne_of_gt (Heap.lt_size ge1)
  have de3 := Obj.data_mapFields de (·.setIfInBounds 1 (Value.ref g.objs.size))
  have ge3 := Heap.get?_update_self (Obj.mapFields (·.setIfInBounds 1 (Value.ref g.objs.size))) ge2 (Obj.isFreed_of_fields de3)
  have gt3 : ((g.push to).update e (Obj.mapFields (·.setIfInBounds 1 (Value.ref g.objs.size)))).get? g.objs.size = some to := by
    rw [Heap.get?_update_other _ _ (Ne.symm nte)]
    exact Heap.get?_push_size g (by rw [← hto]; rfl)
  have kp : ∀ b o, b ≠ e → g.get? b = some o → ((g.push to).update e (Obj.mapFields (·.setIfInBounds 1 (Value.ref g.objs.size)))).get? b = some o := fun b o z q => by
    rw [Heap.get?_update_other _ _ (Ne.symm z)]
    exact Heap.get?_push_of_some _ q
  refine k _ ⟨fun b o q => kp b o (fun z => by rw [z, ne] at q; cases q) (kb1 b o q), ne, ff.of_keeps fun b o q nf => ?_, ?_⟩ fun b o q nf => ?_
  · obtain ⟨sl, q1⟩ := so.2.2 b o q
    exact ⟨_, kp b _ (not_rec ge de q nf) q1, rfl⟩
  · refine ⟨_, _, g.objs.size, to, _, ge3, Obj.cls_mapFields _ _, de3, by simp [c1], ?_, kb1.fresh, nte, gt3, tod, by simp⟩
    rw [Array.getElem?_setIfInBounds_ne (by decide)]
    exact c2
  · obtain ⟨sl, q1⟩ := so.2.2 b o q
    exact ⟨sl, kp b _ (not_rec ge de q nf) q1⟩
theorem air_note {C : Value} {Q : Unit → Shared → Prop} (fr : A.frames = some (env :: outer)) (hf : env.frame = some L) (a : Air B (env :: outer) e C .none s.heap)
    (k : ∀ h', Air B (env :: outer) e C (rawInt L) h' → s.heap.UpToSlots h' → Q () { s with heap := h' }) : wpAny M A (noteFrame (.ref e) env) Q E s := by
  obtain ⟨kb, ne, ff, oe, vs, tb, ot, ts, ge, rfl, de, c1, c2, nb, nte, gt, dt, c3⟩ := a
  have oth : ∀ b, b ≠ tb → (s.heap.update tb (Obj.mapFields (·.setIfInBounds 3 Value.none))).get? b = s.heap.get? b := fun b z => Heap.get?_update_other _ _ (Ne.symm z)
  unfold noteFrame
  simp only [hf]
  refine wpAny_bind (wpAny_field ge de c1 ?_)
  rw [if_pos (by simp)]
  refine wpAny_bind (wpAny_field gt dt c3 ?_)
  rw [if_neg (by simp [rawInt])]
  refine wpAny_bind (wpAny_setField gt dt (Array.getElem?_eq_some_iff.mp c3).1 ?_)
  refine air_entry (s := { s with heap := _ }) fr (ff.of_keeps fun b o q nf => ⟨o, (oth b (not_rec gt dt q nf)).trans q, rfl⟩) hf ((oth e (Ne.symm nte)).trans ge)
    (fun b o q => (oth b fun z => by rw [z, nb] at q; cases q).trans (kb b o q)) ne de (Array.getElem?_eq_some_iff.mp c1).1 c2 fun h' a' sm => k h' a' fun b o q nf => sm b o ((oth b (not_rec gt dt q nf)).trans q) nf
theorem air_go {l : List Env} {C fl : Value} {Q : Unit → Shared → Prop} (a : Air B l e C fl s.heap) (k : ∀ h', Air B l e C .none h' → s.heap.UpToSlots h' → Q () { s with heap := h' }) : wpAny M A (setFlight (.ref e) none) Q E s := by
  obtain ⟨kb, ne, ff, oe, vs, tb, ot, ts, ge, rfl, de, c1, c2, nb, nte, gt, dt, c3⟩ := a
  have z3 : 3 < ts.size := (Array.getElem?_eq_some_iff.mp c3).1
  have oth : ∀ b, b ≠ tb → (s.heap.update tb (Obj.mapFields (·.setIfInBounds 3 ((none : Option Addr).elim Value.none fun f => rawInt f)))).get? b = s.heap.get? b := fun b z => Heap.get?_update_other _ _ (Ne.symm z)
  unfold setFlight
  refine wpAny_bind (wpAny_field ge de c1 ?_)
  rw [if_pos (by simp)]
  refine wpAny_setField gt dt z3 (k _ ⟨fun b o q => (oth b fun z => by rw [z, nb] at q; cases q).trans (kb b o q), ne, ff.of_keeps fun b o q nf => ⟨o, (oth b (not_rec gt dt q nf)).trans q, rfl⟩, ?_⟩ fun b o q nf => ⟨o.slots, (oth b (not_rec gt dt q nf)).trans q⟩)
  exact ⟨oe, vs, tb, _, _, (oth e (Ne.symm nte)).trans ge, rfl, de, c1, c2, nb, nte, Heap.get?_update_self _ gt (Obj.isFreed_of_fields (Obj.data_mapFields dt _)), Obj.data_mapFields dt _, by simp [z3]⟩
theorem Air.tail {C fl : Value} {h : Heap} (a : Air B (env :: outer) e C fl h) : Air B outer e C fl h := ⟨a.1, a.2.1, a.2.2.1.2.2, a.2.2.2⟩
theorem air_leaves {C : Value} {Q : Unit → Shared → Prop} (fr : A.frames = some (env :: outer)) (hf : env.frame = some L) (a : Air B (env :: outer) e C .none s.heap)
    (k : ∀ h', Air B outer e C .none h' → s.heap.UpToSlots h' → Q () { s with heap := h' }) : wpAny M A (leaving env (.ref e)) Q E s := by
  unfold leaving
  refine wpAny_bind (air_note fr hf a fun h1 a1 sm1 => ?_)
  exact air_go (s := { s with heap := h1 }) a1 fun h2 a2 sm2 => k h2 a2.tail (sm1.trans sm2)
end
def Fly (P : Program) (w : World) (fs : List Addr) (l : List Env) (H : Hp) (s : Shared) (C : Value) (a : Addr) (H' : Hp) (s' : Shared) : Prop :=
  ∃ B : Heap, Air B l a C .none s'.heap ∧ s'.os = s.os ∧ AllBare s'.gens ∧ Un fs [] H H' s.heap s'.heap ∧ HOk P w H' s'.heap ∧
    ∀ b ob, s'.heap.get? b = some ob → (H' b ≠ none ∨ ((∃ o, s.heap.get? b = some o) ∧ b ∉ fs)) → B.get? b = some ob
def CXf (P : Program) (w : World) : CXT := fun outer H s E e s' => ∃ a C H', e = .ref a ∧ Fly P w (frs outer) outer H s C a H' s' ∧ E C none H'
theorem obj_there {P : Program} {w : World} {H : Hp} {h : Heap} {a : Addr} {o : HO} (x : ObjOk P w H h a o) : ∃ u, h.get? a = some u := by
  cases o <;> first
    | exact ⟨_, x⟩
    | exact ⟨_, x.1⟩
    | exact x
    | exact x.2.1
    | exact ⟨_, x.2.2.2.1⟩
    | (have ⟨_, _, _, z⟩ := x; exact ⟨_, z⟩)
    | (have ⟨_, _, _, _, z⟩ := x; exact ⟨_, z⟩)
    | (have ⟨_, _, _, z⟩ := x; have ⟨_, y, _⟩ := z; exact ⟨_, y⟩)
    | (have ⟨_, _, _, _, _, _, _, y, _⟩ := x; exact ⟨_, y⟩)
    | (have ⟨_, _, _, _, y, _⟩ := x; exact ⟨_, y⟩)
    | (have ⟨_, ⟨_, _, _, y, _⟩, _⟩ := x; exact ⟨_, y⟩)
theorem un_fly {fs : List Addr} {H H' : Hp} {h h1 h2 B : Heap} (u : Un fs [] H H' h h1) (st : B.StaysIn h2) (inB : ∀ b ob, h1.get? b = some ob → (H' b ≠ none ∨ ((∃ o, h.get? b = some o) ∧ b ∉ fs)) → B.get? b = some ob) (sm : h1.UpToSlots h2)
    (fr : ∀ b ∈ fs, ∃ o, h1.get? b = some o ∧ ∀ vs, o.data ≠ .fields vs) : Un fs [] H H' h h2 where
  keep := fun b o e n hb hx => st _ _ (inB b o (u.keep b o e n hb hx) (.inr ⟨⟨o, e⟩, hb⟩))
  slot := fun b o e n hb hx => by
    obtain ⟨sl, q⟩ := u.slot b o e n hb hx
    obtain ⟨o', q', nf⟩ := fr b hb
    rw [q] at q'
    cases q'
    obtain ⟨sl2, q2⟩ := sm b _ q nf
    exact ⟨sl2, q2⟩
  free := u.free
  there := fun b o e hx => by
    obtain ⟨o', q⟩ := u.there b o e hx
    by_cases hb : b ∈ fs
    · obtain ⟨o2, q', nf⟩ := fr b hb
      obtain ⟨sl2, q2⟩ := sm b _ q' nf
      exact ⟨_, q2⟩
    · exact ⟨o', st _ _ (inB b o' q (.inr ⟨⟨o, e⟩, hb⟩))⟩
  tups := u.tups
  frzs := u.frzs
  tbls := u.tbls
theorem hok_fly {P : Program} {w : World} {H' : Hp} {h1 h2 B : Heap} (x : HOk P w H' h1) (st : B.StaysIn h2) (inB : ∀ b ob, h1.get? b = some ob → H' b ≠ none → B.get? b = some ob) : HOk P w H' h2 := fun a o e =>
  (x a o e).stay (fun b u hb q => st _ _ (inB b u q (by rcases hb with hb | hb; rw [hb, e]; simp; rw [hb]; simp))) (fun _ q => q) fun _ _ q => q
theorem fun_frame {h B : Heap} : ∀ {l : List Env}, h.FunFrames B l → ∀ b ∈ frs l, ∃ o, h.get? b = some o ∧ ∀ vs, o.data ≠ .fields vs
  | [], _, b, hb => by simp [frs] at hb
  | env :: l, ⟨_, ⟨L, o, hf, _, ho, hd⟩, hr⟩, b, hb => by
    simp only [frs, List.filterMap_cons, hf, List.mem_cons] at hb
    rcases hb with rfl | hb
    · exact ⟨o, ho, hd⟩
    · exact fun_frame hr b hb
theorem Fly.on {P : Program} {w : World} {fs : List Addr} {l2 : List Env} {H H' : Hp} {s s' : Shared} {C : Value} {a : Addr} {B h2 : Heap} (f : Air B l2 a C .none h2) (sm : s'.heap.UpToSlots h2) (os : s'.os = s.os) (bare : AllBare s'.gens) (u : Un fs [] H H' s.heap s'.heap) (hok : HOk P w H' s'.heap)
    (inB : ∀ b ob, s'.heap.get? b = some ob → (H' b ≠ none ∨ ((∃ o, s.heap.get? b = some o) ∧ b ∉ fs)) → B.get? b = some ob) (fr : ∀ b ∈ fs, ∃ o, s'.heap.get? b = some o ∧ ∀ vs, o.data ≠ .fields vs) : Fly P w fs l2 H s C a H' { s' with heap := h2 } := by
  refine ⟨B, f, os, bare, un_fly u f.1 inB sm fr, hok_fly hok f.1 fun b ob q hb => inB b ob q (.inl hb), fun b ob q hc => ?_⟩
  have ex : ∃ ob1, s'.heap.get? b = some ob1 := by
    rcases hc with hc | ⟨⟨o, e⟩, _⟩
    · cases z : H' b with
      | none => exact absurd z hc
      | some o => exact obj_there (hok b o z)
    · exact u.there b o e (by simp)
  obtain ⟨ob1, q1⟩ := ex
  have b1 := inB b ob1 q1 hc
  have b2 : h2.get? b = some ob1 := f.1 b ob1 b1
  have q' : h2.get? b = some ob := q
  rw [b2] at q'
  cases q'
  exact b1
section
variable {P : Program} {w : World} {K : PySem.W.Frag} {mg : Str → Option Value} {base : Heap} {N : List Str} {qual : Str} {scope : Scope} {f : Addr} {cd : Value} {A : Around} {outer : List Env} {s : Shared} {H : Hp} {E : XK}
theorem passF : Passes (CXf P w) (cxOf (CXf P w) P w K mg base N qual scope f cd A outer s H E) E := fun pins σ H1 s1 e s' I hx => by
  obtain ⟨a, C, H', rfl, ⟨B, fl, os, bare, un, hok, inB⟩, he⟩ := hx
  have J := I.call' (ch := []) os un hok bare (fun b z => nomatch z)
  have u0 := J.base
  refine air_leaves I.ok.frames (L := s.heap.objs.size) rfl fl fun h' fl' sm => ?_
  refine ⟨a, C, H', rfl, Fly.on fl' sm J.os bare u0 hok (fun b ob q hc => inB b ob q (hc.imp id fun hb => ?_)) (fun_frame fl.2.2.1.2.2), he⟩
  obtain ⟨⟨o, e⟩, nb⟩ := hb
  refine ⟨I.base.there b o e (by simp [cxOf]), fun z => ?_⟩
  rcases List.mem_cons.mp (I.stkSub b z) with z | z
  · have l : b < s.heap.objs.size := Heap.lt_size e
    have z2 : b = s.heap.objs.size := z
    rw [z2] at l
    exact absurd l (Nat.lt_irrefl _)
  · exact nb z
end
end BD
namespace BD
open PySem L2 PySem.W PyProof.Rows
section
variable {X : Cx} {T : Tab} {E : XK}
structure IsExc (K : Frag) (mg : Str → Option Value) (T : Tab) (x : Str) (n : Nat) : Prop where
  ex : ∃ C, T.clsV n = .ref C ∧ mg x = some (.ref C) ∧ excIn K C [.type "ValueError", .type "Exception", .type "BaseException", .type "object"] "ValueError.__new__" = true
end
end BD
namespace BD
open PySem L2 PySem.W PyProof.Rows
section
variable {P : Program} {w : World} {K : PySem.W.Frag} {mg : Str → Option Value} {base : Heap} {T : Tab}
theorem fnx_okJ {x qual : Str} {st : Stmt} {dV : Value} {f : Addr} {fd : FuncData} {N ps : List Str} {k n m : Nat} {fb : Sv} (F : FunD K x qual st dV f fd) (S : FnScope N ps (defScope st)) (hn : ps.length = n) (hm : N.length = n + m)
    (hbody : ∀ (cdv : Value) (A : Around) (outer : List Env) (s : Shared) (H : Hp) (E : XK), Room k (A.deeper (PyProof.Rows.envOfC qual (defScope st) s.heap.objs.size f cdv)) → JB (cxOf (CXf P w) P w K mg base N qual (defScope st) f cdv A outer s H E) T E (defBody st) fb) :
    FnOk P w K mg base (CXf P w) (k + 1) f fd ps (spD T K (fnSem n m fb)) := by
  subst hn
  have e : m = N.length - ps.length := by omega
  subst e
  obtain ⟨oc, od, kV, doc, pm, an, cdv, ct, osl, rfl, lk, hcd⟩ := F.ex
  refine fn_of lk hcd S (fun vs H Q E ⟨F, ds, out, wf, r, e, th⟩ => by rw [r.length]; exact fnSem_len e) fun A outer s H vs Q E hr hsp => ?_
  exact ⟨_, (hbody cdv A outer s H E hr).h, sp_body (by omega) hsp⟩
theorem passL {N : List Str} {qual : Str} {scope : Scope} {f : Addr} {cd : Value} {A : Around} {outer : List Env} {s : Shared} {H : Hp} {E : XK} : PassesOwn (model P w) (cxOf (CXf P w) P w K mg base N qual scope f cd A outer s H E).A (cxOf (CXf P w) P w K mg base N qual scope f cd A outer s H E).env (cxOf (CXf P w) P w K mg base N qual scope f cd A outer s H E).xe :=
  PassesOwn.leaving (Q₁ := fun e s'' => CXf P w outer H s E e s'') (E₁ := fun e' s'' => CXf P w outer H s E e' s'')
theorem noX {outer : List Env} {H : Hp} {s : Shared} {e : Value} {s' : Shared} (h : CXf P w outer H s (fun _ _ _ => False) e s') : False := by
  obtain ⟨_, _, _, _, _, z⟩ := h
  exact z
end
end BD
namespace BD
open PySem L2 PySem.W PyProof.Rows
def Quiet (A : Around) (hp : Heap) : Prop := A.handled = none ∨ ∃ h o vs, A.handled = some (.ref h) ∧ hp.get? h = some o ∧ o.data = .fields vs ∧ vs[2]? = some .none
theorem Quiet.keeps {A : Around} {h h' : Heap} (q : Quiet A h) (k : ∀ b o, h.get? b = some o → h'.get? b = some o) : Quiet A h' := by
  rcases q with q | ⟨a, o, vs, q1, q2, q3, q4⟩
  · exact .inl q
  · exact .inr ⟨a, o, vs, q1, k _ _ q2, q3, q4⟩
section
variable {prog : Program} {w : World} {A : Around} {E : Value → Shared → Prop} {s : Shared}
end
end BD
namespace BD
open PySem PySem.Spec L2 PySem.W PyProof.Rows
def QuietH (A : Around) (H : Hp) : Prop := ∃ e oe u vs, A.handled = some (.ref e) ∧ H e = some (.frz oe u) ∧ oe.data = .fields vs ∧ vs[2]? = some .none
def QX (X : Cx) : Prop := QuietH X.A X.H_0
section
variable {X : Cx} {pins : List (Addr × Obj)} {σ : L2.St} {H : Hp} {s : Shared}
theorem QX.at (q : QX X) (I : Inv X pins σ H s) : QuietH X.A H := by
  obtain ⟨e, oe, u, vs, h1, h2, h3, h4⟩ := q
  exact ⟨e, oe, u, vs, h1, I.base.frzs _ _ _ h2, h3, h4⟩
theorem QuietH.quiet {A : Around} (q : QuietH A H) (h : HOk X.prog X.w H s.heap) : Quiet A s.heap := by
  obtain ⟨e, oe, u, vs, h1, h2, h3, h4⟩ := q
  exact .inr ⟨e, oe, vs, h1, (h e _ h2).1, h3, h4⟩
theorem QX.blk {scope : Scope} {cenv : Env} {fp : List Addr} (q : QX X) (I : Inv X pins σ H s) : QX (X.blk s H scope cenv fp) := q.at I
end
structure TurnQ (P : Program) (w : World) (K : PySem.W.Frag) (tg : Expr) (J : It) (fp : List Addr) (it : Addr) (tn : Nat → Heap → Prop) : Prop where
  mem : it ∈ fp
  obj : ∀ i h, tn i h → ∀ b ∈ fp, ∃ o, h.get? b = some o ∧ ∀ v, o.data ≠ .cell v
  keep : ∀ i h h', tn i h → (∀ b ∈ fp, ∀ o, h.get? b = some o → h'.get? b = some o) → tn i h'
  item : ∀ (X : Cx), X.prog = P → X.w = w → X.K = K → QX X → ∀ (i : Nat) (pins : List (Addr × Obj)) (s : Shared) (σ : L2.St) (H : Hp) (E : Value → Shared → Prop), Inv X pins σ H s → (∀ b ∈ fp, FpOk X pins H b) → tn i s.heap → J.go i H →
    wpAny (model P w) X.A (pyNext (.ref it)) (fun r s1 => ∃ u, r = some u ∧
      wpAny (model P w) X.A (letOwnedTupleGo tg (.ref it) u) (fun _ s2 => ∃ x H', Inv X pins σ H' s2 ∧ RelV x u ∧ J.yld i H x H' ∧ tn (i + 1) s2.heap ∧ ∀ b ∈ fp, H' b = none) E s1) E s
  done : ∀ (X : Cx), X.prog = P → X.w = w → X.K = K → QX X → ∀ (i : Nat) (pins : List (Addr × Obj)) (s : Shared) (σ : L2.St) (H : Hp) (E : Value → Shared → Prop), Inv X pins σ H s → (∀ b ∈ fp, FpOk X pins H b) → tn i s.heap → J.stop i H →
    wpAny (model P w) X.A (pyNext (.ref it)) (fun r s1 => r = none ∧ Inv X pins σ H s1) E s
  self : ∀ (A : Around) (i : Nat) (s : Shared) (Q : Value → Shared → Prop) (E : Value → Shared → Prop), tn i s.heap → Q (.ref it) s → wpAny (model P w) A (pyIter (.ref it)) Q E s
def PIEQ (X : Cx) (pins : List (Addr × Obj)) (σ : L2.St) (tg : Expr) (R : It → Hp → Prop) (itv : Value) (s2 : Shared) : Prop :=
  ∃ (it : Addr) (fp : List Addr) (tn : Nat → Heap → Prop) (J : It) (H' : Hp), itv = .ref it ∧ Inv X pins σ H' s2 ∧ TurnQ X.prog X.w X.K tg J fp it tn ∧ tn 0 s2.heap ∧ (∀ b ∈ fp, FpOk X pins H' b) ∧ R J H'
def PIQ (X : Cx) (tg iter : Expr) (wi : TI) : Prop :=
  ∀ (pins : List (Addr × Obj)) (s : Shared) (σ : L2.St) (H : Hp) (R : It → Hp → Prop), Inv X pins σ H s → wi σ H R →
    wpAny (model X.prog X.w) X.A (eval iter X.env) (fun v s1 => wpAny (model X.prog X.w) X.A (pyIter v) (PIEQ X pins σ tg R) X.xe s1) X.xe s
section
variable {X : Cx} {tg : Expr}
end
section
variable {X : Cx}
end
section
variable {T : Tab} {K : PySem.W.Frag} {X : Cx} {E : XK} {a b c e l tg : Expr} {es rest : List Expr} {pos : Pos}
theorem PIQ.imp {wi wi' : TI} (h : PIQ X tg l wi) (w : ∀ σ H R, wi' σ H R → wi σ H R) : PIQ X tg l wi' := fun pins s σ H R I q => h pins s σ H R I (w σ H R q)
end
structure JIQ (X : Cx) (T : Tab) (E : XK) (tg e : Expr) (f : EvL) : Prop where h : PIQ X tg e (tDI T X.K E f)
section
variable {X : Cx} {T : Tab} {E : XK} {a tg elt iter : Expr} {ifs : List Expr} {pos p : Pos} {fs : EvL} {q fe : Ev}
end
end BD
namespace BD
open PySem PySem.Spec L2 PySem.W PyProof.Rows
structure RoomQ (k : Nat) (A : Around) : Prop where
  dp : A.depth + 3 * k + 5 < recursionLimit
  un : A.units + 16 * k + 200 < cLine
theorem RoomQ.of {k : Nat} {A : Around} (r : Room k A) : RoomQ k A := ⟨r.dp, r.un⟩
theorem RoomQ.mono {j k : Nat} {A : Around} (r : RoomQ k A) (h : j ≤ k) : RoomQ j A := ⟨by have := r.dp; omega, by have := r.un; omega⟩
theorem RoomQ.deeper {k : Nat} {A : Around} (r : RoomQ (k + 1) A) (env : Env) : RoomQ k (A.deeper env) :=
  ⟨by have := r.dp; show A.depth + 1 + 3 * k + 5 < _; omega, by have := r.un; show A.units + 3 + 16 * k + 200 < _; omega⟩
theorem RoomQ.depth {k : Nat} {A : Around} (r : RoomQ k A) : A.depth < recursionLimit := by have := r.dp; omega
theorem RoomQ.units {k : Nat} {A : Around} (r : RoomQ k A) : A.units + 64 < cLine := by have := r.un; omega
structure FnOkQ (P : Program) (w : World) (K : PySem.W.Frag) (mg : Str → Option Value) (base : Heap) (k : Nat) (f : Addr) (fd : FuncData) (ps : List Str) (sp : Sp) : Prop where
  len : ∀ vs H Q E, sp vs H Q E → vs.length = ps.length
  run : ∀ (A : Around) (outer : List Env) (s : Shared) (H : Hp) (args : Args) (us : List Value) (vs : List V) (Q : VK) (E : XK), RoomQ k A → QuietH A H → Env0 P w K mg base A outer s H → BindsTo s fd args (ps.zip us) → Vals vs us → sp vs H Q E →
    codeAny (model P w) A (.call (.ref f) args) (CR CX0 outer P w H s Q E) s
section
variable {P : Program} {w : World} {K : PySem.W.Frag} {mg : Str → Option Value} {base : Heap} {T : Tab}
end
section
variable {X : Cx} {k : Nat} {f : Addr} {fd : FuncData} {ps : List Str} {sp : Sp} {E : XK} {x : Str} {p pos : Pos} {e : Expr} {es : List Expr} {t : TA}
end
end BD
namespace BD
open PySem PySem.Spec L2 PySem.W PyProof.Rows
section
variable {X : Cx} {pins : List (Addr × Obj)} {σ σ' : L2.St} {H : Hp} {s : Shared} {h' : Heap} {m' : Str → Option Value} {tk : Nat}
end
section
variable {X : Cx} {pins : List (Addr × Obj)} {σ : L2.St} {H : Hp} {s : Shared} {a : Addr}
end
end BD
namespace BD
open PySem PySem.Spec L2 PySem.W PyProof.Rows
def PX (X : Cx) (e : Expr) (t : L2.St → Hp → VK → XK → Prop) : Prop :=
  ∀ (pins : List (Addr × Obj)) (s : Shared) (σ : L2.St) (H : Hp) (Q : VK) (EK : XK) (E' : Value → Shared → Prop), Inv X pins σ H s → t σ H Q EK →
    (∀ H1 s1 er s', Inv X pins σ H1 s1 → CXf X.prog X.w X.stack H1 s1 EK er s' → E' er s') → wpAny (model X.prog X.w) X.A (eval e X.env) (EP X pins σ Q) E' s
section
variable {X : Cx} {pins : List (Addr × Obj)} {σ : L2.St} {H : Hp} {s s' : Shared} {er cB : Value} {ts : Addr → TS} {i : Nat} {D : Ends} {n x : Str} {np hp : Pos} {b0 : Stmt} {su : List Stmt}
end
end BD
namespace BD
open PySem PySem.Spec L2 PySem.W PyProof.Rows
section
variable {prog : Program} {w : World} {A : Around} {E : Value → Shared → Prop} {h : Heap} {g : Array GenState} {d : Drawn} {t : Nat} {os : OsState} {a : Addr} {o : Obj} {K : Frag} {C : Addr}
structure ECls (K : Frag) (C : Addr) : Prop where
  ga : findIn K (.ref C) "__getattribute__" = some (some (.builtin "BaseException.__getattribute__"))
  gt : findIn K (.ref C) "__getattr__" = some none
  cl : findIn K (.ref C) "__class__" = some (some (.builtin "object.__class__"))
  sb : subIn K (.ref C) (.type "BaseException") = some true
  so : subIn K (.ref C) (.type "object") = some true
  ic : (clsIn K C).isSome = true
end
end BD
namespace BD
open PySem PySem.Spec L2 PySem.W PyProof.Rows
def exT (clsV : Nat → Value) : Addr → Nat → HO → Prop := fun a n o => ∃ oe vs, o = .frz oe (.own a) ∧ oe.cls = clsV n ∧ oe.data = .fields vs ∧ vs[2]? = some .none
structure IsTab (T : Tab) : Prop where ex : T.ex = exT T.clsV
section
variable {X : Cx} {T : Tab} {E : XK} {a : Expr} {f : Ev} {pos p p2 : Pos}
end
abbrev FnL := List (Nat × (List D → Option Out))
section
variable {P : Program} {w : World} {K : PySem.W.Frag} {mg : Str → Option Value} {base : Heap} {CX : CXT} {T : Tab} {k : Nat} {gl : FnL}
end
structure JX (X : Cx) (T : Tab) (e : Expr) (f : Ev) : Prop where h : PX X e (fun σ H Q EK => tD T X.K EK f σ H Q)
section
variable {X : Cx} {T : Tab} {E : XK} {k : Nat} {e : Expr} {es : List Expr} {fs : EvL} {x : Str} {p pos : Pos}
end
end BD
namespace BD
open PySem PySem.Spec L2 PySem.W PyProof.Rows
theorem Grow.ofExt {H H' : Hp} {F : Addr → Prop} (wf : ∀ a, F a → H a ≠ none) (e : Ext H H') : Grow H H' F F := ⟨e, fun _ h => h, fun _ h => .inl h, fun a h => by
  cases q : H a with
  | none => exact absurd q (wf a h)
  | some o => rw [e a o q]; simp⟩
section
variable {X : Cx} {T : Tab} {E : XK} {k i : Nat} {c ke : Expr} {rest : List Stmt} {x n y : Str} {cB : Value} {np hp ep pos p1 cp yp rp ip up qp : Pos} {fc fk : Ev} {fr : Sv} {al : List D → Option Out} {okn : Nat → Bool} {ps : List Str} {jj : Nat}
end
end BD
namespace BD
open PySem PySem.Spec L2 PySem.W PyProof.Rows
def TabL (fl : List (Nat × Addr)) (cl : List (Nat × Value)) (ol : List (Nat × Addr × List Str) := []) : Tab := ⟨fun m => fl.lookup m, exT fun n => (cl.lookup n).getD .none, fun n => (cl.lookup n).getD .none, fun m => ol.lookup m, [], false, none⟩
theorem tabL_is {fl : List (Nat × Addr)} {cl : List (Nat × Value)} {ol : List (Nat × Addr × List Str)} : IsTab (TabL fl cl ol) := ⟨rfl⟩
section
variable {K : Frag} {mg : Str → Option Value} {T : Tab}
end
section
variable {X : Cx} {T : Tab} {E : XK} {a : Expr} {f : Ev} {pos p p2 : Pos}
end
section
variable {X : Cx} {T : Tab} {E : XK}
end
section
variable {P : Program} {w : World}
theorem passN {X : Cx} : Passes (CXf P w) X E0 := fun _ _ _ _ _ _ _ h => (noX h).elim
end
open Att in
theorem walk_Dx {l : PySem.W.OpenLaw} {n k : Nat} {q : Program} {loose : List Str} {XP : (Str → Option Value) → Heap → Prop} {YP : World → Heap → Prop} {d : DefRec} {K : Params → PySem.W.Frag} {x : Str} {g : List D → Option Out}
    (hn : l.most = some n) (hn2 : n ≤ sizeLine) (hdf : d.params.defaults = []) (hr : Room k callerA) (hY : ∀ (w : World) (h : Heap), YP w h → (K w.params).In h) (hL : LawT n g)
    (F : ∀ (w : World) (mg : Str → Option Value) (fa : Addr) (h : Heap), (K w.params).In h → h.Ns mainGlobals mg → mg d.name = some (.ref fa) →
      ∃ (fd : FuncData) (T : Tab), (∀ (s : Shared) (u : Value), BindsTo s fd ⟨[u], []⟩ [(x, u)]) ∧ ∀ base : Heap, (K w.params).In base → base.Ns mainGlobals mg → FnOk l.prog w (K w.params) mg base (CXf l.prog w) k fa fd [x] (spD T (K w.params) g)) :
    PySem.W.WalkO q loose XP YP l.row.toRowW d [] (fun f vs => PySem.call f vs) := by
  intro w s₀ s₁ mg mb G Y fa o pm cd doc dV kV ho hd hcd hD hmg hg args vals as hpre hlay hrd hwl hlo
  obtain rfl : dV = .none := Dflts.none hD hdf
  obtain rfl : kV = .none := Dflts.noKw hD
  obtain ⟨a, vs, ns, rfl, rfl, hobj, hints, hlen⟩ := script_of hn hpre hwl
  have KX := hY w _ Y
  obtain ⟨fd, T, hb, hF⟩ := F w mg fa _ KX G.T.g hmg
  have hc := law_call KX G.T.g G.T.b G.T.builtins G.T.nolimit hg hobj hints (Nat.le_trans hlen hn2) hr hF hb (fun H hO hS => sp_script hS (hL ns hlen (bits_of hlay))) fun H e s' => noX
  refine enter_call (codeAny_mono hc fun r s' hq => ?_)
  obtain ⟨rfl, h2, h3, h4⟩ := hq
  exact ⟨.inl ⟨.bool true, .bool true, [], rfl, fun _ => rfl, .bool true, post_true l _, fun _ => ⟨List.Pairwise.nil, fun _ hm => (nomatch hm)⟩⟩, h2, h3, h4⟩
end BD
namespace BD
open PySem L2
section
variable {X : Cx} {T : Tab} {E : XK} {a b : Expr} {pos : Pos} {f : Ev} {fs : EvL}
end
end BD
namespace BD
open PySem PySem.Spec L2 PySem.W PyProof.Rows
section
variable {X : Cx} {T : Tab}
end
structure ObC (K : Frag) (mg : Str → Option Value) (T : Tab) (x : Str) (n : Nat) (names : List Str) (C : Addr) : Prop where
  mg : mg x = some (.ref C)
  oc : T.oc n = some (C, names)
  cl : Cls K C
  no : ∀ f ∈ names, NoAttr K C f
  nd : names.Nodup
def spI (K : Frag) (names : List Str) : Sp := fun vs H Q _ => ∃ x C dx args, vs = .ref x :: args ∧ args.length = names.length ∧ H x = some (.ins C dx []) ∧ Cls K C ∧ (∀ f ∈ names, NoAttr K C f) ∧ Q .non (upd H x (.ins C dx (names.zip args)))
def eMake (n k : Nat) (fs : EvL) : Ev := fun ρ => lbnd (fs ρ) fun ds => if ds.length = k then some (.val (.obj n ds)) else none
theorem zip_fst {α β : Type} : ∀ {xs : List α} {ys : List β}, ys.length = xs.length → (xs.zip ys).map (·.1) = xs
  | [], _, _ => by simp
  | x :: xs, [], h => by simp at h
  | x :: xs, y :: ys, h => by simp at h; simp [zip_fst h]
theorem zip_snd {α β : Type} : ∀ {xs : List α} {ys : List β}, ys.length = xs.length → (xs.zip ys).map (·.2) = ys
  | [], [], _ => by simp
  | [], y :: ys, h => by simp at h
  | x :: xs, [], h => by simp
  | x :: xs, y :: ys, h => by simp at h; simp [zip_snd h]
theorem made_grow {H : Hp} {F : Addr → Prop} {x dx : Addr} {o : HO} (wf : ∀ a, F a → H a ≠ none) (nx : H x = none) (nd : H dx = none) (ne : dx ≠ x) : Grow H (upd (upd H dx (.own x)) x o) F F := by
  have g1 : Grow H (upd H dx (.own x)) F F := Grow.upd wf nd
  exact g1.trans (Grow.upd g1.wf (by rw [upd_ne (Ne.symm ne)]; exact nx))
section
variable {X : Cx} {T : Tab} {E : XK} {CX : CXT} {k n : Nat} {f C : Addr} {fd : FuncData} {ps names : List Str} {x m : Str} {p pos apos : Pos} {e o : Expr} {es : List Expr} {fs : EvL} {fo : Ev}
theorem je_make (O : ObC X.K X.mg T x n names C) (M : Mk X.K C f) (F : FnOk X.prog X.w X.K X.mg X.base CX k f fd ps (spI X.K names)) (hr : Room (k + 1) X.A) (hg : X.env.kindOf x = some .globalImplicit) (hb : Binds X.K fd ps []) (hx : Passes CX X E)
    (ha : JA X T E (e :: es) fs) (hdb : (x == ("__debug__" : Str)) = false := by kernel_rfl) (he : starEach (e :: es) X.env = (false, eval e X.env) :: starEach es X.env := by kernel_rfl) (hpl : (backTo pos (starEach es X.env)).any (·.1) = false := by kernel_rfl) (hN : mutN n = false := by kernel_rfl) :
    JE X T E (.Call (.Name x p) (e :: es) [] pos) (eMake n names.length fs) :=
  ⟨PE.imp (pe_make M F hr hg O.mg hb .nil hx ha.h hdb he hpl) fun σ H Q ⟨c, ρ, Fz, out, r, ev, th⟩ => by
    refine tDA_bind r ev (fun ds vs H1 F1 g1 r1 e1 => ?_) th.exc
    split at e1
    · rename_i hl
      cases e1
      intro x dx nx nd ne
      have lv : vs.length = names.length := by rw [r1.length]; exact hl
      refine ⟨x, C, dx, vs, by rw [List.append_nil], lv, upd_same, O.cl, O.no, rfl, ?_⟩
      rw [upd_upd]
      have g2 := made_grow (o := .ins C dx (names.zip vs)) g1.wf nx nd ne
      refine th _ _ F1 (g1.trans g2) (.obj (.inl hN) upd_same ?_ ?_)
      · rw [zip_fst lv]; exact O.oc
      · rw [zip_snd lv]; exact r1.grow g2
    · cases e1⟩
theorem look_at : ∀ {fs : List (Str × V)} {names : List Str} {i : Nat} {g : Str} {v : V}, fs.map (·.1) = names → names.Nodup → names[i]? = some g → (fs.map (·.2))[i]? = some v → fs.lookup g = some v
  | [], _, i, _, _, rfl, _, h, _ => by simp at h
  | (a, b) :: fs, _, 0, g, v, rfl, _, h1, h2 => by
    simp at h1 h2
    subst h1 h2
    simp
  | (a, b) :: fs, _, i + 1, g, v, rfl, nd, h1, h2 => by
    have h1' : (fs.map (·.1))[i]? = some g := by simpa using h1
    have nd' := List.nodup_cons.mp nd
    have ne : (g == a) = false := beq_eq_false_iff_ne.mpr fun z => nd'.1 (by rw [← z]; exact List.mem_of_getElem? h1')
    rw [List.lookup_cons, ne]
    exact look_at rfl nd'.2 h1' (by simpa using h2)
theorem look_no : ∀ {fs : List (Str × V)} {names : List Str} {g : Str}, fs.map (·.1) = names → g ∉ names → fs.lookup g = none
  | [], _, _, rfl, _ => rfl
  | (a, b) :: fs, _, g, rfl, h => by
    have ne : (g == a) = false := beq_eq_false_iff_ne.mpr fun z => h (by simp [z])
    rw [List.lookup_cons, ne]
    exact look_no rfl fun z => h (by simp at z ⊢; exact .inr z)
def eFld (n i : Nat) (fo : Ev) : Ev := fun ρ => obnd (fo ρ) fun d => match d with
  | .obj m ds => if m = n then ov ds[i]? else none
  | _ => none
theorem je_fld {i : Nat} {g : Str} (O : ObC X.K X.mg T x n names C) (ho : JE X T E o fo) (hi : names[i]? = some g) (hb : attributeBase o g X.env (eval o X.env) = eval o X.env := by kernel_rfl) : JE X T E (.Attribute o g pos) (eFld n i fo) :=
  ⟨PE.imp (pe_fld ho.h hb) fun σ H Q ⟨c, ρ, F, out, r, ev, th⟩ => by
    refine tD_bind r ev (fun d v H1 F1 g1 r1 e1 => ?_) th.exc
    split at e1
    · rename_i m ds
      split at e1
      · rename_i hm
        subst hm
        cases q : ds[i]? with
        | none => rw [q] at e1; cases e1
        | some y =>
          rw [q] at e1
          cases e1
          cases r1 with
          | @obj a C' dx _ fs _ _ h t rr =>
            rw [O.oc] at t
            have t2 := Option.some.inj t
            have tc : C = C' := congrArg Prod.fst t2
            have tn : names = fs.map (·.1) := congrArg Prod.snd t2
            subst tc
            obtain ⟨w', w1, w2⟩ := rr.get q
            exact ⟨a, C, dx, fs, w', rfl, h, O.cl, O.no g (List.mem_of_getElem? hi), look_at tn.symm O.nd hi w1, th _ H1 F1 g1 w2⟩
      · cases e1
    · cases e1⟩
def eMeth (n : Nat) (g : List D → Option Out) (fo : Ev) (fs : EvL) : Ev := fun ρ => obnd (fo ρ) fun d => match d with
  | .obj m ds => if m = n then lbnd (fs ρ) fun as => g (.obj n ds :: as) else none
  | _ => none
structure ClM (P : Program) (w : World) (K : Frag) (mg : Str → Option Value) (base : Heap) (CX : CXT) (T : Tab) (C : Addr) (m : Str) (ps : List Str) (k : Nat) (g : List D → Option Out) : Prop where
  ex : ∃ f fd, FnOk P w K mg base CX k f fd ps (spD T K g) ∧ Meth K C m f ∧ Binds K fd ps []
theorem je_meth {pl : Sem Bool} {g : List D → Option Out} (O : ObC X.K X.mg T x n names C) (ho : JE X T E o fo) (M : ClM X.prog X.w X.K X.mg X.base CX T C m ps k g) (hr : Room k X.A) (hx : Passes CX X E) (hn : m ∉ names) (ha : JA X T E (e :: es) fs)
    (hst : starEach (e :: es) X.env = (false, eval e X.env) :: starEach es X.env := by kernel_rfl) (hpl : (backTo pos (starEach es X.env)).any (·.1) = false := by kernel_rfl)
    (ht : eval (.Call (.Attribute o m apos) (e :: es) [] pos) X.env = (do
      let ov ← eval o X.env
      standAt apos.atName
      let (f, first) ← holding [ov] (getMethod ov m pl)
      callWith pos f first (backTo pos (starEach (e :: es) X.env)) (backToKw pos (keywordEach [] X.env))) := by rfl) :
    JE X T E (.Call (.Attribute o m apos) (e :: es) [] pos) (eMeth n g fo fs) := by
  obtain ⟨f, fd, F, hm, hb⟩ := M.ex
  refine ⟨PE.imp (pe_meth (pl := pl) ho.h O.cl hm F hr hb .nil hx ha.h hst hpl ht) fun σ H Q ⟨c, ρ, Fz, out, r, ev, th⟩ => ?_⟩
  refine tD_bind r ev (fun d v H1 F1 g1 r1 e1 => ?_) th.exc
  split at e1
  · rename_i m' ds
    split at e1
    · rename_i hm'
      subst hm'
      cases r1 with
      | @obj a C' dx _ fs' _ gg h t rr =>
        have t0 := t
        rw [O.oc] at t
        have t2 := Option.some.inj t
        have tc : C = C' := congrArg Prod.fst t2
        have tn : names = fs'.map (·.1) := congrArg Prod.snd t2
        subst tc
        refine ⟨a, dx, fs', rfl, h, look_no tn.symm hn, ?_⟩
        refine tDA_bind (r.grow g1) e1 (fun as vs H2 F2 g2 r2 e2 => ?_) (fun n' z H' ext => th.exc n' z H' (g1.ext.trans ext))
        refine ⟨F2, _, out, g2.wf, ?_, e2, th.grow (g1.trans g2)⟩
        rw [List.append_nil]
        exact .cons (.obj gg (g2.ext _ _ h) t0 (rr.grow g2)) r2
    · cases e1
  · cases e1
end
end BD
namespace BD
open PySem PySem.Spec L2 PySem.W PyProof.Rows
def oA (T : Tab) (n : Nat) : Addr := ((T.oc n).map (·.1)).getD 0
def ClI (P : Program) (w : World) (K : Frag) (mg : Str → Option Value) (base : Heap) (CX : CXT) (C : Addr) (ps : List Str) (k : Nat) (names : List Str) : Prop :=
  ∃ f fd, FnOk P w K mg base CX k f fd ps (spI K names) ∧ Mk K C f ∧ Binds K fd ps []
theorem no_nil {K : Frag} {C : Addr} : ∀ f ∈ ([] : List Str), NoAttr K C f := fun _ h => nomatch h
theorem no_cons {K : Frag} {C : Addr} {g : Str} {l : List Str} (h : NoAttr K C g) (r : ∀ f ∈ l, NoAttr K C f) : ∀ f ∈ g :: l, NoAttr K C f := fun f hf => by
  rcases List.mem_cons.mp hf with rfl | hf
  · exact h
  · exact r f hf
structure Mk0 (K : Frag) (C : Addr) : Prop where
  mak : makesIn K C = true
  ini : findIn K (.ref C) "__init__" = some (some (.builtin "object.__init__"))
  kp : keepIn K (.ref C) = true
section
variable {P : Program} {w : World} {K : Frag} {mg : Str → Option Value} {base : Heap} {CX : CXT}
theorem init1_ok {x qual : Str} {st : Stmt} {dV : Value} {f : Addr} {fd : FuncData} {p1 f1 : Str} {k : Nat} (F : FunD K x qual st dV f fd) (S : FnScope ["self", p1] ["self", p1] (defScope st))
    (hb : ∀ (cdv : Value) (A : Around) (outer : List Env) (s : Shared) (H : Hp) (E : XK), PSs (cxOf CX P w K mg base ["self", p1] qual (defScope st) f cdv A outer s H E) (defBody st) (tSeq (sFld K (tVar 0) (tVar 1) f1) tNext)) : FnOk P w K mg base CX (k + 1) f fd ["self", p1] (spI K [f1]) := by
  obtain ⟨oc, od, kV, doc, pm, an, cdv, ct, osl, rfl, lk, hcd⟩ := F.ex
  refine fn_of lk hcd S (fun vs H Q E ⟨x, C, dx, args, e, hl, _⟩ => by rw [e]; simpa using hl) fun A outer s H vs Q E hr ⟨x, C, dx, args, e, hl, hx, c, no, q⟩ => ⟨_, hb cdv A outer s H E, ?_⟩
  subst e
  match args, hl with
  | [a], _ => exact ⟨a, rfl, .ref x, rfl, x, C, dx, [], rfl, hx, c, no f1 (by simp), by simp, q⟩
theorem init2_ok {x qual : Str} {st : Stmt} {dV : Value} {f : Addr} {fd : FuncData} {p1 p2 f1 f2 : Str} {k : Nat} (F : FunD K x qual st dV f fd) (S : FnScope ["self", p1, p2] ["self", p1, p2] (defScope st)) (ne : f1 ≠ f2)
    (hb : ∀ (cdv : Value) (A : Around) (outer : List Env) (s : Shared) (H : Hp) (E : XK), PSs (cxOf CX P w K mg base ["self", p1, p2] qual (defScope st) f cdv A outer s H E) (defBody st) (tSeq (sFld K (tVar 0) (tVar 1) f1) (tSeq (sFld K (tVar 0) (tVar 2) f2) tNext))) : FnOk P w K mg base CX (k + 1) f fd ["self", p1, p2] (spI K [f1, f2]) := by
  obtain ⟨oc, od, kV, doc, pm, an, cdv, ct, osl, rfl, lk, hcd⟩ := F.ex
  refine fn_of lk hcd S (fun vs H Q E ⟨x, C, dx, args, e, hl, _⟩ => by rw [e]; simpa using hl) fun A outer s H vs Q E hr ⟨x, C, dx, args, e, hl, hx, c, no, q⟩ => ⟨_, hb cdv A outer s H E, ?_⟩
  subst e
  match args, hl with
  | [a, b], _ =>
    refine ⟨a, rfl, .ref x, rfl, x, C, dx, [], rfl, hx, c, no f1 (by simp), by simp, b, rfl, .ref x, rfl, x, C, dx, putF f1 a [], rfl, upd_same, c, no f2 (by simp), by simp [putF], ?_⟩
    show Q .non (upd (upd H x _) x (.ins C dx (putF f2 b (putF f1 a []))))
    rw [upd_upd]
    simp only [putF, if_neg ne]
    exact q
end
section
variable {X : Cx} {T : Tab} {E : XK} {CX : CXT} {k n : Nat} {ps names : List Str} {x : Str} {p pos : Pos} {e : Expr} {es : List Expr} {fs : EvL}
theorem je_mk (O : ObC X.K X.mg T x n names (oA T n)) (I : ClI X.prog X.w X.K X.mg X.base CX (oA T n) ps k names) (hr : Room (k + 1) X.A) (hg : X.env.kindOf x = some .globalImplicit) (hx : Passes CX X E)
    (ha : JA X T E (e :: es) fs) (hdb : (x == ("__debug__" : Str)) = false := by kernel_rfl) (he : starEach (e :: es) X.env = (false, eval e X.env) :: starEach es X.env := by kernel_rfl) (hpl : (backTo pos (starEach es X.env)).any (·.1) = false := by kernel_rfl) (hN : mutN n = false := by kernel_rfl) :
    JE X T E (.Call (.Name x p) (e :: es) [] pos) (eMake n names.length fs) := by
  obtain ⟨f, fd, F, M, hb⟩ := I
  exact je_make O M F hr hg hb hx ha hdb he hpl hN
end
end BD
namespace BD
open PySem PySem.Spec L2 PySem.W PyProof.Rows
section
variable {X : Cx} {T : Tab}
def anyB : List D → Option D
  | [.lst ds] => (blsO ds).map fun ns => .bl (ns.any id)
  | _ => none
theorem cb_any (hc : X.calm = true) : CallR X (.builtin "any") (rB T X.K anyB) := CallR.imp (cr_any hc) fun vs H Q ⟨F, ds, d, wf, r, e, k⟩ => by
  unfold anyB at e
  split at e
  · rename_i ds
    cases q : blsO ds with
    | none => rw [q] at e; cases e
    | some ns =>
      rw [q] at e; cases e
      cases r with
      | cons r1 t =>
        cases t
        cases r1 with
        | lst h rr => exact ⟨_, ns, rfl, by rw [← blsO_ok rr q]; exact h.sq, k _ H F (.refl wf) (.bl _)⟩
  · cases e
theorem jc_any (hc : X.calm = true) : JCall X T "any" anyB := ⟨cb_any hc⟩
end
structure OCl (K : Frag) (C : Addr) : Prop where
  cl : Cls K C
  ha : findIn K (.ref C) "__class__" = some (some (.builtin "object.__class__"))
  hn : specialIn K (.builtin "object.__class__") "__get__" = some (some (.builtin "getset_descriptor.__get__"))
  tk : takesIn K (.builtin "object.__class__") = some true
  mo : mroIn K C (.type "object") = some true
section
variable {X : Cx} {T : Tab} {E : XK} {a o e : Expr} {es : List Expr} {f fo : Ev} {fs : EvL} {pos p p2 apos : Pos}
end
section
variable {P : Program} {w : World} {K : Frag} {mg : Str → Option Value} {base : Heap} {CX : CXT} {T : Tab} {m : Str} {k : Nat} {gl : FnL}
end
section
variable {X : Cx} {T : Tab} {E : XK} {CX : CXT} {k : Nat} {m : Str} {pos apos : Pos} {o e : Expr} {es : List Expr} {fo : Ev} {fs : EvL} {gl : FnL}
end
end BD
namespace BD
open PySem PySem.Spec L2 PySem.W PyProof.Rows
def comp2S (i0 : Nat) (q : Ev) (f1 : EvL) (g1 : Gv) (q1 elt : Ev) (vs1 : List Nat) (ρ : Rho) : List D → Option (List D)
  | [] => some []
  | d :: ds => match q (ρ.set i0 (some (.sh d))) with
    | some (.val (.bl true)) => (match f1 (ρ.set i0 (some (.sh d))) with
      | some (.vals es) => (compS g1 q1 elt (wipeR (ρ.set i0 (some (.sh d))) vs1) es).bind fun ys => (comp2S i0 q f1 g1 q1 elt vs1 ρ ds).map (ys ++ ·)
      | _ => none)
    | some (.val (.bl false)) => comp2S i0 q f1 g1 q1 elt vs1 ρ ds
    | _ => none
def lComp2 (f : EvL) (i0 : Nat) (q : Ev) (f1 : EvL) (g1 : Gv) (q1 elt : Ev) (vs vs1 : List Nat) : EvL := fun ρ => lbndL (f ρ) fun ds => (comp2S i0 q f1 g1 q1 elt vs1 (wipeR ρ vs) ds).bind fun res => if smallL res then some (.vals res) else none
section
variable {T : Tab} {K : PySem.W.Frag} {E : XK}
theorem keep_rm {H : Hp} {F : Addr → Prop} {p : Addr} {av : List V} (h : H p = some (.lst av)) (nf : ¬ F p) : Keep F H (rm H p) := fun a o e z => by
  by_cases ha : a = p
  · subst ha
    rcases z with z | z
    · exact absurd z nf
    · rw [h] at e; cases e; exact absurd rfl (z.1 av)
  · rw [rm_ne ha]; exact e
theorem tLc2_of {E2 : XK} {f f1 : EvL} {i0 : Nat} {g1 : Gv} {q q1 elt : Ev} {vs vs1 ss : List Nat} {σ : L2.St} {H : Hp} {Q : VK} (h0 : i0 ∈ vs) (hss : ∀ j ∈ ss, j ∈ vs1) (h : tDF T K E (lComp2 f i0 q f1 g1 q1 elt vs vs1) σ H Q) :
    tLc2 (tDI T K E f) (gName i0) (tDT T K E2 q) (tDI T K E2 f1) (tDG T K g1 ss) (tDT T K E2 q1) (tD T K E2 elt) vs vs1 σ H Q := by
  obtain ⟨c, ρ, F, out, r, e, th⟩ := h
  unfold lComp2 lbndL at e
  split at e
  · rename_i ds qf
    dsimp only at e
    cases qc : comp2S i0 q f1 g1 q1 elt vs1 (wipeR ρ vs) ds with
    | none => rw [qc] at e; cases e
    | some res =>
      rw [qc] at e
      dsimp only [Option.bind] at e
      split at e
      · rename_i hsm
        cases e
        have hsm := of_decide_eq_true hsm
        refine ⟨c, ρ, F, _, r, qf, fun J H1 F1 g1' ⟨P, p1, pl, py⟩ p hp => ?_⟩
        have rw1 := (r.grow g1').wipe vs
        have nf1 : ¬ F1 p := fun z => g1'.wf p z hp
        have g0 : Grow H1 (upd H1 p (.lst [])) F1 F1 := Grow.upd g1'.wf hp
        refine ⟨fun i m H' => m = ds.length - i ∧ i ≤ ds.length ∧ ∃ F' av ad rest, P H' F' ∧ Grow H1 (rm H' p) F1 F' ∧ H' p = some (.lst av) ∧ Reps T K F' H' av ad ∧ comp2S i0 q f1 g1 q1 elt vs1 (wipeR ρ vs) (ds.drop i) = some rest ∧ ad ++ rest = res,
          ⟨ds.length, by simp, Nat.zero_le _, F1, [], [], res, pl _ _ _ _ p1 g0.later, by rw [rm_upd2, rm_of_none hp]; exact .refl g1'.wf, upd_same, .nil, by simpa using qc, by simp⟩, ?_⟩
        rintro i m H' ⟨rfl, hi, F', av, ad, rest, p', gw, hpp, ra, ec, er⟩
        have nf' : ¬ F' p := fun z => gw.wf p z rm_self
        have eH := rm_upd hpp
        have gq : Grow (rm H' p) H' F' F' := by
          have := Grow.upd (o := .lst av) gw.wf (rm_self (H := H') (p := p))
          rw [eH] at this
          exact this
        have rr0 := rw1.grow gw
        have rr := rr0.grow gq
        obtain ⟨y1, y2⟩ := py H' F' i p' rr.wf
        by_cases hlt : i < ds.length
        · obtain ⟨go, yl⟩ := y1 hlt
          refine .inr ⟨go, fun H2 => ∃ F' av ad rest, P H2 F' ∧ Grow H1 (rm H2 p) F1 F' ∧ H2 p = some (.lst av) ∧ Reps T K F' H2 av ad ∧ comp2S i0 q f1 g1 q1 elt vs1 (wipeR ρ vs) (ds.drop (i + 1)) = some rest ∧ ad ++ rest = res,
            fun H2 h2 => ⟨ds.length - (i + 1), by omega, rfl, hlt, h2⟩, fun x H2 y => ?_⟩
          obtain ⟨d, hd, F2, g2, rp⟩ := yl x H2 y
          rw [drop_cons hd] at ec
          unfold comp2S at ec
          have h2p := g2.ext _ _ hpp
          have gw2 := gw.trans (g2.rm hpp nf')
          have nf2 : ¬ F2 p := fun z => gw2.wf p z rm_self
          have rb := (rr0.grow (g2.rm hpp nf')).set (i := i0) (rp.keep (keep_rm h2p nf2) (fun _ z => z))
          have rb2 := (rr.grow g2).set (i := i0) rp
          refine ⟨wipe_but (ss := [i0]) ⟨List.length_set, fun j hj => get_set_ne fun z => hj (by simp [z])⟩ (fun j hj => by rw [List.mem_singleton] at hj; rw [hj]; exact h0), ?_⟩
          cases qq : q ((wipeR ρ vs).set i0 (some (.sh d))) with
          | none => rw [qq] at ec; cases ec
          | some o1 =>
            rw [qq] at ec
            refine ⟨c, _, F2, o1, rb2, qq, ?_⟩
            cases o1 with
            | exc n => cases ec
            | val d1 =>
              cases d1 with
              | bl k =>
                intro H3 F3 g3
                have g23 := g2.trans g3
                have gw3 := gw.trans (g23.rm hpp nf')
                have h3p := g23.ext _ _ hpp
                have ra3 := ra.grow g23
                have p3 := pl _ _ _ _ p' g23.later
                cases k with
                | false =>
                  rw [if_neg (by decide)]
                  exact ⟨F3, av, ad, rest, p3, gw3, h3p, ra3, ec, er⟩
                | true =>
                  rw [if_pos rfl]
                  dsimp only at ec
                  cases qf1 : f1 ((wipeR ρ vs).set i0 (some (.sh d))) with
                  | none => rw [qf1] at ec; cases ec
                  | some o2 =>
                    rw [qf1] at ec
                    refine ⟨c, _, F3, o2, rb2.grow g3, qf1, ?_⟩
                    cases o2 with
                    | exc n => cases ec
                    | vals es =>
                      intro J1 H4 F4 g4 ⟨P1, p11, pl1, py1⟩
                      dsimp only at ec
                      cases qy : compS g1 q1 elt (wipeR ((wipeR ρ vs).set i0 (some (.sh d))) vs1) es with
                      | none => rw [qy] at ec; cases ec
                      | some ys =>
                        rw [qy] at ec
                        dsimp only [Option.bind] at ec
                        cases qr : comp2S i0 q f1 g1 q1 elt vs1 (wipeR ρ vs) (ds.drop (i + 1)) with
                        | none => rw [qr] at ec; cases ec
                        | some rest' =>
                          rw [qr] at ec
                          cases ec
                          have nf3 : ¬ F3 p := fun z => gw3.wf p z rm_self
                          have gw4 := gw3.trans (g4.rm h3p nf3)
                          have h4p := g4.ext _ _ h3p
                          have ra4 := ra3.grow g4
                          have p4 := pl _ _ _ _ p3 g4.later
                          have rb4 := (((rb.grow (g3.rm h2p nf2)).grow (g4.rm h3p nf3))).wipe vs1
                          have wf4 : ∀ a, F4 a → rm H4 p a ≠ none := gw4.wf
                          refine ⟨fun j k Hx => k = es.length - j ∧ j ≤ es.length ∧ ∃ Fx bv bd rest1, P Hx Fx ∧ P1 Hx Fx ∧ Grow (rm H4 p) (rm Hx p) F4 Fx ∧ Hx p = some (.lst bv) ∧ Reps T K Fx Hx bv bd ∧ compS g1 q1 elt (wipeR ((wipeR ρ vs).set i0 (some (.sh d))) vs1) (es.drop j) = some rest1 ∧ bd ++ (rest1 ++ rest') = res,
                            ⟨es.length, by simp, Nat.zero_le _, F4, av, ad, ys, p4, p11, .refl wf4, h4p, ra4, by simpa using qy, er⟩, ?_⟩
                          rintro j k Hx ⟨rfl, hj, Fx, bv, bd, rest1, px, p1x, gx, hxp, rx, ecx, erx⟩
                          have nfx : ¬ Fx p := fun z => gx.wf p z rm_self
                          have eHx := rm_upd hxp
                          have gqx : Grow (rm Hx p) Hx Fx Fx := by
                            have := Grow.upd (o := .lst bv) gx.wf (rm_self (H := Hx) (p := p))
                            rw [eHx] at this
                            exact this
                          have rrx := (rb4.grow gx).grow gqx
                          obtain ⟨z1, z2⟩ := py1 Hx Fx j p1x rrx.wf
                          by_cases hjl : j < es.length
                          · obtain ⟨go1, yl1⟩ := z1 hjl
                            refine .inr ⟨go1, fun Hy => ∃ Fx bv bd rest1, P Hy Fx ∧ P1 Hy Fx ∧ Grow (rm H4 p) (rm Hy p) F4 Fx ∧ Hy p = some (.lst bv) ∧ Reps T K Fx Hy bv bd ∧ compS g1 q1 elt (wipeR ((wipeR ρ vs).set i0 (some (.sh d))) vs1) (es.drop (j + 1)) = some rest1 ∧ bd ++ (rest1 ++ rest') = res,
                              fun Hy hy => ⟨es.length - (j + 1), by omega, rfl, hjl, hy⟩, fun x1 Hy yy => ?_⟩
                            obtain ⟨d5, hd5, F5, g5, rp5⟩ := yl1 x1 Hy yy
                            rw [drop_cons hd5] at ecx
                            unfold compS at ecx
                            cases qg : g1 d5 (wipeR ((wipeR ρ vs).set i0 (some (.sh d))) vs1) with
                            | none => rw [qg] at ecx; cases ecx
                            | some ρ5 =>
                              rw [qg] at ecx
                              dsimp only [Option.bind] at ecx
                              refine ⟨c, _, F5, d5, ρ5, rrx.grow g5, rp5, qg, fun σ5 r5 b5 => ⟨wipe_but b5 hss, ?_⟩⟩
                              cases qq5 : q1 ρ5 with
                              | none => rw [qq5] at ecx; cases ecx
                              | some o5 =>
                                rw [qq5] at ecx
                                refine ⟨c, ρ5, F5, o5, r5, qq5, ?_⟩
                                cases o5 with
                                | exc n => cases ecx
                                | val d6 =>
                                  cases d6 with
                                  | bl k5 =>
                                    intro H6 F6 g6
                                    have g56 := g5.trans g6
                                    have gx6 := gx.trans (g56.rm hxp nfx)
                                    have h6p := g56.ext _ _ hxp
                                    have rx6 := rx.grow g56
                                    have px6 := pl _ _ _ _ px g56.later
                                    have p1x6 := pl1 _ _ _ _ p1x g56.later
                                    cases k5 with
                                    | false =>
                                      rw [if_neg (by decide)]
                                      exact ⟨F6, bv, bd, rest1, px6, p1x6, gx6, h6p, rx6, ecx, erx⟩
                                    | true =>
                                      rw [if_pos rfl]
                                      dsimp only at ecx
                                      cases qe : elt ρ5 with
                                      | none => rw [qe] at ecx; cases ecx
                                      | some o7 =>
                                        rw [qe] at ecx
                                        refine ⟨c, ρ5, F6, o7, r5.grow g6, qe, ?_⟩
                                        cases o7 with
                                        | exc n => cases ecx
                                        | val d7 =>
                                          intro y7 H7 F7 g7 r7
                                          dsimp only at ecx
                                          cases qz : compS g1 q1 elt (wipeR ((wipeR ρ vs).set i0 (some (.sh d))) vs1) (es.drop (j + 1)) with
                                          | none => rw [qz] at ecx; cases ecx
                                          | some rest7 =>
                                            rw [qz] at ecx
                                            cases ecx
                                            have nf6 : ¬ F6 p := fun z => gx6.wf p z rm_self
                                            have gx7 := gx6.trans (g7.rm h6p nf6)
                                            have h7p := g7.ext _ _ h6p
                                            have rx7 := (rx6.grow g7).append (.cons r7 .nil)
                                            have nf7 : ¬ F7 p := fun z => gx7.wf p z rm_self
                                            have kp : Later H7 (upd H7 p (.lst (bv ++ [y7]))) F7 F7 := ⟨fun a o e z => by
                                              by_cases ha : a = p
                                              · subst ha
                                                rcases z with z | z
                                                · exact absurd z nf7
                                                · rw [h7p] at e; cases e; exact absurd rfl (z.1 bv)
                                              · rw [upd_ne ha]; exact e, fun _ z => z⟩
                                            refine ⟨bv, h7p, ?_, F7, bv ++ [y7], bd ++ [d7], rest7, pl _ _ _ _ px6 (g7.later.trans kp), pl1 _ _ _ _ p1x6 (g7.later.trans kp), by rw [rm_upd2]; exact gx7, upd_same, rx7.later kp, rfl, by rw [← erx]; simp⟩
                                            rw [rx.length]
                                            have : bd.length ≤ 1000000 := by
                                              have e8 := congrArg List.length erx
                                              simp only [List.length_append] at e8
                                              omega
                                            exact Nat.lt_of_le_of_lt this (by decide)
                                  | _ => cases ecx
                          · have hj' : j = es.length := by omega
                            subst hj'
                            rw [List.drop_length] at ecx
                            cases ecx
                            rw [List.nil_append] at erx
                            exact .inl ⟨z2 (Nat.le_refl _), Fx, bv, bd, rest', px, gw4.trans gx, hxp, rx, rfl, erx⟩
              | _ => cases ec
        · have hi' : i = ds.length := by omega
          subst hi'
          rw [List.drop_length] at ec
          cases ec
          rw [List.append_nil] at er
          subst er
          refine .inl ⟨y2 (Nat.le_refl _), ?_⟩
          exact th p av (rm H' p) H' F' (g1'.trans gw) rm_self eH.symm ra
      · cases e
  · rename_i n qf
    cases e
    exact ⟨c, ρ, F, _, r, qf, th⟩
  · cases e
end
section
variable {X : Cx} {T : Tab} {E E0 : XK} {elt iter iter1 tg1 : Expr} {ifs ifs1 : List Expr} {scope : Scope} {own : List (Str × Nat)} {pos tpos : Pos} {fs fs1 : EvL} {gg : Gv} {q q1 fe : Ev} {vs1 ss : List Nat} {i0 : Nat} {x0 : Str}
theorem jf_lc2 (hc : X.calm = true) (hN : X.N.Nodup) (hi : JI X T E (.Name x0 tpos) iter fs) (ok : BlkOk X.N X.env.scope scope own) (h0 : i0 ∈ own.map (·.2)) (hv : ∀ i ∈ vs1, i ∈ own.map (·.2)) (hss : ∀ j ∈ ss, j ∈ vs1)
    (hg : ∀ (s : Shared) (H : Hp) (C : Addr) (cl : List (Str × Addr)) (fp : List Addr), PG (X.blk s H scope (compEnvC scope cl C X.env) fp) (.Name x0 tpos) (gName i0)) (ht : ∀ (s : Shared) (H : Hp) (C : Addr) (cl : List (Str × Addr)) (fp : List Addr), JTs (X.blk s H scope (compEnvC scope cl C X.env) fp) T E0 ifs q)
    (hi1 : ∀ (s : Shared) (H : Hp) (C : Addr) (cl : List (Str × Addr)) (fp : List Addr), JI (X.blk s H scope (compEnvC scope cl C X.env) fp) T E0 tg1 iter1 fs1)
    (hg1 : ∀ (s : Shared) (H : Hp) (C : Addr) (cl : List (Str × Addr)) (fp : List Addr), JG (X.blk s H scope (compEnvC scope cl C X.env) fp) T tg1 gg ss)
    (ht1 : ∀ (s : Shared) (H : Hp) (C : Addr) (cl : List (Str × Addr)) (fp : List Addr), JTs (X.blk s H scope (compEnvC scope cl C X.env) fp) T E0 ifs1 q1)
    (he : ∀ (s : Shared) (H : Hp) (C : Addr) (cl : List (Str × Addr)) (fp : List Addr), JE (X.blk s H scope (compEnvC scope cl C X.env) fp) T E0 elt fe)
    (hs : ∀ x, foldedSetIterable iter X.env x = pure x := by intro _; kernel_rfl) (hs1 : ∀ env x, foldedSetIterable iter1 env x = pure x := by intro _ _; rfl) :
    JF X T E (.ListComp elt [⟨.Name x0 tpos, iter, ifs, 0⟩, ⟨tg1, iter1, ifs1, 0⟩] scope pos) (lComp2 fs i0 q fs1 gg q1 fe (own.map (·.2)) vs1) :=
  ⟨PE.imp (pe_lc2 hc hN hi.h ok hv hg (fun s H C cl fp => (ht s H C cl fp).h) (fun s H C cl fp => (hi1 s H C cl fp).h) (fun s H C cl fp => (hg1 s H C cl fp).h) (fun s H C cl fp => (ht1 s H C cl fp).h) (fun s H C cl fp => (he s H C cl fp).h) hs hs1) fun σ H Q h => tLc2_of h0 hss h⟩
end
end BD
namespace BD
open PySem PySem.Spec L2 PySem.W PyProof.Rows
section
variable {X : Cx} {T : Tab} {E : XK}
end
end BD
namespace BD
open PySem PySem.Spec L2 PySem.W PyProof.Rows
section
variable {X : Cx} {T : Tab} {E : XK} {b : Expr} {pos px : Pos}
end
end BD
namespace BD
open PySem PySem.Spec L2 PySem.W PyProof.Rows
section
variable {X : Cx} {T : Tab} {E : XK} {a : Expr} {f : Ev} {pos p px py pt : Pos}
end
end BD
namespace BD
open PySem PySem.Spec L2 PySem.W PyProof.Rows
def Tab.wc (T : Tab) (φ : List Addr) : Tab := { T with cl := φ, mt := false }
def Tab.ws (T : Tab) (φ : List Addr) : Tab := { T with cl := φ, mt := true }
def Tab.up (T : Tab) : Tab := { T with mt := true }
inductive Fd where
  | sh (d : D) | own (ds : List D)
inductive Cell where
  | ins (m k : Nat) (fs : List Fd) | lst (ds : List D) | dead
abbrev Mem := List Cell
inductive Tag where
  | cell (n : Nat) | fld (n i : Nat)
abbrev Own := Addr → Option Tag
abbrev FS := Addr → Prop
structure FOk (T : Tab) (K : Frag) (F : FS) (G H : Hp) (W : Own) (n : Nat) (vs : List V) (fs : List Fd) : Prop where
  len : vs.length = fs.length
  sh : ∀ (i : Nat) (d : D), fs[i]? = some (.sh d) → ∃ v, vs[i]? = some v ∧ Rep T K F G v d
  own : ∀ (i : Nat) (ds : List D), fs[i]? = some (.own ds) → ∃ p us, vs[i]? = some (.ref p) ∧ W p = some (.fld n i) ∧ H p = some (.lst us) ∧ Reps T K F G us ds
def COk (T : Tab) (K : Frag) (F : FS) (G H : Hp) (W : Own) (n : Nat) (a : Addr) : Cell → Prop
  | .dead => True
  | .lst ds => W a = some (.cell n) ∧ ∃ vs, H a = some (.lst vs) ∧ Reps T K F G vs ds
  | .ins m k fs => W a = some (.cell n) ∧ ∃ C dx fvs names, H a = some (.ins C dx fvs) ∧ T.oc m = some (C, names) ∧ names.length = k ∧ fs.length ≤ k ∧ fvs.map (·.1) = names.take fs.length ∧ FOk T K F G H W n (fvs.map (·.2)) fs
def HeldAt (G : Hp) (a : Addr) : Prop := ∃ oe vs, G a = some (.frz oe (.own a)) ∧ oe.data = .fields vs ∧ vs[2]? = some .none
theorem HeldAt.keep {G G' : Hp} {F : FS} {a : Addr} (h : HeldAt G a) (k : Keep F G G') : HeldAt G' a := let ⟨oe, vs, h1, h2⟩ := h; ⟨oe, vs, k _ _ h1 (.inr ⟨(fun _ z => nomatch z), fun _ z => nomatch z⟩), h2⟩
structure Spl (T : Tab) (K : Frag) (F : FS) (W : Own) (M : Mem) (G H : Hp) : Prop where
  len : T.cl.length = M.length
  ok : ∀ (n : Nat) (c : Cell), M[n]? = some c → ∃ a, T.cl[n]? = some a ∧ COk T K F G H W n a c
  off : ∀ a, W a ≠ none → G a = none
  on : ∀ a, W a = none → G a = H a
  kind : ∀ a, W a ≠ none → (∃ xs, H a = some (.lst xs)) ∨ ∃ C dx fs, H a = some (.ins C dx fs) ∧ ∀ n names, T.oc n = some (C, names) → mutN n = true
  hd : ∀ a, T.hd = some a → HeldAt G a
section
variable {T : Tab} {K : Frag} {F F' : FS} {W : Own} {M : Mem} {G G' H H' : Hp}
theorem Spl.ext (s : Spl T K F W M G H) : Ext G H := fun a o e => by
  cases q : W a with
  | none => rw [← s.on a q]; exact e
  | some t => rw [s.off a (by rw [q]; simp)] at e; cases e
theorem Spl.wz (s : Spl T K F W M G H) {a : Addr} (h : G a ≠ none) : W a = none := by
  cases q : W a with
  | none => rfl
  | some t => exact absurd (s.off a (by rw [q]; simp)) h
theorem Spl.there (s : Spl T K F W M G H) {a : Addr} (h : W a ≠ none) : H a ≠ none := by
  rcases s.kind a h with ⟨xs, e⟩ | ⟨C, dx, fs, e, _⟩ <;> rw [e] <;> simp
def restr (W : Own) (H : Hp) : Hp := fun a => match W a with
  | none => H a
  | some _ => none
theorem restr_on {a : Addr} (h : W a = none) : restr W H a = H a := by unfold restr; rw [h]
theorem restr_off {a : Addr} (h : W a ≠ none) : restr W H a = none := by
  unfold restr
  cases q : W a with
  | none => exact absurd q h
  | some t => rfl
theorem FOk.keep {n : Nat} {vs : List V} {fs : List Fd} (h : FOk T K F G H W n vs fs) (k : Keep F G G') (f : ∀ a, F a → F' a) (e : ∀ p, W p ≠ none → H' p = H p) : FOk T K F' G' H' W n vs fs where
  len := h.len
  sh := fun i d q => let ⟨v, h1, h2⟩ := h.sh i d q; ⟨v, h1, h2.keep k f⟩
  own := fun i ds q => let ⟨p, us, h1, h2, h3, h4⟩ := h.own i ds q; ⟨p, us, h1, h2, by rw [e p (by rw [h2]; simp)]; exact h3, h4.keep k f⟩
theorem COk.keep {n : Nat} {a : Addr} {c : Cell} (h : COk T K F G H W n a c) (k : Keep F G G') (f : ∀ a, F a → F' a) (e : ∀ p, W p ≠ none → H' p = H p) : COk T K F' G' H' W n a c := by
  cases c with
  | dead => trivial
  | lst ds => obtain ⟨h1, vs, h2, h3⟩ := h; exact ⟨h1, vs, by rw [e a (by rw [h1]; simp)]; exact h2, h3.keep k f⟩
  | ins m kk fs => obtain ⟨h1, C, dx, fvs, names, h2, h3, h4, h5, h6, h7⟩ := h; exact ⟨h1, C, dx, fvs, names, by rw [e a (by rw [h1]; simp)]; exact h2, h3, h4, h5, h6, h7.keep k f e⟩
theorem Spl.keep (s : Spl T K F W M G H) (k : Keep F G G') (f : ∀ a, F a → F' a) (e : ∀ p, W p ≠ none → H' p = H p) (off : ∀ a, W a ≠ none → G' a = none) (on : ∀ a, W a = none → G' a = H' a) : Spl T K F' W M G' H' where
  len := s.len
  ok := fun n c q => let ⟨a, h1, h2⟩ := s.ok n c q; ⟨a, h1, h2.keep k f e⟩
  off := off
  on := on
  kind := fun a q => by rw [e a q]; exact s.kind a q
  hd := fun a q => (s.hd a q).keep k
theorem Spl.grow (s : Spl T K F W M G H) (wf : ∀ a, F a → G a ≠ none) (g : Grow H H' F F') : Spl T K F' W M (restr W H') H' ∧ Grow G (restr W H') F F' := by
  have e : ∀ p, W p ≠ none → H' p = H p := fun p q => by
    cases z : H p with
    | none => exact absurd z (s.there q)
    | some o => exact g.ext p o z
  have ex : Ext G (restr W H') := fun a o q => by
    rw [restr_on (s.wz (by rw [q]; simp))]
    exact g.ext a o (s.ext a o q)
  refine ⟨s.keep ex.keep g.more e (fun a q => restr_off q) (fun a q => restr_on q), ex, g.more, fun a q => ?_, fun a q => ?_⟩
  · rcases g.new a q with z | z
    · exact .inl z
    · exact .inr (s.ext.none z)
  · have hw : W a = none := by
      cases z : W a with
      | none => rfl
      | some t =>
        rcases g.new a q with y | y
        · exact s.wz (wf a y) ▸ z ▸ rfl
        · exact absurd y (s.there (by rw [z]; simp))
    rw [restr_on hw]
    exact g.wf a q
end
mutual
def flatD : D → Bool
  | .non => true
  | .bl _ => true
  | .int _ => true
  | .str _ => true
  | .fn _ => true
  | .cell _ => true
  | .tup ds => flatDs ds
  | _ => false
def flatDs : List D → Bool
  | [] => true
  | d :: ds => flatD d && flatDs ds
end
def headT : List D → Bool
  | [] => true
  | .tup ds :: _ => !decide (ds.length = 3)
  | .int _ :: _ => true
  | .str _ :: _ => true
  | .bl _ :: _ => true
  | .non :: _ => true
  | _ => false
mutual
def okD : D → Bool
  | .tup ds => okDs ds
  | .lst ds => headT ds && okDs ds
  | .obj n ds => !mutN n && okDs ds
  | .dic _ ds => okDs ds
  | _ => true
def okDs : List D → Bool
  | [] => true
  | d :: ds => okD d && okDs ds
end
def KD (K : Frag) (H : Hp) : Prop := ∀ a o, K.lookup a = some o → H a = none
theorem Inv.kd {X : Cx} {pins : List (Addr × Obj)} {σ : L2.St} {H : Hp} {s : Shared} (I : Inv X pins σ H s) : KD X.K H := fun a o e => (I.bs a o (I.ok.mod.kin a o e)).2
section
variable {T : Tab} {K : Frag} {F F' : FS} {W : Own} {M : Mem} {G G' H H' : Hp}
theorem sqT_off {a : Addr} {vs : List V} (kd : ∀ a, W a ≠ none → (∃ xs, H a = some (.lst xs)) ∨ ∃ C dx fs, H a = some (.ins C dx fs)) (h : SqT K H a vs) : SqT K (restr W H) a vs := by
  have hw : ∀ o, H a = some o → (∀ xs, o ≠ .lst xs) → (∀ C dx fs, o ≠ .ins C dx fs) → restr W H a = some o := fun o e n1 n2 => by
    cases z : W a with
    | none => rw [restr_on z]; exact e
    | some t =>
      rcases kd a (by rw [z]; simp) with ⟨xs, q⟩ | ⟨C, dx, fs, q⟩
      · rw [e] at q; cases q; exact absurd rfl (n1 xs)
      · rw [e] at q; cases q; exact absurd rfl (n2 C dx fs)
  rcases h with (h | ⟨o, h⟩) | h
  · exact .inl (.inl (hw _ h (fun _ z => nomatch z) (fun _ _ _ z => nomatch z)))
  · exact .inl (.inr ⟨o, hw _ h (fun _ z => nomatch z) (fun _ _ _ z => nomatch z)⟩)
  · exact .inr h
end
section
variable {T : Tab} {K : Frag} {F : FS} {W : Own} {H : Hp}
structure Out0 (T : Tab) (F : FS) (W : Own) (H : Hp) : Prop where
  tab : IsTab T
  mt : T.mt = false
  fr : ∀ a, F a → W a = none
  kind : ∀ a, W a ≠ none → (∃ xs, H a = some (.lst xs)) ∨ ∃ C dx fs, H a = some (.ins C dx fs) ∧ ∀ n names, T.oc n = some (C, names) → mutN n = true
theorem Out0.kd (o : Out0 T F W H) : ∀ a, W a ≠ none → (∃ xs, H a = some (.lst xs)) ∨ ∃ C dx fs, H a = some (.ins C dx fs) := fun a h => (o.kind a h).imp id fun ⟨C, dx, fs, e, _⟩ => ⟨C, dx, fs, e⟩
theorem Out0.at (o : Out0 T F W H) {a : Addr} {u : HO} (e : H a = some u) (n1 : ∀ xs, u ≠ .lst xs) (n2 : ∀ C dx fs, u ≠ .ins C dx fs) : restr W H a = some u := by
  cases z : W a with
  | none => rw [restr_on z]; exact e
  | some t =>
    rcases o.kd a (by rw [z]; simp) with ⟨xs, q⟩ | ⟨C, dx, fs, q⟩
    · rw [e] at q; cases q; exact absurd rfl (n1 xs)
    · rw [e] at q; cases q; exact absurd rfl (n2 C dx fs)
mutual
theorem Rep.shrink (o : Out0 T F W H) : ∀ {v : V} {d : D}, Rep T K F H v d → Rep T K F (restr W H) v d
  | _, _, .non => .non
  | _, _, .bl b => .bl b
  | _, _, .int i => .int i
  | _, _, .str x => .str x
  | _, _, .tup h r => .tup (sqT_off o.kd h) (Reps.shrink o r)
  | _, _, .lst h r => by
    refine .lst ?_ (Reps.shrink o r)
    rcases h with ⟨f, h | ⟨u, h⟩⟩ | h
    · exact .inl ⟨f, .inl (by rw [restr_on (o.fr _ f)]; exact h)⟩
    · exact .inl ⟨f, .inr ⟨u, by rw [restr_on (o.fr _ f)]; exact h⟩⟩
    · exact .inr h
  | _, _, .dct h => .dct (o.at h (fun _ z => nomatch z) (fun _ _ _ z => nomatch z))
  | _, _, .fn h => .fn h
  | _, _, .exn h nl e => by
    refine .exn (o.at h nl.1 fun C dx fs z => ?_) nl e
    rw [o.tab.ex] at e
    obtain ⟨oe, vs, e1, _⟩ := e
    rw [e1] at z
    cases z
  | _, _, .obj (a := a) (dx := dx) (n := n) g h t r => by
    refine .obj g (dx := dx) ?_ t (Reps.shrink o r)
    cases z : W a with
    | none => rw [restr_on z]; exact h
    | some tg =>
      rcases o.kind a (by rw [z]; simp) with ⟨xs, q⟩ | ⟨C, dx, fs, q, m⟩
      · rw [h] at q; cases q
      · rw [h] at q
        cases q
        rw [m n _ t, o.mt] at g
        rcases g with g | g <;> cases g
  | _, _, .cell h => .cell h
  | _, _, .dic f h r => .dic f (by rw [restr_on (o.fr _ f)]; exact h) (Reps.shrink o r)
theorem Reps.shrink (o : Out0 T F W H) : ∀ {vs : List V} {ds : List D}, Reps T K F H vs ds → Reps T K F (restr W H) vs ds
  | _, _, .nil => .nil
  | _, _, .cons r t => .cons (Rep.shrink o r) (Reps.shrink o t)
end
mutual
theorem Rep.up : ∀ {v : V} {d : D}, Rep T K F H v d → Rep T.up K F H v d
  | _, _, .non => .non
  | _, _, .bl b => .bl b
  | _, _, .int i => .int i
  | _, _, .str x => .str x
  | _, _, .tup h r => .tup h (Reps.up r)
  | _, _, .lst h r => .lst h (Reps.up r)
  | _, _, .dct h => .dct h
  | _, _, .fn h => .fn h
  | _, _, .exn h nl e => .exn h nl e
  | _, _, .obj g h t r => .obj (.inr rfl) h t (Reps.up r)
  | _, _, .cell h => .cell h
  | _, _, .dic f h r => .dic f h (Reps.up r)
theorem Reps.up : ∀ {vs : List V} {ds : List D}, Reps T K F H vs ds → Reps T.up K F H vs ds
  | _, _, .nil => .nil
  | _, _, .cons r t => .cons (Rep.up r) (Reps.up t)
end
mutual
theorem Rep.flat {F' : FS} (kd : ∀ a, W a ≠ none → (∃ xs, H a = some (.lst xs)) ∨ ∃ C dx fs, H a = some (.ins C dx fs)) : ∀ {v : V} {d : D}, Rep T.up K F H v d → flatD d = true → Rep T K F' (restr W H) v d
  | _, _, .non, _ => .non
  | _, _, .bl b, _ => .bl b
  | _, _, .int i, _ => .int i
  | _, _, .str x, _ => .str x
  | _, _, .tup h r, e => .tup (sqT_off kd h) (Reps.flat kd r (by simpa only [flatD] using e))
  | _, _, .lst h r, e => by simp only [flatD] at e; cases e
  | _, _, .dct h, e => by simp only [flatD] at e; cases e
  | _, _, .fn h, _ => .fn h
  | _, _, .exn h nl x, e => by simp only [flatD] at e; cases e
  | _, _, .obj _ h t r, e => by simp only [flatD] at e; cases e
  | _, _, .cell h, _ => .cell h
  | _, _, .dic _ h r, e => by simp only [flatD] at e; cases e
theorem Reps.flat {F' : FS} (kd : ∀ a, W a ≠ none → (∃ xs, H a = some (.lst xs)) ∨ ∃ C dx fs, H a = some (.ins C dx fs)) : ∀ {vs : List V} {ds : List D}, Reps T.up K F H vs ds → flatDs ds = true → Reps T K F' (restr W H) vs ds
  | _, _, .nil, _ => .nil
  | _, _, .cons r t, e => by
    simp only [flatDs, Bool.and_eq_true] at e
    exact .cons (Rep.flat kd r e.1) (Reps.flat kd t e.2)
end
def Hd (K : Frag) (H : Hp) (b : Addr) : Prop := (∃ C dx fs, H b = some (.ins C dx fs)) ∨ ∃ xs, SqT K H b xs ∧ xs.length = 3
theorem sqT_len {b : Addr} {xs ys : List V} (kd : KD K H) (h : SqT K H b xs) (k : SqT K H b ys) : xs.length = ys.length := by
  rcases h with (h | ⟨o, h⟩) | ⟨o, its, n, h, h2⟩ <;> rcases k with (k | ⟨o', k⟩) | ⟨o', its', n', k, k2⟩
  · rw [h] at k; cases k; rfl
  · rw [h] at k; cases k
  · rw [kd b _ k] at h; cases h
  · rw [h] at k; cases k
  · rw [h] at k; cases k; rfl
  · rw [kd b _ k] at h; cases h
  · rw [kd b _ h] at k; cases k
  · rw [kd b _ h] at k; cases k
  · rw [h] at k
    cases k
    obtain ⟨_, z, _, v⟩ := h2
    obtain ⟨_, z', _, v'⟩ := k2
    rw [z] at z'
    have z2 : its = its' := by cases z'; rfl
    rw [v.length, v'.length, z2]
structure Out1 (T : Tab) (K : Frag) (F : FS) (W : Own) (H : Hp) : Prop where
  tab : IsTab T
  kind : ∀ a, W a ≠ none → (∃ xs, H a = some (.lst xs)) ∨ ∃ C dx fs, H a = some (.ins C dx fs) ∧ ∀ n names, T.oc n = some (C, names) → mutN n = true
  kd : KD K H
  al : ∀ a, F a → W a ≠ none → ∃ us b, H a = some (.lst (.ref b :: us)) ∧ Hd K H b
theorem Out1.kk (o : Out1 T K F W H) : ∀ a, W a ≠ none → (∃ xs, H a = some (.lst xs)) ∨ ∃ C dx fs, H a = some (.ins C dx fs) := fun a h => (o.kind a h).imp id fun ⟨C, dx, fs, e, _⟩ => ⟨C, dx, fs, e⟩
theorem Out1.no (o : Out1 T K F W H) {a : Addr} {vs : List V} {ds : List D} (f : F a) (h : Rd H a (.lst vs)) (r : Reps T.up K F H vs ds) (e : headT ds = true) : W a = none := by
  cases z : W a with
  | none => rfl
  | some t =>
    obtain ⟨us, b, h1, hd⟩ := o.al a f (by rw [z]; simp)
    have e1 : vs = .ref b :: us := by
      rcases h with h | ⟨u, h⟩
      · rw [h1] at h; cases h; rfl
      · rw [h1] at h; cases h
    subst e1
    cases r with
    | cons r1 r2 =>
      cases r1 with
      | tup q rr =>
        rcases hd with ⟨C, dx, fs, h2⟩ | ⟨xs, h2, h3⟩
        · rcases q with (q | ⟨_, q⟩) | ⟨_, _, _, q, _⟩
          · rw [h2] at q; cases q
          · rw [h2] at q; cases q
          · rw [o.kd b _ q] at h2; cases h2
        · have z3 := sqT_len o.kd h2 q
          have z4 := rr.length
          simp only [headT, Bool.not_eq_true', decide_eq_false_iff_not] at e
          omega
      | lst q _ => cases e
      | dct _ => cases e
      | fn _ => cases e
      | exn _ _ _ => cases e
      | obj _ _ _ _ => cases e
      | cell _ => cases e
      | dic _ _ _ => cases e
mutual
theorem Rep.okk (o : Out1 T K F W H) : ∀ {v : V} {d : D}, Rep T.up K F H v d → okD d = true → Rep T K (fun a => F a ∧ W a = none) (restr W H) v d
  | _, _, .non, _ => .non
  | _, _, .bl b, _ => .bl b
  | _, _, .int i, _ => .int i
  | _, _, .str x, _ => .str x
  | _, _, .tup h r, e => .tup (sqT_off o.kk h) (Reps.okk o r (by simpa only [okD] using e))
  | _, _, .lst h r, e => by
    simp only [okD, Bool.and_eq_true] at e
    refine .lst ?_ (Reps.okk o r e.2)
    rcases h with ⟨f, h⟩ | h
    · have hw := o.no f h r e.1
      rcases h with h | ⟨u, h⟩
      · exact .inl ⟨⟨f, hw⟩, .inl (by rw [restr_on hw]; exact h)⟩
      · exact .inl ⟨⟨f, hw⟩, .inr ⟨u, by rw [restr_on hw]; exact h⟩⟩
    · exact .inr h
  | _, _, .dct (a := a) h, _ => .dct (by
    cases z : W a with
    | none => rw [restr_on z]; exact h
    | some t =>
      rcases o.kk a (by rw [z]; simp) with ⟨xs, q⟩ | ⟨C, dx, fs, q⟩
      · rw [h] at q; cases q
      · rw [h] at q; cases q)
  | _, _, .fn h, _ => .fn h
  | _, _, .exn (a := a) (o := u) h nl e, _ => by
    refine .exn (o := u) ?_ nl e
    cases z : W a with
    | none => rw [restr_on z]; exact h
    | some t =>
      have e : T.ex _ _ _ := e
      rw [o.tab.ex] at e
      obtain ⟨oe, vs, e1, _⟩ := e
      rcases o.kk a (by rw [z]; simp) with ⟨xs, q⟩ | ⟨C, dx, fs, q⟩
      · rw [h] at q; cases q; exact absurd rfl (nl.1 xs)
      · rw [h, e1] at q; cases q
  | _, _, .obj (a := a) (dx := dx) (n := n) g h t r, e => by
    simp only [okD, Bool.and_eq_true, Bool.not_eq_true'] at e
    refine .obj (.inl e.1) (dx := dx) ?_ t (Reps.okk o r e.2)
    cases z : W a with
    | none => rw [restr_on z]; exact h
    | some tg =>
      rcases o.kind a (by rw [z]; simp) with ⟨xs, q⟩ | ⟨C, dx, fs, q, m⟩
      · rw [h] at q; cases q
      · rw [h] at q
        cases q
        rw [m n _ t] at e
        cases e.1
  | _, _, .cell h, _ => .cell h
  | _, _, .dic (a := a) f h r, e => by
    have hw : W a = none := by
      cases z : W a with
      | none => rfl
      | some t =>
        rcases o.kk a (by rw [z]; simp) with ⟨xs, q⟩ | ⟨C, dx, fs, q⟩
        · rw [h] at q; cases q
        · rw [h] at q; cases q
    exact .dic ⟨f, hw⟩ (by rw [restr_on hw]; exact h) (Reps.okk o r (by simpa only [okD] using e))
theorem Reps.okk (o : Out1 T K F W H) : ∀ {vs : List V} {ds : List D}, Reps T.up K F H vs ds → okDs ds = true → Reps T K (fun a => F a ∧ W a = none) (restr W H) vs ds
  | _, _, .nil, _ => .nil
  | _, _, .cons r t, e => by
    simp only [okDs, Bool.and_eq_true] at e
    exact .cons (Rep.okk o r e.1) (Reps.okk o t e.2)
end
end
def fdV : Fd → D
  | .sh d => d
  | .own ds => .lst ds
def see0 (M : Mem) : Nat → D → D
  | 0, d => d
  | j + 1, .cell n => (match M[n]? with
    | some (.ins m k fs) => if decide (fs.length = k) = true then .obj m (fs.map fdV) else .cell n
    | some (.lst ds) => .lst (ds.map (see0 M j))
    | _ => .cell n)
  | j + 1, .tup ds => .tup (ds.map (see0 M j))
  | _ + 1, d => d
section
variable {T : Tab} {K : Frag} {F F1 : FS} {W : Own} {M : Mem} {G H : Hp}
theorem reps_of {vs : List V} : ∀ {us : List V} {ds : List D}, us.length = ds.length → (∀ (i : Nat) (d : D), ds[i]? = some d → ∃ v, us[i]? = some v ∧ Rep T K F G v d) → Reps T K F G us ds
  | [], [], _, _ => .nil
  | [], _ :: _, h, _ => by simp at h
  | _ :: _, [], h, _ => by simp at h
  | u :: us, d :: ds, h, k => by
    obtain ⟨v, e, r⟩ := k 0 d rfl
    cases e
    exact .cons r (reps_of (vs := vs) (by simpa using h) fun i d e => by simpa using k (i + 1) d (by simpa using e))
theorem obj_seen {n m k : Nat} {fs : List Fd} {a : Addr} (s : Spl T K F W M G H) (q : M[n]? = some (.ins m k fs)) (hk : fs.length = k) (ha : T.cl[n]? = some a) (hF : ∀ a, F a → F1 a)
    (hS : ∀ (p : Addr) (us : List V) (ds : List D) (i : Nat), fs[i]? = some (.own ds) → W p = some (.fld n i) → H p = some (.lst us) → Reps T K F G us ds → F1 p) : Rep T.up K F1 H (.ref a) (.obj m (fs.map fdV)) := by
  obtain ⟨a', h1, _, C, dx, fvs, names, h2, h3, h4, h5, h6, h7⟩ := s.ok n _ q
  rw [ha] at h1
  cases h1
  refine .obj (.inr rfl) h2 (show T.oc m = _ by rw [h6, hk, ← h4, List.take_length]; exact h3) (reps_of (vs := []) (by rw [h7.len]; simp) fun i d e => ?_)
  rw [List.getElem?_map] at e
  cases z : fs[i]? with
  | none => rw [z] at e; cases e
  | some f =>
    rw [z] at e
    cases e
    cases f with
    | sh d => obtain ⟨v, e1, e2⟩ := h7.sh i d z; exact ⟨v, e1, (e2.keep s.ext.keep hF).up⟩
    | own ds =>
      obtain ⟨p, us, e1, e2, e3, e4⟩ := h7.own i ds z
      exact ⟨_, e1, .lst (.inl ⟨hS p us ds i z e2 e3 e4, .inl e3⟩) (e4.keep s.ext.keep hF).up⟩
theorem see0_rep (s : Spl T K F W M G H) : ∀ (j : Nat) {v : V} {d : D}, Rep T K F G v d → Rep T.up K (fun a => F a ∨ W a ≠ none) H v (see0 M j d)
  | 0, _, _, r => by unfold see0; exact (r.keep s.ext.keep fun _ h => .inl h).up
  | j + 1, v, d, r => by
    have all : ∀ {vs : List V} {ds : List D}, Reps T K F G vs ds → Reps T.up K (fun a => F a ∨ W a ≠ none) H vs (ds.map (see0 M j)) := fun {vs ds} h => by
      induction ds generalizing vs with
      | nil => cases h; exact .nil
      | cons d ds ih => cases h with | cons r t => exact .cons (see0_rep s j r) (ih t)
    cases d with
    | cell n =>
      unfold see0
      split
      · rename_i m k fs q
        split
        · rename_i h
          cases r with
          | cell ha => exact obj_seen s q (of_decide_eq_true h) ha (fun _ h => .inl h) fun p us ds i z e1 e2 e3 => .inr (by rw [e1]; simp)
        · exact (r.keep s.ext.keep fun _ h => .inl h).up
      · rename_i ds q
        obtain ⟨a', h1, h2, vs, h3, h4⟩ := s.ok n _ q
        cases r with
        | cell ha =>
          rw [ha] at h1
          cases h1
          exact .lst (.inl ⟨.inr (by rw [h2]; simp), .inl h3⟩) (all h4)
      · exact (r.keep s.ext.keep fun _ h => .inl h).up
    | tup ds =>
      unfold see0
      cases r with
      | tup h t => exact .tup (SqT.keep (F := F) s.ext.keep h) (all t)
    | _ => unfold see0; exact (r.keep s.ext.keep fun _ h => .inl h).up
end
end BD
namespace BD
open PySem PySem.Spec L2 PySem.W PyProof.Rows
abbrev MEv := Rho → Mem → Option (Out × Mem)
abbrev MEvL := Rho → Mem → Option (OutL × Mem)
abbrev MSv := Rho → Mem → Option (Fl × Mem)
section
variable {T : Tab} {K : Frag} {F F' F1 F2 : FS} {W : Own} {M : Mem} {G G' G1 G2 H H' : Hp} {φ φ' φ1 φ2 : List Addr}
mutual
theorem Rep.pre (h : φ <+: φ') : ∀ {v : V} {d : D}, Rep (T.wc φ) K F G v d → Rep (T.wc φ') K F G v d
  | _, _, .non => .non
  | _, _, .bl b => .bl b
  | _, _, .int i => .int i
  | _, _, .str x => .str x
  | _, _, .tup q r => .tup q (Reps.pre h r)
  | _, _, .lst q r => .lst q (Reps.pre h r)
  | _, _, .dct q => .dct q
  | _, _, .fn q => .fn q
  | _, _, .exn q nl e => .exn q nl e
  | _, _, .obj g q t r => .obj g q t (Reps.pre h r)
  | _, _, .cell (n := n) q => .cell (by
    obtain ⟨l, rfl⟩ := h
    have q : φ[n]? = some _ := q
    show (φ ++ l)[n]? = some _
    rw [List.getElem?_append_left (List.getElem?_eq_some_iff.mp q).1]
    exact q)
  | _, _, .dic f q r => .dic f q (Reps.pre h r)
theorem Reps.pre (h : φ <+: φ') : ∀ {vs : List V} {ds : List D}, Reps (T.wc φ) K F G vs ds → Reps (T.wc φ') K F G vs ds
  | _, _, .nil => .nil
  | _, _, .cons r t => .cons (Rep.pre h r) (Reps.pre h t)
end
theorem Rel.pre {c : Ent} {ρ : Rho} {σ : L2.St} (h : φ <+: φ') (r : Rel (T.wc φ) K c ρ σ G F) : Rel (T.wc φ') K c ρ σ G F where
  len := r.len
  sh := fun i d e => let ⟨v, h1, h2⟩ := r.sh i d e; ⟨v, h1, h2.pre h⟩
  own := fun i ds e => let ⟨p, vs, h1, h2, h3, h4, h5, h6⟩ := r.own i ds e; ⟨p, vs, h1, h2, h3.pre h, h4, h5, h6⟩
  mp := fun i ks ds e => let ⟨p, kvs, h1, h2, hk, h3, h4, h5, h6⟩ := r.mp i ks ds e; ⟨p, kvs, h1, h2, hk, h3.pre h, h4, h5, h6⟩
  ext := r.ext
  f0 := r.f0
  f1 := r.f1
  wf := r.wf
structure Evo (φ φ' : List Addr) (G G' : Hp) (F F' : FS) : Prop where
  gr : Grow G G' F F'
  cl : φ <+: φ'
theorem Evo.refl (wf : ∀ a, F a → G a ≠ none) : Evo φ φ G G F F := ⟨.refl wf, List.prefix_refl _⟩
theorem Evo.trans (a : Evo φ φ1 G G1 F F1) (b : Evo φ1 φ2 G1 G2 F1 F2) : Evo φ φ2 G G2 F F2 := ⟨a.gr.trans b.gr, a.cl.trans b.cl⟩
theorem Rep.evo {v : V} {d : D} (e : Evo φ φ' G G' F F') (r : Rep (T.wc φ) K F G v d) : Rep (T.wc φ') K F' G' v d := (r.pre e.cl).grow e.gr
theorem Reps.evo {v : List V} {d : List D} (e : Evo φ φ' G G' F F') (r : Reps (T.wc φ) K F G v d) : Reps (T.wc φ') K F' G' v d := (r.pre e.cl).grow e.gr
theorem Rel.evo {c : Ent} {ρ : Rho} {σ : L2.St} (e : Evo φ φ' G G' F F') (r : Rel (T.wc φ) K c ρ σ G F) : Rel (T.wc φ') K c ρ σ G' F' := (r.pre e.cl).grow e.gr
end
def ThenM (T : Tab) (K : Frag) (E : XK) (φ : List Addr) (M' : Mem) (G : Hp) (F : FS) (Q : VK) : Out → Prop
  | .val d => ∀ v H' φ' F' W' G', Evo φ φ' G G' F F' → Spl (T.wc φ') K F' W' M' G' H' → Rep (T.wc φ') K F' G' v d → Q v H'
  | .exc n => ∀ H' φ' F' W' G', Evo φ φ' G G' F F' → Spl (T.wc φ') K F' W' M' G' H' → E (T.clsV n) none H'
def ThenMB (T : Tab) (K : Frag) (E : XK) (φ : List Addr) (M' : Mem) (G : Hp) (F : FS) (Q : Bool → Hp → Prop) : Out → Prop
  | .val (.bl b) => ∀ H' φ' F' W' G', Evo φ φ' G G' F F' → Spl (T.wc φ') K F' W' M' G' H' → Q b H'
  | .val _ => False
  | .exc n => ∀ H' φ' F' W' G', Evo φ φ' G G' F F' → Spl (T.wc φ') K F' W' M' G' H' → E (T.clsV n) none H'
def ThenML (T : Tab) (K : Frag) (E : XK) (φ : List Addr) (M' : Mem) (G : Hp) (F : FS) (Q : List V → Hp → Prop) : OutL → Prop
  | .vals ds => ∀ vs H' φ' F' W' G', Evo φ φ' G G' F F' → Spl (T.wc φ') K F' W' M' G' H' → Reps (T.wc φ') K F' G' vs ds → Q vs H'
  | .exc n => ∀ H' φ' F' W' G', Evo φ φ' G G' F F' → Spl (T.wc φ') K F' W' M' G' H' → E (T.clsV n) none H'
section
variable {T : Tab} {K : Frag} {E : XK} {F F' : FS} {M M' : Mem} {G G' H H' : Hp} {φ φ' : List Addr}
theorem ThenM.evo {Q : VK} {o : Out} (e : Evo φ φ' G G' F F') (h : ThenM T K E φ M' G F Q o) : ThenM T K E φ' M' G' F' Q o := by
  cases o with
  | val d => exact fun v H' φ' F' W' G' e' s r => h v H' φ' F' W' G' (e.trans e') s r
  | exc n => exact fun H' φ' F' W' G' e' s => h H' φ' F' W' G' (e.trans e') s
theorem ThenMB.evo {Q : Bool → Hp → Prop} {o : Out} (e : Evo φ φ' G G' F F') (h : ThenMB T K E φ M' G F Q o) : ThenMB T K E φ' M' G' F' Q o := by
  cases o with
  | val d =>
    cases d with
    | bl b => exact fun H' φ' F' W' G' e' s => h H' φ' F' W' G' (e.trans e') s
    | _ => exact h
  | exc n => exact fun H' φ' F' W' G' e' s => h H' φ' F' W' G' (e.trans e') s
theorem ThenML.evo {Q : List V → Hp → Prop} {o : OutL} (e : Evo φ φ' G G' F F') (h : ThenML T K E φ M' G F Q o) : ThenML T K E φ' M' G' F' Q o := by
  cases o with
  | vals d => exact fun v H' φ' F' W' G' e' s r => h v H' φ' F' W' G' (e.trans e') s r
  | exc n => exact fun H' φ' F' W' G' e' s => h H' φ' F' W' G' (e.trans e') s
end
def noOwn : Rho → Bool
  | [] => true
  | some (.own _) :: _ => false
  | some (.mp _ _) :: _ => false
  | _ :: ρ => noOwn ρ
theorem noOwn_get : ∀ {ρ : Rho} {i : Nat} {ds : List D}, noOwn ρ = true → ρ[i]? ≠ some (some (.own ds))
  | [], i, ds, _, e => by simp at e
  | some (.own _) :: ρ, i, ds, h, e => by simp [noOwn] at h
  | some (.mp _ _) :: ρ, i, ds, h, e => by simp [noOwn] at h
  | none :: ρ, 0, ds, h, e => by simp at e
  | some (.sh _) :: ρ, 0, ds, h, e => by simp at e
  | none :: ρ, i + 1, ds, h, e => noOwn_get (ρ := ρ) (i := i) (ds := ds) (by simpa [noOwn] using h) (by simpa using e)
  | some (.sh _) :: ρ, i + 1, ds, h, e => noOwn_get (ρ := ρ) (i := i) (ds := ds) (by simpa [noOwn] using h) (by simpa using e)
theorem noMp_get : ∀ {ρ : Rho} {i : Nat} {ks : List (List Key)} {ds : List D}, noOwn ρ = true → ρ[i]? ≠ some (some (.mp ks ds))
  | [], i, _, ds, _, e => by simp at e
  | some (.own _) :: ρ, i, _, ds, h, e => by simp [noOwn] at h
  | some (.mp _ _) :: ρ, i, _, ds, h, e => by simp [noOwn] at h
  | none :: ρ, 0, _, ds, h, e => by simp at e
  | some (.sh _) :: ρ, 0, _, ds, h, e => by simp at e
  | none :: ρ, i + 1, ks, ds, h, e => noMp_get (ρ := ρ) (i := i) (ks := ks) (ds := ds) (by simpa [noOwn] using h) (by simpa using e)
  | some (.sh _) :: ρ, i + 1, ks, ds, h, e => noMp_get (ρ := ρ) (i := i) (ks := ks) (ds := ds) (by simpa [noOwn] using h) (by simpa using e)
structure RM (T : Tab) (K : Frag) (φ : List Addr) (c : Ent) (ρ : Rho) (M : Mem) (σ : L2.St) (H : Hp) (F : FS) (W : Own) (G : Hp) : Prop where
  rel : Rel (T.wc φ) K c ρ σ G F
  no : noOwn ρ = true
  spl : Spl (T.wc φ) K F W M G H
def tM (T : Tab) (K : Frag) (E : XK) (f : MEv) : TE := fun σ H Q => ∃ φ c ρ M F W G out M', RM T K φ c ρ M σ H F W G ∧ f ρ M = some (out, M') ∧ ThenM T K E φ M' G F Q out
def tMT (T : Tab) (K : Frag) (E : XK) (f : MEv) : TT := fun σ H Q => ∃ φ c ρ M F W G out M', RM T K φ c ρ M σ H F W G ∧ f ρ M = some (out, M') ∧ ThenMB T K E φ M' G F Q out
def tMA (T : Tab) (K : Frag) (E : XK) (f : MEvL) : TA := fun σ H Q => ∃ φ c ρ M F W G out M', RM T K φ c ρ M σ H F W G ∧ f ρ M = some (out, M') ∧ ThenML T K E φ M' G F Q out
structure JM (X : Cx) (T : Tab) (E : XK) (e : Expr) (f : MEv) : Prop where h : PE X e (tM T X.K E f)
structure JMT (X : Cx) (T : Tab) (E : XK) (e : Expr) (f : MEv) : Prop where h : PT X e (tMT T X.K E f)
structure JMW (X : Cx) (T : Tab) (E : XK) (e : Expr) (f : MEv) : Prop where h : PW X e (tMT T X.K E f)
structure JMA (X : Cx) (T : Tab) (E : XK) (es : List Expr) (f : MEvL) : Prop where h : PA X es (tMA T X.K E f)
theorem RM.evo {T : Tab} {K : Frag} {φ φ' : List Addr} {c : Ent} {ρ : Rho} {M M' : Mem} {σ : L2.St} {H H' : Hp} {F F' : FS} {W W' : Own} {G G' : Hp} (r : RM T K φ c ρ M σ H F W G) (e : Evo φ φ' G G' F F') (s : Spl (T.wc φ') K F' W' M' G' H') : RM T K φ' c ρ M' σ H' F' W' G' := ⟨r.rel.evo e, r.no, s⟩
section
variable {T : Tab} {K : Frag} {E : XK} {F F' F1 F2 : FS} {W : Own} {M : Mem} {G H H' : Hp} {φ : List Addr} {c : Ent} {ρ : Rho} {σ : L2.St}
theorem isTab_wc (h : IsTab T) : IsTab (T.wc φ) := ⟨h.ex⟩
theorem RM.up (r : RM T K φ c ρ M σ H F W G) (m : ∀ a, F a → F1 a) (n : ∀ a, F1 a → F a ∨ W a ≠ none) : Rel (T.wc φ) K c ρ σ H F1 where
  len := r.rel.len
  sh := fun i d e => let ⟨v, h1, h2⟩ := r.rel.sh i d e; ⟨v, h1, h2.keep r.spl.ext.keep m⟩
  own := fun i ds e => by
    obtain ⟨p, vs, h1, h2, h3, h4, h5, h6⟩ := r.rel.own i ds e
    refine ⟨p, vs, h1, r.spl.ext _ _ h2, h3.keep r.spl.ext.keep m, fun z => ?_, h5, h6⟩
    rcases n p z with z | z
    · exact h4 z
    · exact z (r.spl.wz (by rw [h2]; simp))
  mp := fun i ks ds e => by
    obtain ⟨p, kvs, h1, h2, hk, h3, h4, h5, h6⟩ := r.rel.mp i ks ds e
    refine ⟨p, kvs, h1, r.spl.ext _ _ h2, hk, h3.keep r.spl.ext.keep m, fun z => ?_, h5, h6⟩
    rcases n p z with z | z
    · exact h4 z
    · exact z (r.spl.wz (by rw [h2]; simp))
  ext := r.rel.ext.trans r.spl.ext
  f0 := fun a h => m a (r.rel.f0 a h)
  f1 := fun a h => by
    rcases n a h with z | z
    · exact r.rel.f1 a z
    · exact .inr (r.rel.ext.none (r.spl.off a z))
  wf := fun a h => by
    rcases n a h with z | z
    · cases q : G a with
      | none => exact absurd q (r.rel.wf a z)
      | some o => rw [r.spl.ext a o q]; simp
    · exact r.spl.there z
theorem RM.out0 (hT : IsTab T) (r : RM T K φ c ρ M σ H F W G) (g : Grow H H' F F') : Out0 (T.wc φ) F' W H' := by
  have s := (r.spl.grow r.rel.wf g)
  exact ⟨isTab_wc hT, rfl, fun a h => s.1.wz (s.2.wf a h), s.1.kind⟩
theorem RM.exc (r : RM T K φ c ρ M σ H F W G) (e : Ext H H') : Evo φ φ G (restr W H') F F ∧ Spl (T.wc φ) K F W M (restr W H') H' := by
  have g : Grow H H' F F := Grow.ofExt (fun a h => by
    cases q : G a with
    | none => exact absurd q (r.rel.wf a h)
    | some o => rw [r.spl.ext a o q]; simp) e
  have s := r.spl.grow r.rel.wf g
  exact ⟨⟨s.2, List.prefix_refl _⟩, s.1⟩
theorem RM.seen (r : RM T K φ c ρ M σ H F W G) (m : ∀ a, F a → F1 a) (n : ∀ a, F1 a → F a ∨ W a ≠ none) (g : Grow H H' F1 F2) :
    Evo φ φ G (restr W H') F (fun a => F2 a ∧ W a = none) ∧ Spl (T.wc φ) K (fun a => F2 a ∧ W a = none) W M (restr W H') H' := by
  have e : ∀ p, W p ≠ none → H' p = H p := fun p q => by
    cases z : H p with
    | none => exact absurd z (r.spl.there q)
    | some o => exact g.ext p o z
  have ex : Ext G (restr W H') := fun a o q => by
    rw [restr_on (r.spl.wz (by rw [q]; simp))]
    exact g.ext a o (r.spl.ext a o q)
  have mo : ∀ a, F a → F2 a ∧ W a = none := fun a h => ⟨g.more a (m a h), r.spl.wz (r.rel.wf a h)⟩
  refine ⟨⟨⟨ex, mo, fun a q => ?_, fun a q => ?_⟩, List.prefix_refl _⟩, r.spl.keep ex.keep mo e (fun a q => restr_off q) (fun a q => restr_on q)⟩
  · rcases g.new a q.1 with z | z
    · rcases n a z with z | z
      · exact .inl z
      · exact absurd q.2 z
    · exact .inr (r.spl.ext.none z)
  · rw [restr_on q.2]
    exact g.wf a q.1
end
def seeSl (g : D → D) : Sl → Sl
  | .sh d => .sh (g d)
  | s => s
def seeR (g : D → D) (is : List Nat) : Nat → Rho → Rho
  | _, [] => []
  | k, o :: ρ => (if is.contains k = true then o.map (seeSl g) else o) :: seeR g is (k + 1) ρ
theorem seeR_get {g : D → D} {is : List Nat} : ∀ {ρ : Rho} {k i : Nat}, (seeR g is k ρ)[i]? = (ρ[i]?).map fun o => if is.contains (k + i) = true then o.map (seeSl g) else o
  | [], k, i => by simp [seeR]
  | o :: ρ, k, 0 => by simp [seeR]
  | o :: ρ, k, i + 1 => by
    simp only [seeR, List.getElem?_cons_succ]
    rw [seeR_get]
    have : k + 1 + i = k + (i + 1) := by omega
    rw [this]
theorem seeR_len {g : D → D} {is : List Nat} : ∀ {ρ : Rho} {k : Nat}, (seeR g is k ρ).length = ρ.length
  | [], k => rfl
  | o :: ρ, k => by simp [seeR, seeR_len]
theorem Rel.seeR {T : Tab} {K : Frag} {c : Ent} {ρ : Rho} {σ : L2.St} {H G : Hp} {F F1 : FS} {g : D → D} {is : List Nat} (r : Rel T.up K c ρ σ H F1) (r0 : Rel T K c ρ σ G F) (h : ∀ v d, Rep T K F G v d → Rep T.up K F1 H v (g d)) : Rel T.up K c (BD.seeR g is 0 ρ) σ H F1 where
  len := by rw [seeR_len]; exact r.len
  sh := fun i d e => by
    rw [seeR_get] at e
    cases q : ρ[i]? with
    | none => rw [q] at e; cases e
    | some o =>
      rw [q] at e
      simp only [Option.map_some, Option.some.injEq] at e
      split at e
      · cases o with
        | none => cases e
        | some s =>
          cases s with
          | own ds => cases e
          | mp ks ds => cases e
          | sh d' =>
            cases e
            obtain ⟨v, h1, h2⟩ := r0.sh i d' q
            exact ⟨v, h1, h v d' h2⟩
      · subst e
        exact r.sh i d q
  own := fun i ds e => by
    have back : ∀ (j : Nat) (es : List D), (BD.seeR g is 0 ρ)[j]? = some (some (.own es)) → ρ[j]? = some (some (.own es)) := fun j es e => by
      rw [seeR_get] at e
      cases q : ρ[j]? with
      | none => rw [q] at e; cases e
      | some o =>
        rw [q] at e
        simp only [Option.map_some, Option.some.injEq] at e
        split at e
        · cases o with
          | none => cases e
          | some s =>
            cases s with
            | own ds => cases e; rfl
            | mp ks ds => cases e
            | sh d' => cases e
        · rw [e]
    obtain ⟨p, vs, h1, h2, h3, h4, h5, h6⟩ := r.own i ds (back i ds e)
    exact ⟨p, vs, h1, h2, h3, h4, h5, fun j es e1 e2 => h6 j es (back j es e1) e2⟩
  mp := fun i ks ds e => by
    have back : ∀ (j : Nat) (kk : List (List Key)) (es : List D), (BD.seeR g is 0 ρ)[j]? = some (some (.mp kk es)) → ρ[j]? = some (some (.mp kk es)) := fun j kk es e => by
      rw [seeR_get] at e
      cases q : ρ[j]? with
      | none => rw [q] at e; cases e
      | some o =>
        rw [q] at e
        simp only [Option.map_some, Option.some.injEq] at e
        split at e
        · cases o with
          | none => cases e
          | some s =>
            cases s with
            | own ds => cases e
            | mp ks ds => cases e; rfl
            | sh d' => cases e
        · rw [e]
    obtain ⟨p, kvs, h1, h2, hk, h3, h4, h5, h6⟩ := r.mp i ks ds (back i ks ds e)
    exact ⟨p, kvs, h1, h2, hk, h3, h4, h5, fun j kk es e1 e2 => h6 j kk es (back j kk es e1) e2⟩
  ext := r.ext
  f0 := r.f0
  f1 := r.f1
  wf := r.wf
theorem Rel.upT {T : Tab} {K : Frag} {c : Ent} {ρ : Rho} {σ : L2.St} {G : Hp} {F : FS} (r : Rel T K c ρ σ G F) : Rel T.up K c ρ σ G F where
  len := r.len
  sh := fun i d e => let ⟨v, h1, h2⟩ := r.sh i d e; ⟨v, h1, h2.up⟩
  own := fun i ds e => let ⟨p, vs, h1, h2, h3, h4, h5, h6⟩ := r.own i ds e; ⟨p, vs, h1, h2, h3.up, h4, h5, h6⟩
  mp := fun i ks ds e => let ⟨p, kvs, h1, h2, hk, h3, h4, h5, h6⟩ := r.mp i ks ds e; ⟨p, kvs, h1, h2, hk, h3.up, h4, h5, h6⟩
  ext := r.ext
  f0 := r.f0
  f1 := r.f1
  wf := r.wf
def chk (k : D → Bool) (M : Mem) : Option Out → Option (Out × Mem)
  | some (.val d) => if k d = true then some (.val d, M) else none
  | some (.exc n) => some (.exc n, M)
  | none => none
def mL (f : Ev) : MEv := fun ρ M => (f ρ).map fun o => (o, M)
def mS0 (is : List Nat) (f : Ev) : MEv := fun ρ M => chk flatD M (f (seeR (see0 M 4) is 0 ρ))
theorem chk_some {k : D → Bool} {M M' : Mem} {o : Option Out} {out : Out} (h : chk k M o = some (out, M')) : M' = M ∧ o = some out ∧ ∀ d, out = .val d → k d = true := by
  unfold chk at h
  split at h
  · split at h
    · rename_i q; cases h; exact ⟨rfl, rfl, fun d e => by cases e; exact q⟩
    · cases h
  · cases h; exact ⟨rfl, rfl, fun d e => nomatch e⟩
  · cases h
section
variable {X : Cx} {T : Tab} {E : XK} {e : Expr} {f : Ev} {is : List Nat}
theorem jm_lift (hT : IsTab T) (h : ∀ φ, JE X (T.wc φ) E e f) : JM X T E e (mL f) := ⟨fun pins s σ H Q I ⟨φ, c, ρ, M, F, W, G, out, M', r, ev, th⟩ => by
  unfold mL at ev
  cases e1 : f ρ with
  | none => rw [e1] at ev; cases ev
  | some o =>
    rw [e1] at ev
    cases ev
    have r1 := r.up (F1 := F) (fun _ h => h) (fun _ h => .inl h)
    refine (h φ).h pins s σ H Q I ⟨c, ρ, F, _, r1, e1, ?_⟩
    cases out with
    | val d =>
      intro v H' F' g rp
      have z := r.spl.grow r.rel.wf g
      exact th v H' φ F' W _ ⟨z.2, List.prefix_refl _⟩ z.1 (rp.shrink (r.out0 hT g))
    | exc n =>
      intro H' ex
      obtain ⟨ev, sp⟩ := r.exc ex
      exact th H' φ F W _ ev sp⟩
theorem kk_of {φ : List Addr} {c : Ent} {ρ : Rho} {M : Mem} {σ : L2.St} {H H' : Hp} {F : FS} {W : Own} {G : Hp} {K : Frag} (r : RM T K φ c ρ M σ H F W G) (e : Ext H H') : ∀ a, W a ≠ none → (∃ xs, H' a = some (.lst xs)) ∨ ∃ C dx fs, H' a = some (.ins C dx fs) := fun a h =>
  (r.spl.kind a h).imp (fun ⟨xs, q⟩ => ⟨xs, e _ _ q⟩) fun ⟨C, dx, fs, q, _⟩ => ⟨C, dx, fs, e _ _ q⟩
theorem jm_see0 (hT : IsTab T) (h : ∀ φ, JE X (T.ws φ) E e f) : JM X T E e (mS0 is f) := ⟨fun pins s σ H Q I ⟨φ, c, ρ, M, F, W, G, out, M', r, ev, th⟩ => by
  obtain ⟨rfl, e1, ok⟩ := chk_some ev
  have r1 := r.up (F1 := fun a => F a ∨ W a ≠ none) (fun _ h => .inl h) (fun _ h => h)
  have r2 := r1.upT.seeR (is := is) r.rel fun v d h => see0_rep (M := M') r.spl 4 h
  refine (h φ).h pins s σ H Q I ⟨c, _, _, out, r2, e1, ?_⟩
  cases out with
  | val d =>
    intro v H' F2 g rp
    have z := r.seen (fun _ h => .inl h) (fun _ h => h) g
    exact th v H' φ _ W _ z.1 z.2 (Rep.flat (T := T.wc φ) (kk_of r g.ext) rp (ok d rfl))
  | exc n =>
    intro H' ex
    obtain ⟨ev, sp⟩ := r.exc ex
    exact th H' φ F W _ ev sp⟩
def mQ0 (is : List Nat) (q : Ev) : MEv := fun ρ M => (q (seeR (see0 M 4) is 0 ρ)).map fun o => (o, M)
theorem jmt_see0 (h : ∀ φ, JT X (T.ws φ) E e f) : JMT X T E e (mQ0 is f) := ⟨fun pins s σ H Q I ⟨φ, c, ρ, M, F, W, G, out, M', r, ev, th⟩ => by
  unfold mQ0 at ev
  cases e1 : f (seeR (see0 M 4) is 0 ρ) with
  | none => rw [e1] at ev; cases ev
  | some o =>
    rw [e1] at ev
    cases ev
    have r1 := r.up (F1 := fun a => F a ∨ W a ≠ none) (fun _ h => .inl h) (fun _ h => h)
    have r2 := r1.upT.seeR (is := is) r.rel fun v d h => see0_rep (M := M) r.spl 4 h
    refine (h φ).h pins s σ H Q I ⟨c, _, _, _, r2, e1, ?_⟩
    cases out with
    | val d =>
      cases d with
      | bl b =>
        intro H' F2 g
        have z := r.seen (fun _ h => .inl h) (fun _ h => h) g
        exact th H' φ _ W _ z.1 z.2
      | _ => exact th
    | exc n =>
      intro H' ex
      obtain ⟨ev, sp⟩ := r.exc ex
      exact th H' φ F W _ ev sp⟩
end
end BD
namespace BD
open PySem PySem.Spec L2 PySem.W PyProof.Rows
def Tag.num : Tag → Nat
  | .cell n => n
  | .fld n _ => n
section
variable {T T' : Tab} {K : Frag} {F F' : FS} {W W' : Own} {M : Mem} {G G' H H' : Hp} {φ : List Addr} {n : Nat} {a p : Addr}
theorem FOk.mv {vs : List V} {fs : List Fd} (h : FOk T K F G H W n vs fs) (hR : ∀ v d, Rep T K F G v d → Rep T' K F' G' v d) (hRs : ∀ v d, Reps T K F G v d → Reps T' K F' G' v d) (hW : ∀ q t, W q = some t → t.num = n → W' q = some t ∧ H' q = H q) : FOk T' K F' G' H' W' n vs fs where
  len := h.len
  sh := fun i d q => let ⟨v, h1, h2⟩ := h.sh i d q; ⟨v, h1, hR v d h2⟩
  own := fun i ds q => by
    obtain ⟨p, us, h1, h2, h3, h4⟩ := h.own i ds q
    obtain ⟨w, e⟩ := hW p _ h2 rfl
    exact ⟨p, us, h1, w, by rw [e]; exact h3, hRs _ _ h4⟩
theorem COk.mv {c : Cell} (h : COk T K F G H W n a c) (hT : T'.oc = T.oc) (hR : ∀ v d, Rep T K F G v d → Rep T' K F' G' v d) (hRs : ∀ v d, Reps T K F G v d → Reps T' K F' G' v d) (hW : ∀ q t, W q = some t → t.num = n → W' q = some t ∧ H' q = H q) : COk T' K F' G' H' W' n a c := by
  cases c with
  | dead => trivial
  | lst ds =>
    obtain ⟨h1, vs, h2, h3⟩ := h
    obtain ⟨w, e⟩ := hW a _ h1 rfl
    exact ⟨w, vs, by rw [e]; exact h2, hRs _ _ h3⟩
  | ins m kk fs =>
    obtain ⟨h1, C, dx, fvs, names, h2, h3, h4, h5, h6, h7⟩ := h
    obtain ⟨w, e⟩ := hW a _ h1 rfl
    exact ⟨w, C, dx, fvs, names, by rw [e]; exact h2, by rw [hT]; exact h3, h4, h5, h6, h7.mv hR hRs hW⟩
abbrev KindOk (T : Tab) (o : HO) : Prop := (∃ xs, o = .lst xs) ∨ ∃ C dx fs, o = .ins C dx fs ∧ ∀ n names, T.oc n = some (C, names) → mutN n = true
def setW (W : Own) (p : Addr) (t : Tag) : Own := fun a => if a = p then some t else W a
theorem setW_self {t : Tag} : setW W p t p = some t := if_pos rfl
theorem setW_ne {t : Tag} (h : a ≠ p) : setW W p t a = W a := if_neg h
theorem fresh_w (s : Spl T K F W M G H) (hp : H p = none) : W p = none := by
  cases q : W p with
  | none => rfl
  | some t => exact absurd hp (s.there (by rw [q]; simp))
theorem Spl.push {c : Cell} {o : HO} (s : Spl (T.wc φ) K F W M G H) (hp : H p = none) (hk : KindOk T o) (hc : COk (T.wc (φ ++ [p])) K F G (upd H p o) (setW W p (.cell M.length)) M.length p c) : Spl (T.wc (φ ++ [p])) K F (setW W p (.cell M.length)) (M ++ [c]) G (upd H p o) := by
  have wp := fresh_w s hp
  have len : φ.length = M.length := s.len
  refine ⟨?_, fun n d e => ?_, fun a h => ?_, fun a h => ?_, fun a h => ?_, s.hd⟩
  · show (φ ++ [p]).length = _; simp [len]
  · by_cases hn : n < M.length
    · rw [List.getElem?_append_left hn] at e
      obtain ⟨a, h1, h2⟩ := s.ok n d e
      refine ⟨a, ?_, h2.mv rfl (fun v d r => r.pre ⟨_, rfl⟩) (fun v d r => r.pre ⟨_, rfl⟩) fun q t w _ => ?_⟩
      · show (φ ++ [p])[n]? = _
        rw [List.getElem?_append_left (by omega)]
        exact h1
      · have ne : q ≠ p := fun z => by subst z; rw [wp] at w; cases w
        exact ⟨by rw [setW_ne ne]; exact w, upd_ne ne⟩
    · rw [List.getElem?_append_right (by omega)] at e
      have hz : n = M.length := by
        have := (List.getElem?_eq_some_iff.mp e).1
        simp at this
        omega
      subst hz
      simp at e
      subst e
      refine ⟨p, ?_, hc⟩
      show (φ ++ [p])[M.length]? = _
      rw [← len]; simp
  · by_cases z : a = p
    · subst z; exact s.ext.none hp
    · rw [setW_ne z] at h; exact s.off a h
  · have z : a ≠ p := fun z => by subst z; rw [setW_self] at h; cases h
    rw [setW_ne z] at h
    rw [upd_ne z]
    exact s.on a h
  · by_cases z : a = p
    · subst z
      rw [upd_same]
      rcases hk with ⟨xs, rfl⟩ | ⟨C, dx, fs, rfl, m⟩
      · exact .inl ⟨xs, rfl⟩
      · exact .inr ⟨C, dx, fs, rfl, m⟩
    · rw [setW_ne z] at h
      rw [upd_ne z]
      exact s.kind a h
theorem Evo.push (wf : ∀ a, F a → G a ≠ none) : Evo φ (φ ++ [p]) G G F F := ⟨.refl wf, ⟨_, rfl⟩⟩
theorem Spl.chg {c' : Cell} (s : Spl T K F W M G H) (ha : T.cl[n]? = some a) (hW : ∀ q t, W q = some t → t.num ≠ n → W' q = some t ∧ H' q = H q) (hoff : ∀ q, W q ≠ none → W' q ≠ none) (hnew : ∀ q, W' q ≠ none → W q ≠ none ∨ G q = none) (hsame : ∀ q, W' q = none → H' q = H q)
    (hkind : ∀ q, W' q ≠ none → (∃ xs, H' q = some (.lst xs)) ∨ ∃ C dx fs, H' q = some (.ins C dx fs) ∧ ∀ n names, T.oc n = some (C, names) → mutN n = true) (hc : COk T K F G H' W' n a c') : Spl T K F W' (M.set n c') G H' where
  len := by rw [List.length_set]; exact s.len
  ok := fun m c e => by
    by_cases z : m = n
    · subst z
      have hl : m < M.length := by have := (List.getElem?_eq_some_iff.mp ha).1; rw [s.len] at this; exact this
      rw [List.getElem?_set_self hl] at e
      cases e
      exact ⟨a, ha, hc⟩
    · rw [List.getElem?_set_ne (Ne.symm z)] at e
      obtain ⟨b, h1, h2⟩ := s.ok m c e
      exact ⟨b, h1, h2.mv rfl (fun _ _ r => r) (fun _ _ r => r) fun q t w e => hW q t w (by rw [e]; exact z)⟩
  off := fun q h => by
    rcases hnew q h with z | z
    · exact s.off q z
    · exact z
  on := fun q h => by
    have w : W q = none := by
      cases z : W q with
      | none => rfl
      | some t => exact absurd h (hoff q (by rw [z]; simp))
    rw [hsame q h]
    exact s.on q w
  kind := hkind
  hd := s.hd
end
def mbndL (o : Option (Out × Mem)) (k : D → Mem → Option (OutL × Mem)) : Option (OutL × Mem) := match o with
  | some (.val d, M) => k d M
  | some (.exc n, M) => some (.exc n, M)
  | none => none
def lmbndL (o : Option (OutL × Mem)) (k : List D → Mem → Option (OutL × Mem)) : Option (OutL × Mem) := match o with
  | some (.vals d, M) => k d M
  | some (.exc n, M) => some (.exc n, M)
  | none => none
section
variable {T : Tab} {K : Frag} {E : XK} {φ : List Addr} {c : Ent} {ρ : Rho} {M M' : Mem} {σ : L2.St} {H : Hp} {F : FS} {W : Own} {G : Hp} {out : Out}
abbrev HX (T : Tab) (K : Frag) (E : XK) (φ : List Addr) (G : Hp) (F : FS) (out : Out) (M' : Mem) : Prop := ∀ n, out = .exc n → ∀ H' φ' F' W' G', Evo φ φ' G G' F F' → Spl (T.wc φ') K F' W' M' G' H' → E (T.clsV n) none H'
theorem ThenM.exc {Q : VK} (h : ThenM T K E φ M' G F Q out) : HX T K E φ G F out M' := fun n e => by subst e; exact h
theorem ThenMB.exc {Q : Bool → Hp → Prop} (h : ThenMB T K E φ M' G F Q out) : HX T K E φ G F out M' := fun n e => by subst e; exact h
theorem HX.evo {φ' : List Addr} {G' : Hp} {F' : FS} (h : HX T K E φ G F out M') (e : Evo φ φ' G G' F F') : HX T K E φ' G' F' out M' := fun n z H' φ2 F2 W2 G2 e2 s => h n z H' φ2 F2 W2 G2 (e.trans e2) s
end
def mNil : MEvL := fun _ M => some (.vals [], M)
def mCons (f : MEv) (g : MEvL) : MEvL := fun ρ M => mbndL (f ρ M) fun d M1 => lmbndL (g ρ M1) fun ds M2 => some (.vals (d :: ds), M2)
def spM (T : Tab) (K : Frag) (g : List D → Mem → Option (Out × Mem)) : Sp := fun vs H Q E => ∃ φ F W G M ds out M', (∀ a, F a → G a ≠ none) ∧ Spl (T.wc φ) K F W M G H ∧ Reps (T.wc φ) K F G vs ds ∧ g ds M = some (out, M') ∧ ThenM T K E φ M' G F Q out
def ClS (P : Program) (w : World) (K : Frag) (mg : Str → Option Value) (base : Heap) (CX : CXT) (T : Tab) (x : Str) (ps : List Str) (k : Nat) (g : List D → Mem → Option (Out × Mem)) : Prop :=
  ∃ f fd, FnOk P w K mg base CX k f fd ps (spM T K g) ∧ mg x = some (.ref f) ∧ keepIn K (.ref f) = true ∧ Binds K fd ps []
structure ClSM (P : Program) (w : World) (K : Frag) (mg : Str → Option Value) (base : Heap) (CX : CXT) (T : Tab) (C : Addr) (m : Str) (ps : List Str) (k : Nat) (g : List D → Mem → Option (Out × Mem)) : Prop where
  ex : ∃ f fd, FnOk P w K mg base CX k f fd ps (spM T K g) ∧ Meth K C m f ∧ Binds K fd ps []
section
variable {X : Cx} {T : Tab} {E : XK} {CX : CXT} {e o : Expr} {es : List Expr} {f fo : MEv} {g fs : MEvL} {x m : Str} {p pos apos : Pos} {k : Nat} {ps names : List Str}
theorem ja_nilM : JMA X T E [] mNil := ⟨PA.imp pa_nil fun σ H Q ⟨φ, c, ρ, M, F, W, G, out, M', r, ev, th⟩ => by
  cases ev
  exact th [] H φ F W G (.refl r.rel.wf) r.spl .nil⟩
theorem ja_consM (h1 : JM X T E e f) (h2 : JMA X T E es g) (hs : starEach (e :: es) X.env = (false, eval e X.env) :: starEach es X.env := by kernel_rfl) : JMA X T E (e :: es) (mCons f g) := ⟨PA.imp (pa_cons h1.h h2.h hs) fun σ H Q ⟨φ, c, ρ, M, F, W, G, out, M', r, ev, th⟩ => by
  unfold mCons mbndL at ev
  split at ev
  · rename_i d M1 q
    refine ⟨φ, c, ρ, M, F, W, G, _, _, r, q, fun v H1 φ1 F1 W1 G1 e1 s1 r1 => ?_⟩
    unfold lmbndL at ev
    dsimp only at ev
    split at ev
    · rename_i ds M2 q2
      cases ev
      exact ⟨φ1, c, ρ, M1, F1, W1, G1, _, _, r.evo e1 s1, q2, fun vs H2 φ2 F2 W2 G2 e2 s2 r2 => th _ H2 φ2 F2 W2 G2 (e1.trans e2) s2 (.cons (r1.evo e2) r2)⟩
    · rename_i n M2 q2
      cases ev
      exact ⟨φ1, c, ρ, M1, F1, W1, G1, _, _, r.evo e1 s1, q2, fun H2 φ2 F2 W2 G2 e2 s2 => th H2 φ2 F2 W2 G2 (e1.trans e2) s2⟩
    · cases ev
  · rename_i n M1 q
    cases ev
    exact ⟨φ, c, ρ, M, F, W, G, _, _, r, q, th⟩
  · cases ev⟩
theorem RM.upd {K : Frag} {φ : List Addr} {c : Ent} {ρ : Rho} {M : Mem} {σ : L2.St} {H : Hp} {F : FS} {W : Own} {G : Hp} {q : Addr} {u : HO} (r : RM T K φ c ρ M σ H F W G) (hp : H q = none) : Evo φ φ G (L2.upd G q u) F F ∧ Spl (T.wc φ) K F W M (L2.upd G q u) (L2.upd H q u) := by
  have wp := fresh_w r.spl hp
  have gn := r.spl.ext.none hp
  have gr : Grow G (L2.upd G q u) F F := Grow.upd r.rel.wf gn
  refine ⟨⟨gr, List.prefix_refl _⟩, r.spl.keep gr.ext.keep gr.more (fun a h => ?_) (fun a h => ?_) fun a h => ?_⟩
  · rw [upd_ne (fun z => by subst z; exact h wp)]
  · rw [upd_ne (fun z => by subst z; exact h wp)]; exact r.spl.off a h
  · by_cases z : a = q
    · subst z; rw [upd_same, upd_same]
    · rw [upd_ne z, upd_ne z]; exact r.spl.on a h
end
end BD
namespace BD
open PySem PySem.Spec L2 PySem.W PyProof.Rows
structure ClSI (P : Program) (w : World) (K : Frag) (mg : Str → Option Value) (base : Heap) (CX : CXT) (T : Tab) (C : Addr) (ps : List Str) (k : Nat) (g : List D → Mem → Option (Out × Mem)) : Prop where
  ex : ∃ f fd, FnOk P w K mg base CX k f fd ps (spM T K g) ∧ Mk K C f ∧ Binds K fd ps []
section
variable {X : Cx} {T : Tab} {E : XK} {CX : CXT} {a b c e o : Expr} {es rest : List Expr} {f fo fa fb q : MEv} {g fs : MEvL} {x m : Str} {p pos apos : Pos} {k : Nat} {ps names : List Str}
def mNew (f : EvL) : MEv := fun ρ M => match f ρ with
  | some (.vals ds) => some (.val (.cell M.length), M ++ [.lst ds])
  | some (.exc n) => some (.exc n, M)
  | none => none
theorem jm_new {f : EvL} (hT : IsTab T) (h : ∀ φ, JF X (T.wc φ) E e f) : JM X T E e (mNew f) := ⟨fun pins s σ H Q I ⟨φ, c, ρ, M, F, W, G, out, M', r, ev, th⟩ => by
  have r1 := r.up (F1 := F) (fun _ h => h) (fun _ h => .inl h)
  unfold mNew at ev
  split at ev
  · rename_i ds q
    cases ev
    refine (h φ).h pins s σ H Q I ⟨c, ρ, F, _, r1, q, fun p vs H1 H' F' g hp eH rp => ?_⟩
    subst eH
    have z := r.spl.grow r.rel.wf g
    have wp := fresh_w z.1 hp
    have o0 : Out0 (T.wc φ) F' (setW W p (.cell M.length)) (upd H1 p (.lst vs)) := ⟨isTab_wc hT, rfl, fun a ha => by
      have w := z.1.wz (z.2.wf a ha)
      rw [setW_ne (fun y => by subst y; exact g.wf a ha hp)]
      exact w, fun a ha => by
      by_cases y : a = p
      · subst y; rw [upd_same]; exact .inl ⟨_, rfl⟩
      · rw [setW_ne y] at ha; rw [upd_ne y]; exact z.1.kind a ha⟩
    have eG : restr (setW W p (.cell M.length)) (upd H1 p (.lst vs)) = restr W H1 := by
      funext a
      by_cases y : a = p
      · subst y
        rw [restr_off (by rw [setW_self]; simp), restr_on wp, hp]
      · unfold restr
        rw [setW_ne y, upd_ne y]
    have rp2 := rp.shrink o0
    rw [eG] at rp2
    have s3 := z.1.push (o := .lst vs) (c := .lst ds) hp (.inl ⟨_, rfl⟩) ⟨setW_self, vs, upd_same, rp2.pre ⟨_, rfl⟩⟩
    have e3 : Evo φ (φ ++ [p]) G (restr W H1) F F' := ⟨z.2, ⟨_, rfl⟩⟩
    exact th _ _ _ F' _ _ e3 s3 (.cell (by
      show (φ ++ [p])[M.length]? = _
      have : φ.length = M.length := r.spl.len
      rw [← this]; simp))
  · rename_i n q
    cases ev
    refine (h φ).h pins s σ H Q I ⟨c, ρ, F, _, r1, q, fun H' ex => ?_⟩
    obtain ⟨ev, sp⟩ := r.exc ex
    exact th H' φ F W _ ev sp
  · cases ev⟩
end
end BD
namespace BD
open PySem PySem.Spec L2 PySem.W PyProof.Rows
def ThenMS (T : Tab) (K : Frag) (E : XK) (c : Ent) (φ0 φ : List Addr) (G : Hp) (F : FS) (D : Ends) (M' : Mem) : Fl → Prop
  | .nx ρ => ∀ σ H' φ' F' W' G', Evo φ φ' G G' F F' → RM T K φ' c ρ M' σ H' F' W' G' → D.nx σ H'
  | .bk ρ => ∀ σ H' φ' F' W' G', Evo φ φ' G G' F F' → RM T K φ' c ρ M' σ H' F' W' G' → D.bk σ H'
  | .ct ρ => ∀ σ H' φ' F' W' G', Evo φ φ' G G' F F' → RM T K φ' c ρ M' σ H' F' W' G' → D.ct σ H'
  | .rt d => ∀ v H' φ' F' W' G', Evo φ0 φ' c.H G' c.F F' → Spl (T.wc φ') K F' W' M' G' H' → Rep (T.wc φ') K F' G' v d → D.rt v H'
  | .exc n => ∀ H' φ' F' W' G', Evo φ0 φ' c.H G' c.F F' → Spl (T.wc φ') K F' W' M' G' H' → E (T.clsV n) none H'
structure RB (T : Tab) (K : Frag) (φ0 φ : List Addr) (c : Ent) (ρ : Rho) (M : Mem) (σ : L2.St) (H : Hp) (F : FS) (W : Own) (G : Hp) : Prop where
  pre : φ0 <+: φ
  rm : RM T K φ c ρ M σ H F W G
def tMS (T : Tab) (K : Frag) (E : XK) (f : MSv) : TS := fun D σ H => ∃ φ0 φ c ρ M F W G fl M', RB T K φ0 φ c ρ M σ H F W G ∧ f ρ M = some (fl, M') ∧ ThenMS T K E c φ0 φ G F D M' fl
structure JMS (X : Cx) (T : Tab) (E : XK) (st : Stmt) (f : MSv) : Prop where h : PS X st (tMS T X.K E f)
structure JMB (X : Cx) (T : Tab) (E : XK) (st : List Stmt) (f : MSv) : Prop where h : PSs X st (tMS T X.K E f)
section
variable {T : Tab} {K : Frag} {E : XK} {c : Ent} {φ0 φ φ' : List Addr} {G G' : Hp} {F F' : FS} {De : Ends} {M M' : Mem} {ρ : Rho} {σ : L2.St} {H : Hp} {W : Own} {fl : Fl}
theorem ThenMS.evo (e : Evo φ φ' G G' F F') (h : ThenMS T K E c φ0 φ G F De M' fl) : ThenMS T K E c φ0 φ' G' F' De M' fl := by
  cases fl with
  | nx ρ => exact fun σ H' φ2 F2 W2 G2 e2 r => h σ H' φ2 F2 W2 G2 (e.trans e2) r
  | bk ρ => exact fun σ H' φ2 F2 W2 G2 e2 r => h σ H' φ2 F2 W2 G2 (e.trans e2) r
  | ct ρ => exact fun σ H' φ2 F2 W2 G2 e2 r => h σ H' φ2 F2 W2 G2 (e.trans e2) r
  | rt d => exact h
  | exc n => exact h
theorem RB.ent (r : RB T K φ0 φ c ρ M σ H F W G) : Evo φ0 φ c.H G c.F F := ⟨r.rm.rel.growE, r.pre⟩
theorem RB.evo {H' : Hp} {W' : Own} (r : RB T K φ0 φ c ρ M σ H F W G) (e : Evo φ φ' G G' F F') (s : Spl (T.wc φ') K F' W' M' G' H') : RB T K φ0 φ' c ρ M' σ H' F' W' G' := ⟨r.pre.trans e.cl, r.rm.evo e s⟩
end
def sbM (o : Option (Out × Mem)) (k : D → Mem → Option (Fl × Mem)) : Option (Fl × Mem) := match o with
  | some (.val d, M) => k d M
  | some (.exc n, M) => some (.exc n, M)
  | none => none
def slM (o : Option (OutL × Mem)) (k : List D → Mem → Option (Fl × Mem)) : Option (Fl × Mem) := match o with
  | some (.vals d, M) => k d M
  | some (.exc n, M) => some (.exc n, M)
  | none => none
section
variable {T : Tab} {K : Frag} {E : XK} {c : Ent} {φ0 φ : List Addr} {G : Hp} {F : FS} {De : Ends} {M M' : Mem} {ρ : Rho} {σ : L2.St} {H : Hp} {W : Own} {fl : Fl}
theorem tM_bindS {f : MEv} {k : D → Mem → Option (Fl × Mem)} {Q : VK} (r : RB T K φ0 φ c ρ M σ H F W G) (e : sbM (f ρ M) k = some (fl, M')) (th : ThenMS T K E c φ0 φ G F De M' fl)
    (hv : ∀ d M1 v H1 φ1 F1 W1 G1, Evo φ φ1 G G1 F F1 → RB T K φ0 φ1 c ρ M1 σ H1 F1 W1 G1 → Rep (T.wc φ1) K F1 G1 v d → k d M1 = some (fl, M') → Q v H1) : tM T K E f σ H Q := by
  unfold sbM at e
  split at e
  · rename_i d M1 q
    exact ⟨φ, c, ρ, M, F, W, G, _, _, r.rm, q, fun v H1 φ1 F1 W1 G1 ev s rp => hv d M1 v H1 φ1 F1 W1 G1 ev (r.evo ev s) rp e⟩
  · rename_i n M1 q
    cases e
    exact ⟨φ, c, ρ, M, F, W, G, _, _, r.rm, q, fun H1 φ1 F1 W1 G1 ev s => th H1 φ1 F1 W1 G1 (r.ent.trans ev) s⟩
  · cases e
theorem tMT_bindS {f : MEv} {k : D → Mem → Option (Fl × Mem)} {Q : Bool → Hp → Prop} (r : RB T K φ0 φ c ρ M σ H F W G) (e : sbM (f ρ M) k = some (fl, M')) (th : ThenMS T K E c φ0 φ G F De M' fl) (hk : ∀ d M1, k d M1 = some (fl, M') → ∃ b, d = .bl b)
    (hv : ∀ b M1 H1 φ1 F1 W1 G1, Evo φ φ1 G G1 F F1 → RB T K φ0 φ1 c ρ M1 σ H1 F1 W1 G1 → k (.bl b) M1 = some (fl, M') → Q b H1) : tMT T K E f σ H Q := by
  unfold sbM at e
  split at e
  · rename_i d M1 q
    obtain ⟨b, rfl⟩ := hk d M1 e
    exact ⟨φ, c, ρ, M, F, W, G, _, _, r.rm, q, fun H1 φ1 F1 W1 G1 ev s => hv b M1 H1 φ1 F1 W1 G1 ev (r.evo ev s) e⟩
  · rename_i n M1 q
    cases e
    exact ⟨φ, c, ρ, M, F, W, G, _, _, r.rm, q, fun H1 φ1 F1 W1 G1 ev s => th H1 φ1 F1 W1 G1 (r.ent.trans ev) s⟩
  · cases e
theorem noOwn_set : ∀ {ρ : Rho} {i : Nat} {d : D}, noOwn ρ = true → noOwn (ρ.set i (some (.sh d))) = true
  | [], i, d, h => by simpa using h
  | some (.own _) :: ρ, i, d, h => by simp [noOwn] at h
  | none :: ρ, 0, d, h => by simpa [noOwn] using h
  | some (.sh _) :: ρ, 0, d, h => by simpa [noOwn] using h
  | none :: ρ, i + 1, d, h => by simpa [noOwn] using noOwn_set (ρ := ρ) (i := i) (d := d) (by simpa [noOwn] using h)
  | some (.sh _) :: ρ, i + 1, d, h => by simpa [noOwn] using noOwn_set (ρ := ρ) (i := i) (d := d) (by simpa [noOwn] using h)
theorem RB.set {i : Nat} {v : V} {d : D} (r : RB T K φ0 φ c ρ M σ H F W G) (rp : Rep (T.wc φ) K F G v d) : RB T K φ0 φ c (ρ.set i (some (.sh d))) M (σ.set i (some v)) H F W G := ⟨r.pre, r.rm.rel.set rp, noOwn_set r.rm.no, r.rm.spl⟩
theorem Spl.eqG {T : Tab} (s : Spl T K F W M G H) : G = restr W H := by
  funext a
  cases z : W a with
  | none => rw [restr_on z]; exact s.on a z
  | some t => rw [restr_off (by rw [z]; simp)]; exact s.off a (by rw [z]; simp)
theorem RB.down {ρ' : Rho} {σ' : L2.St} (hT : IsTab T) (r : RB T K φ0 φ c ρ M σ H F W G) (r' : Rel (T.wc φ) K c ρ' σ' H F) (no : noOwn ρ' = true) : RB T K φ0 φ c ρ' M σ' H F W G := by
  have o : Out0 (T.wc φ) F W H := ⟨isTab_wc hT, rfl, fun a h => r.rm.spl.wz (r.rm.rel.wf a h), r.rm.spl.kind⟩
  refine ⟨r.pre, ⟨r'.len, fun i d e => ?_, fun i ds e => absurd e (noOwn_get no), fun i ks ds e => absurd e (noMp_get no), r.rm.rel.ext, r.rm.rel.f0, r.rm.rel.f1, r.rm.rel.wf⟩, no, r.rm.spl⟩
  obtain ⟨v, h1, h2⟩ := r'.sh i d e
  exact ⟨v, h1, by rw [r.rm.spl.eqG]; exact h2.shrink o⟩
end
def mNext : MSv := fun ρ M => some (.nx ρ, M)
def mSeq (f g : MSv) : MSv := fun ρ M => match f ρ M with
  | some (.nx ρ', M1) => g ρ' M1
  | r => r
def mRet (f : MEv) : MSv := fun ρ M => sbM (f ρ M) fun d M1 => some (.rt d, M1)
def mIfS (q : MEv) (f g : MSv) : MSv := fun ρ M => sbM (q ρ M) fun d M1 => match d with
  | .bl true => f ρ M1
  | .bl false => g ρ M1
  | _ => none
def mSet (f : MEv) (i : Nat) : MSv := fun ρ M => sbM (f ρ M) fun d M1 => some (.nx (ρ.set i (some (.sh d))), M1)
section
variable {X : Cx} {T : Tab} {E : XK} {a b c e o tg : Expr} {es rest : List Expr} {st : Stmt} {sts sa sb : List Stmt} {f q : MEv} {fs : MEvL} {g u : MSv} {x y : Str} {p pos pos' : Pos}
theorem jb_nilM : JMB X T E [] mNext := ⟨PSs.imp pss_nil fun D σ H ⟨φ0, φ, c, ρ, M, F, W, G, fl, M', r, ev, th⟩ => by
  cases ev
  exact th σ H φ F W G (.refl r.rm.rel.wf) r.rm⟩
theorem jb_consM (h1 : JMS X T E st g) (h2 : JMB X T E sts u) : JMB X T E (st :: sts) (mSeq g u) := ⟨PSs.imp (pss_cons h1.h h2.h) fun D σ H ⟨φ0, φ, c, ρ, M, F, W, G, fl, M', r, ev, th⟩ => by
  unfold mSeq at ev
  split at ev
  · rename_i ρ' M1 q
    exact ⟨φ0, φ, c, ρ, M, F, W, G, _, _, r, q, fun σ' H1 φ1 F1 W1 G1 e1 r1 => ⟨φ0, φ1, c, ρ', M1, F1, W1, G1, fl, M', ⟨r.pre.trans e1.cl, r1⟩, ev, th.evo e1⟩⟩
  · rename_i q
    refine ⟨φ0, φ, c, ρ, M, F, W, G, _, _, r, ev, ?_⟩
    cases fl with
    | nx ρ' => exact absurd ev (q ρ' M')
    | bk ρ' => exact th
    | ct ρ' => exact th
    | rt d => exact th
    | exc n => exact th⟩
theorem jb_oneM (h1 : JMS X T E st g) : JMB X T E [st] g := ⟨PSs.imp (jb_consM h1 jb_nilM).h fun D σ H ⟨φ0, φ, c, ρ, M, F, W, G, fl, M', r, ev, th⟩ => ⟨φ0, φ, c, ρ, M, F, W, G, fl, M', r, by unfold mSeq; rw [ev]; cases fl <;> rfl, th⟩⟩
theorem js_retM (h : JM X T E e f) : JMS X T E (.Return (some e) pos) (mRet f) := ⟨PS.imp (ps_ret h.h) fun D σ H ⟨φ0, φ, c, ρ, M, F, W, G, fl, M', r, ev, th⟩ => by
  refine tM_bindS r ev th fun d M1 v H1 φ1 F1 W1 G1 e1 r1 rp ek => ?_
  cases ek
  exact th v H1 φ1 F1 W1 G1 r1.ent r1.rm.spl rp⟩
theorem js_ifM (hc : JMT X T E c q) (ha : JMB X T E sa g) (hb : JMB X T E sb u) : JMS X T E (.If c sa sb pos) (mIfS q g u) := ⟨PS.imp (ps_if hc.h ha.h hb.h) fun D σ H ⟨φ0, φ, c, ρ, M, F, W, G, fl, M', r, ev, th⟩ => by
  refine tMT_bindS r ev th (fun d M1 e1 => ?_) fun k M1 H1 φ1 F1 W1 G1 e1 r1 ek => ?_
  · split at e1
    · exact ⟨_, rfl⟩
    · exact ⟨_, rfl⟩
    · cases e1
  · cases k with
    | true => rw [if_pos rfl]; exact ⟨φ0, φ1, c, ρ, M1, F1, W1, G1, fl, M', r1, ek, th.evo e1⟩
    | false => rw [if_neg (by decide)]; exact ⟨φ0, φ1, c, ρ, M1, F1, W1, G1, fl, M', r1, ek, th.evo e1⟩⟩
theorem js_setM {i : Nat} (hN : X.N.Nodup) (hi : X.N[i]? = some x) (hx : Loc X.env.scope x) (he : JM X T E e f) (hs : swapsWith e (some (.Name x pos')) pos.line X.env = pure false := by kernel_rfl)
    (hf : X.fn x = true ∨ X.env.scope.names.lookup x = some .local := by first | exact .inl rfl | exact .inr rfl | assumption) : JMS X T E (.Assign [.Name x pos'] e pos) (mSet f i) := ⟨PS.imp (ps_set hN hi hx he.h hs hf) fun D σ H ⟨φ0, φ, c, ρ, M, F, W, G, fl, M', r, ev, th⟩ => by
  refine tM_bindS r ev th fun d M1 v H1 φ1 F1 W1 G1 e1 r1 rp ek => ?_
  cases ek
  exact th _ H1 φ1 F1 W1 G1 e1 (r1.set rp).rm⟩
theorem pg_all {gg : Gv} {ss : List Nat} (hg : ∀ φ, JG X (T.wc φ) tg gg ss) : PG X tg (fun v σ H Q => ∃ φ, tDG (T.wc φ) X.K gg ss v σ H Q) := fun pins s σ H v u Q I r ⟨φ, h⟩ => (hg φ).h pins s σ H v u Q I r h
end
end BD
namespace BD
open PySem PySem.Spec L2 PySem.W PyProof.Rows
section
variable {T : Tab} {K : Frag} {E : XK} {f : Ev} {is : List Nat} {σ : L2.St} {H : Hp} {Q : VK}
theorem lift_sem (hT : IsTab T) (h : tM T K E (mL f) σ H Q) : ∃ φ, tD (T.wc φ) K E f σ H Q := by
  obtain ⟨φ, c, ρ, M, F, W, G, out, M', r, ev, th⟩ := h
  unfold mL at ev
  cases e1 : f ρ with
  | none => rw [e1] at ev; cases ev
  | some o =>
    rw [e1] at ev
    cases ev
    refine ⟨φ, c, ρ, F, _, r.up (F1 := F) (fun _ h => h) (fun _ h => .inl h), e1, ?_⟩
    cases out with
    | val d =>
      intro v H' F' g rp
      have z := r.spl.grow r.rel.wf g
      exact th v H' φ F' W _ ⟨z.2, List.prefix_refl _⟩ z.1 (rp.shrink (r.out0 hT g))
    | exc n =>
      intro H' ex
      obtain ⟨ev, sp⟩ := r.exc ex
      exact th H' φ F W _ ev sp
end
structure JA1 (X : Cx) (T : Tab) (E : XK) (st : Stmt) (i : Nat) (f : Ev) : Prop where h : PS X st (tAsg (tD T X.K E f) (gName i))
structure JAF (X : Cx) (T : Tab) (E : XK) (st : Stmt) (i : Nat) (f : EvL) : Prop where h : PS X st (tAsg (tDF T X.K E f) (gName i))
section
variable {X : Cx} {T : Tab} {E : XK} {st : Stmt} {i : Nat} {f : Ev} {fs : EvL} {is : List Nat}
theorem fr_sem {K : Frag} {σ : L2.St} {H : Hp} {Q : VK} (h : tD T K E (eFr fs) σ H Q) : tDF T K E fs σ H Q := by
  obtain ⟨c, ρ, F, out, r, e, th⟩ := h
  rcases lbnd_some e with ⟨d, e1, e2⟩ | ⟨n, e1, e2⟩
  · cases e2
    refine ⟨c, ρ, F, _, r, e1, fun p vs H1 H' F' g hp eH rp => ?_⟩
    subst eH
    have g2 := Grow.updF (o := .lst vs) (r.grow g).wf hp
    exact th _ _ _ (g.trans g2) (.lst (.inl ⟨.inr rfl, .inl upd_same⟩) (rp.keep (fun _ _ z _ => z) g2.more))
  · subst e2
    exact ⟨c, ρ, F, _, r, e1, th⟩
theorem JAF.fr (h : JAF X T E st i fs) : JA1 X T E st i (eFr fs) := ⟨PS.imp h.h fun D σ H q => fr_sem q⟩
theorem set_sem {K : Frag} {f : MEv} {D : Ends} {σ : L2.St} {H : Hp} (h : tMS T K E (mSet f i) D σ H) : tAsg (tM T K E f) (gName i) D σ H := by
  obtain ⟨φ0, φ, c, ρ, M, F, W, G, fl, M', r, ev, th⟩ := h
  refine tM_bindS r ev th fun d M1 v H1 φ1 F1 W1 G1 e1 r1 rp ek => ?_
  cases ek
  exact th _ H1 φ1 F1 W1 G1 e1 (r1.set rp).rm
theorem js_a1 (hT : IsTab T) (h : ∀ φ, JA1 X (T.wc φ) E st i f) : JMS X T E st (mSet (mL f) i) := ⟨fun pins s σ H D I q => by
  obtain ⟨φ, q⟩ := lift_sem hT (set_sem q)
  exact (h φ).h pins s σ H D I q⟩
variable {elt tg iter : Expr} {ifs : List Expr} {pos spos : Pos} {q fe : Ev}
theorem ja_setLc {y : Str} {py : Pos} {scope : Scope} {own : List (Str × Nat)} {gg : Gv} {ss : List Nat} (hc : X.calm = true) (hN : X.N.Nodup) (hy : X.N[i]? = some y) (hyl : X.env.scope.names.lookup y = some .local)
    (hsw : swapsWith (.ListComp elt [⟨tg, iter, ifs, 0⟩] scope pos) (some (.Name y py)) spos.line X.env = pure true) (hi : JI X T E tg iter fs) (ok : BlkOk X.N X.env.scope scope own)
    (hg : ∀ (s : Shared) (H : Hp) (C : Addr) (cl : List (Str × Addr)) (fp : List Addr), JG (X.blk s H scope (compEnvC scope cl C X.env) fp) T tg gg ss) (ht : ∀ (s : Shared) (H : Hp) (C : Addr) (cl : List (Str × Addr)) (fp : List Addr), JTs (X.blk s H scope (compEnvC scope cl C X.env) fp) T E0 ifs q)
    (he : ∀ (s : Shared) (H : Hp) (C : Addr) (cl : List (Str × Addr)) (fp : List Addr), JE (X.blk s H scope (compEnvC scope cl C X.env) fp) T E0 elt fe) (hss : ∀ j ∈ ss, j ∈ own.map (·.2)) (hs : ∀ x, foldedSetIterable iter X.env x = pure x := by intro _; kernel_rfl) :
    JAF X T E (.Assign [.Name y py] (.ListComp elt [⟨tg, iter, ifs, 0⟩] scope pos) spos) i (lComp fs gg q fe (own.map (·.2))) :=
  ⟨PS.imp (ps_setLc hc hN hy hyl hsw hi.h ok (fun s H C cl fp => (hg s H C cl fp).h) (fun s H C cl fp => (ht s H C cl fp).h) (fun s H C cl fp => (he s H C cl fp).h) hs) fun D σ H z => tLc_of hss z⟩
end
def fnSemM (n m : Nat) (body : MSv) : List D → Mem → Option (Out × Mem) := fun ds M => if ds.length = n then (match body (ds.map (fun d => some (.sh d)) ++ List.replicate m none) M with
  | some (.rt d, M') => some (.val d, M')
  | some (.nx _, M') => some (.val .non, M')
  | some (.exc k, M') => some (.exc k, M')
  | _ => none) else none
theorem fnSemM_len {n m : Nat} {body : MSv} {ds : List D} {M : Mem} {o : Out × Mem} (h : fnSemM n m body ds M = some o) : ds.length = n := by
  unfold fnSemM at h
  split at h
  · assumption
  · cases h
theorem noOwn_start : ∀ {ds : List D} {m : Nat}, noOwn (ds.map (fun d => some (.sh d)) ++ List.replicate m none) = true
  | [], 0 => rfl
  | [], m + 1 => by simpa [noOwn, List.replicate_succ] using noOwn_start (ds := []) (m := m)
  | d :: ds, m => by simpa [noOwn] using noOwn_start (ds := ds) (m := m)
section
variable {P : Program} {w : World} {K : PySem.W.Frag} {mg : Str → Option Value} {base : Heap} {T : Tab}
theorem sp_bodyM {N : List Str} {n : Nat} {fb : MSv} {vs : List V} {H : Hp} {Q : VK} {E : XK} (hN : n ≤ N.length) (h : spM T K (fnSemM n (N.length - n) fb) vs H Q E) : tMS T K E fb { nx := fun _ H' => Q .non H', rt := Q } (L2.start N vs) H := by
  obtain ⟨φ, F, W, G, M, ds, out, M', wf, sp, r, e, th⟩ := h
  have hl := fnSemM_len e
  have rl := rel_start (N := N) wf r hl hN
  have rb : RB T K φ φ ⟨G, F⟩ _ M _ H F W G := ⟨List.prefix_refl _, rl, noOwn_start, sp⟩
  unfold fnSemM at e
  rw [if_pos hl] at e
  split at e
  · rename_i d M1 q
    cases e
    exact ⟨φ, φ, _, _, M, F, W, G, _, _, rb, q, fun v H' φ' F' W' G' ev s rp => th v H' φ' F' W' G' ev s rp⟩
  · rename_i ρ M1 q
    cases e
    exact ⟨φ, φ, _, _, M, F, W, G, _, _, rb, q, fun σ' H' φ' F' W' G' ev r' => th _ H' φ' F' W' G' ev r'.spl .non⟩
  · rename_i k M1 q
    cases e
    exact ⟨φ, φ, _, _, M, F, W, G, _, _, rb, q, fun H' φ' F' W' G' ev s => th H' φ' F' W' G' ev s⟩
  · cases e
theorem fnS_okJ {x qual : Str} {st : Stmt} {dV : Value} {f : Addr} {fd : FuncData} {N ps : List Str} {k n m : Nat} {fb : MSv} (F : FunD K x qual st dV f fd) (S : FnScope N ps (defScope st)) (hn : ps.length = n) (hm : N.length = n + m)
    (hbody : ∀ (cdv : Value) (A : Around) (outer : List Env) (s : Shared) (H : Hp) (E : XK), Room k (A.deeper (PyProof.Rows.envOfC qual (defScope st) s.heap.objs.size f cdv)) → JMB (cxOf (CXf P w) P w K mg base N qual (defScope st) f cdv A outer s H E) T E (defBody st) fb) :
    FnOk P w K mg base (CXf P w) (k + 1) f fd ps (spM T K (fnSemM n m fb)) := by
  subst hn
  have e : m = N.length - ps.length := by omega
  subst e
  obtain ⟨oc, od, kV, doc, pm, an, cdv, ct, osl, rfl, lk, hcd⟩ := F.ex
  refine fn_of lk hcd S (fun vs H Q E ⟨φ, F, W, G, M, ds, out, M', wf, sp, r, e, th⟩ => by rw [r.length]; exact fnSemM_len e) fun A outer s H vs Q E hr hsp => ?_
  exact ⟨_, (hbody cdv A outer s H E hr).h, sp_bodyM (by omega) hsp⟩
end
def fput {α : Type} (xs : List α) (i : Nat) (x : α) : List α := if i < xs.length then xs.set i x else xs ++ [x]
theorem fput_get {α : Type} {xs : List α} {i j : Nat} {x : α} (h : i ≤ xs.length) : (fput xs i x)[j]? = if j = i then some x else xs[j]? := by
  unfold fput
  by_cases hi : i < xs.length
  · rw [if_pos hi]
    by_cases hj : j = i
    · subst hj; rw [if_pos rfl, List.getElem?_set_self hi]
    · rw [if_neg hj, List.getElem?_set_ne (Ne.symm hj)]
  · have e : i = xs.length := by omega
    subst e
    rw [if_neg hi]
    by_cases hj : j = xs.length
    · subst hj; simp
    · rw [if_neg hj]
      by_cases hl : j < xs.length
      · rw [List.getElem?_append_left hl]
      · rw [List.getElem?_append_right (by omega), List.getElem?_eq_none (by simp; omega), List.getElem?_eq_none (by omega)]
theorem fput_len {α : Type} {xs : List α} {i : Nat} {x : α} : (fput xs i x).length = if i < xs.length then xs.length else xs.length + 1 := by
  unfold fput
  split <;> simp
theorem putF_map : ∀ {fs : List (Str × V)} {names : List Str} {i : Nat} {g : Str} {v : V}, fs.map (·.1) = names.take fs.length → names.Nodup → names[i]? = some g → i ≤ fs.length → (putF g v fs).map (·.1) = names.take (fput fs i (g, v)).length ∧ (putF g v fs).map (·.2) = fput (fs.map (·.2)) i v
  | [], names, i, g, v, _, nd, hi, hl => by
    have hi0 : i = 0 := by simpa using hl
    subst hi0
    cases names with
    | nil => simp at hi
    | cons n ns => simp at hi; subst hi; simp [putF, fput]
  | (a, b) :: fs, [], i, g, v, h, nd, hi, hl => by simp at h
  | (a, b) :: fs, n :: ns, i, g, v, h, nd, hi, hl => by
    simp only [List.map_cons, List.length_cons, List.take_succ_cons, List.cons.injEq] at h
    obtain ⟨rfl, h⟩ := h
    have nd' := List.nodup_cons.mp nd
    cases i with
    | zero =>
      simp at hi
      subst hi
      simp [putF, fput, h]
    | succ i =>
      have hi' : ns[i]? = some g := by simpa using hi
      have ne : ¬ a = g := fun z => nd'.1 (by rw [z]; exact List.mem_of_getElem? hi')
      obtain ⟨p1, p2⟩ := putF_map (fs := fs) (v := v) h nd'.2 hi' (by simpa using hl)
      simp only [putF, if_neg ne, List.map_cons, p1, p2]
      refine ⟨?_, ?_⟩
      · rw [fput_len, fput_len]
        simp only [List.length_cons, Nat.add_lt_add_iff_right]
        split <;> simp
      · unfold fput
        simp only [List.length_map, List.length_cons, Nat.add_lt_add_iff_right]
        split <;> simp
section
variable {T : Tab} {K : Frag} {F : FS} {W : Own} {M : Mem} {G H : Hp} {n m k i : Nat} {a p C : Addr} {fs : List Fd} {names : List Str} {g : Str}
theorem Spl.fld {W' : Own} {H' : Hp} {dx : Addr} {fvs : List (Str × V)} {y : V} {fd : Fd} (s : Spl T K F W M G H) (q : M[n]? = some (.ins m k fs)) (ha : T.cl[n]? = some a) (hO : T.oc m = some (C, names)) (nd : names.Nodup) (hi : names[i]? = some g) (hl : i ≤ fs.length) (hH : H a = some (.ins C dx fvs))
    (eH : H' = upd H a (.ins C dx (putF g y fvs)))
    (hW : (W' = W ∧ ∃ d, fd = .sh d ∧ Rep T K F G y d) ∨ ∃ p us ds, W' = setW W p (.fld n i) ∧ fd = .own ds ∧ y = .ref p ∧ G p = none ∧ W p = none ∧ H p = some (.lst us) ∧ Reps T K F G us ds) :
    Spl T K F W' (M.set n (.ins m k (fput fs i fd))) G H' := by
  obtain ⟨a', h1, w1, C', dx', fvs', nm, h2, h3, h4, h5, h6, h7⟩ := s.ok n _ q
  rw [ha] at h1; cases h1
  rw [hH] at h2; cases h2
  rw [hO] at h3
  have t2 := Option.some.inj h3
  have tn : names = nm := congrArg Prod.snd t2
  subst tn
  subst eH
  have lf : fvs.length = fs.length := by have := h7.len; simpa using this
  have h6' : fvs.map (·.1) = names.take fvs.length := by rw [lf]; exact h6
  obtain ⟨p1, p2⟩ := putF_map (v := y) h6' nd hi (by omega)
  have hik : i < k := by rw [← h4]; exact (List.getElem?_eq_some_iff.mp hi).1
  have wa : ∀ b, W b = none → b ≠ a := fun b z e => by subst e; rw [w1] at z; cases z
  have ww : ∀ q t, W q = some t → W' q = some t := fun q t e => by
    rcases hW with ⟨rfl, _⟩ | ⟨p, us, ds, rfl, _, _, _, wp, _⟩
    · exact e
    · rw [setW_ne (fun z => by subst z; rw [wp] at e; cases e)]; exact e
  refine s.chg ha (fun q t w ne => ⟨ww q t w, upd_ne fun z => by subst z; rw [w1] at w; cases w; exact ne rfl⟩) (fun q h => ?_) (fun q h => ?_) (fun q h => ?_) (fun q h => ?_) ⟨ww _ _ w1, C, dx, _, names, upd_same, hO, h4, ?_, ?_, ?_⟩
  · cases z : W q with
    | none => exact absurd z h
    | some t => rw [ww q t z]; simp
  · rcases hW with ⟨rfl, _⟩ | ⟨p, us, ds, rfl, _, _, gp, wp, _⟩
    · exact .inl h
    · by_cases z : q = p
      · subst z; exact .inr gp
      · rw [setW_ne z] at h; exact .inl h
  · refine upd_ne fun z => ?_
    subst z
    rw [ww _ _ w1] at h
    cases h
  · by_cases z : q = a
    · subst z
      rw [upd_same]
      rcases s.kind q (by rw [w1]; simp) with ⟨xs, e⟩ | ⟨C2, dx2, fs2, e, mm⟩
      · rw [hH] at e; cases e
      · rw [hH] at e; cases e; exact .inr ⟨_, _, _, rfl, mm⟩
    · rw [upd_ne z]
      rcases hW with ⟨rfl, _⟩ | ⟨p, us, ds, rfl, _, _, gp, wp, hp, _⟩
      · exact s.kind q h
      · by_cases y : q = p
        · subst y; exact .inl ⟨us, hp⟩
        · rw [setW_ne y] at h; exact s.kind q h
  · rw [fput_len]; split <;> omega
  · rw [p1]
    rw [fput_len, fput_len, lf]
  · rw [p2]
    have hlv : i ≤ (fvs.map (·.2)).length := by rw [List.length_map]; omega
    refine ⟨?_, fun j d e => ?_, fun j ds e => ?_⟩
    · rw [fput_len, fput_len, List.length_map, lf]
    · rw [fput_get hl] at e
      rw [fput_get hlv]
      by_cases z : j = i
      · subst z
        rw [if_pos rfl] at e ⊢
        cases e
        rcases hW with ⟨_, d', e1, rp⟩ | ⟨p, us, ds, _, e1, _⟩
        · cases e1; exact ⟨y, rfl, rp⟩
        · cases e1
      · rw [if_neg z] at e ⊢
        exact h7.sh j d e
    · rw [fput_get hl] at e
      rw [fput_get hlv]
      by_cases z : j = i
      · subst z
        rw [if_pos rfl] at e ⊢
        cases e
        rcases hW with ⟨_, d', e1, rp⟩ | ⟨p, us, ds', e0, e1, rfl, gp, wp, hp, rp⟩
        · cases e1
        · cases e1
          exact ⟨p, us, rfl, by rw [e0]; exact setW_self, by rw [upd_ne (wa p wp)]; exact hp, rp⟩
      · rw [if_neg z] at e ⊢
        obtain ⟨p', us', e1, e2, e3, e4⟩ := h7.own j ds e
        exact ⟨p', us', e1, ww _ _ e2, by rw [upd_ne (fun z => by subst z; rw [w1] at e2; cases e2)]; exact e3, e4⟩
end
end BD
namespace BD
open PySem PySem.Spec L2 PySem.W PyProof.Rows
section
variable {X : Cx} {T : Tab} {E : XK} {e o value : Expr} {f : Ev} {fs : EvL} {fv fo fe : MEv} {is : List Nat} {x g : Str} {names : List Str} {n c i j : Nat} {C : Addr} {p pos pos' apos cpos : Pos}
end
end BD
namespace BD
open PySem PySem.Spec L2 PySem.W PyProof.Rows
def mCApp (fo fe : MEv) : MSv := fun ρ M => sbM (fo ρ M) fun x M1 => match x with
  | .cell n => (match M1[n]? with
    | some (.lst _) => sbM (fe ρ M1) fun d M2 => (match M2[n]? with
      | some (.lst ds) => if smallL ds then some (.nx ρ, M2.set n (.lst (ds ++ [d]))) else none
      | _ => none)
    | _ => none)
  | _ => none
section
variable {T : Tab} {K : Frag} {F : FS} {W : Own} {M : Mem} {G H : Hp} {n : Nat} {a : Addr}
theorem Spl.lst {ds ds' : List D} {vs' : List V} (s : Spl T K F W M G H) (q : M[n]? = some (.lst ds)) (ha : T.cl[n]? = some a) (r : Reps T K F G vs' ds') : Spl T K F W (M.set n (.lst ds')) G (upd H a (.lst vs')) := by
  obtain ⟨a', h1, w1, vs, h2, h3⟩ := s.ok n _ q
  rw [ha] at h1; cases h1
  refine s.chg ha (fun q t w ne => ⟨w, upd_ne fun z => by subst z; rw [w1] at w; cases w; exact ne rfl⟩) (fun q h => h) (fun q h => .inl h) (fun q h => upd_ne fun z => by subst z; rw [w1] at h; cases h) (fun q h => ?_) ⟨w1, vs', upd_same, r⟩
  by_cases y : q = a
  · subst y; rw [upd_same]; exact .inl ⟨_, rfl⟩
  · rw [upd_ne y]; exact s.kind q h
end
section
variable {X : Cx} {T : Tab} {E : XK} {e o l tg a b : Expr} {es : List Expr} {fo fe f : MEv} {fs : MEvL} {p pos apos cpos : Pos}
theorem js_capp (ho : JM X T E o fo) (ha : JM X T E e fe) (hbase : attributeBase o "append" X.env (eval o X.env) = eval o X.env := by kernel_rfl)
    (hfew : ((backTo cpos (starEach [e] X.env)).all (fun x => !x.1) && (backToKw cpos (keywordEach [] X.env)).all (fun x => x.1.isSome) && decide ([e].length + ([] : List Keyword).length + (if ([] : List Keyword).isEmpty then 0 else 1) < 30)) = true := by kernel_rfl)
    (hline : (apos.endLine == cpos.line) = true := by kernel_rfl) (hs : starEach [e] X.env = (false, eval e X.env) :: starEach [] X.env := by kernel_rfl)
    (hsw : swapsWith (.Call (.Attribute o "append" apos) [e] [] cpos) none pos.line X.env = pure false := by kernel_rfl) : JMS X T E (.Expr (.Call (.Attribute o "append" apos) [e] [] cpos) pos) (mCApp fo fe) :=
  ⟨PS.imp (ps_expr (pe_bm PySem.F.plainAttrs_list PySem.F.slot_list_append PySem.F.type_list_append mt_append ho.h (pa_cons ha.h pa_nil hs) hbase hfew hline hs) hsw) fun D σ H ⟨φ0, φ, cc, ρ, M, F, W, G, fl, M', r, ev, th⟩ => by
    refine tM_bindS r ev th fun d M1 v H1 φ1 F1 W1 G1 e1 r1 rp ek => ?_
    split at ek
    · rename_i n
      split at ek
      · rename_i ds0 q0
        cases rp with
        | @cell a _ ha' =>
          obtain ⟨a', h1, w1, vs, h2, h3⟩ := r1.rm.spl.ok n _ q0
          rw [ha'] at h1; cases h1
          refine ⟨.inl ⟨rfl, vs, SqL.of h2⟩, ?_⟩
          refine tM_bindS r1 ek (th.evo e1) fun d2 M2 v2 H2 φ2 F2 W2 G2 e2 r2 rp2 ek2 => ?_
          split at ek2
          · rename_i ds q
            split at ek2
            · rename_i hsm
              cases ek2
              have hc2 : Rep (T.wc φ2) X.K F2 G2 (.ref a) (.cell n) := (Rep.cell (T := T.wc φ1) (F := F1) (H := G1) ha').evo e2
              cases hc2 with
              | cell ha2 =>
                obtain ⟨a', g1, u1, us, g2, g3⟩ := r2.rm.spl.ok n _ q
                rw [ha2] at g1; cases g1
                refine ⟨a, us, v2, rfl, rfl, g2, smallL_ok g3 hsm, ?_⟩
                exact th σ _ φ2 F2 W2 G2 (e1.trans e2) ⟨r2.rm.rel, r2.rm.no, r2.rm.spl.lst q ha2 (g3.append (.cons rp2 .nil))⟩
            · cases ek2
          · cases ek2
      · cases ek
    · cases ek⟩
end
def YieldsM (T : Tab) (K : Frag) (J : It) (ds : List D) (φ : List Addr) (G : Hp) (F : FS) : Prop :=
  ∃ P : List Addr → Hp → FS → Prop, P φ G F ∧ (∀ φ G F φ' G' F', P φ G F → φ <+: φ' → Keep F G G' → (∀ a, F a → F' a) → P φ' G' F') ∧
    ∀ φ G F H (i : Nat), P φ G F → Ext G H → (i < ds.length → J.go i H ∧ ∀ x H', J.yld i H x H' → ∃ d, ds[i]? = some d ∧ ((H' = H ∧ Rep (T.wc φ) K F G x d) ∨ ∃ t u, H t = none ∧ H' = upd H t u ∧ ((∀ a, F a → G a ≠ none) → Rep (T.wc φ) K F (upd G t u) x d))) ∧ (ds.length ≤ i → J.stop i H)
def ThenMI (T : Tab) (K : Frag) (E : XK) (φ : List Addr) (M' : Mem) (G : Hp) (F : FS) (R : It → Hp → Prop) : OutL → Prop
  | .vals ds => ∀ J H' φ' F' W' G', Evo φ φ' G G' F F' → Spl (T.wc φ') K F' W' M' G' H' → YieldsM T K J ds φ' G' F' → R J H'
  | .exc n => ∀ H' φ' F' W' G', Evo φ φ' G G' F F' → Spl (T.wc φ') K F' W' M' G' H' → E (T.clsV n) none H'
def tMI (T : Tab) (K : Frag) (E : XK) (f : MEvL) : TI := fun σ H R => ∃ φ c ρ M F W G out M', RM T K φ c ρ M σ H F W G ∧ f ρ M = some (out, M') ∧ ThenMI T K E φ M' G F R out
structure JMI (X : Cx) (T : Tab) (E : XK) (tg e : Expr) (f : MEvL) : Prop where h : PI X tg e (tMI T X.K E f)
section
variable {T : Tab} {K : Frag} {φ : List Addr} {G : Hp} {F : FS}
theorem SqF.ext {H : Hp} {p : Addr} {vs : List V} (h : SqF K F G p vs) (e : Ext G H) : SqF K F H p vs := h.keep e.keep fun _ z => z
theorem yieldsM_list {p : Addr} {vs : List V} {ds : List D} (h : SqF K F G p vs) (r : Reps (T.wc φ) K F G vs ds) : YieldsM T K (Itl K p) ds φ G F := by
  refine ⟨fun φ G F => SqF K F G p vs ∧ Reps (T.wc φ) K F G vs ds, ⟨h, r⟩, fun φ G F φ' G' F' q pf k m => ⟨q.1.keep k m, (q.2.pre pf).keep k m⟩, fun φ G F H i q ex => ⟨fun hi => ⟨?_, fun x H' y => ?_⟩, fun hi => ?_⟩⟩
  · obtain ⟨x, hx⟩ := get_of_lt (show i < vs.length by rw [q.2.length]; exact hi)
    exact ⟨vs, x, (q.1.ext ex).sq, hx⟩
  · obtain ⟨e, y⟩ := y
    subst e
    have hx := y vs (q.1.ext ex).sq
    obtain ⟨d, h1, h2⟩ := q.2.get' hx
    exact ⟨d, h1, .inl ⟨rfl, h2⟩⟩
  · exact ⟨vs, (q.1.ext ex).sq, by rw [q.2.length]; exact hi⟩
theorem yieldsM_enum {p : Addr} {vs : List V} {ds : List D} (h : SqF K F G p vs) (r : Reps (T.wc φ) K F G vs ds) : YieldsM T K (Ite K p) (enumD ds) φ G F := by
  have hl : (enumD ds).length = ds.length := by simp [enumD]
  refine ⟨fun φ G F => SqF K F G p vs ∧ Reps (T.wc φ) K F G vs ds, ⟨h, r⟩, fun φ G F φ' G' F' q pf k m => ⟨q.1.keep k m, (q.2.pre pf).keep k m⟩, fun φ G F H i q ex => ⟨fun hi => ⟨?_, fun x H' y => ?_⟩, fun hi => ?_⟩⟩
  · rw [hl] at hi
    obtain ⟨x, hx⟩ := get_of_lt (show i < vs.length by rw [q.2.length]; exact hi)
    exact ⟨vs, x, (q.1.ext ex).sq, hx⟩
  · rw [hl] at hi
    obtain ⟨t, x1, rfl, ht, rfl, hx⟩ := y
    obtain ⟨d1, a1, b1⟩ := q.2.get' (hx vs (q.1.ext ex).sq)
    refine ⟨.tup [.int (i : Int), d1], ?_, .inr ⟨t, _, ht, rfl, fun wf => ?_⟩⟩
    · have hd : ds[i] = d1 := by obtain ⟨_, z⟩ := List.getElem?_eq_some_iff.mp a1; exact z
      simp [enumD, hi, hd]
    · have g := Grow.upd (o := .tup [V.int (i : Nat), x1]) wf (ex.none ht)
      exact .tup (SqT.of upd_same) ((Reps.cons (.int _) (.cons b1 .nil)).grow g)
  · rw [hl] at hi
    exact ⟨vs, (q.1.ext ex).sq, by rw [q.2.length]; exact hi⟩
end
def wSeqM (f : MEv) : MEvL := fun ρ M => mbndL (f ρ M) fun d M1 => match d with
  | .lst ds => some (.vals ds, M1)
  | _ => none
def wArgM (k : List D → Option (List D)) (f : MEvL) : MEvL := fun ρ M => lmbndL (f ρ M) fun ds M1 => (k ds).map fun xs => (.vals xs, M1)
def kEnum : List D → Option (List D)
  | [.lst xs] => some (enumD xs)
  | _ => none
section
variable {X : Cx} {T : Tab} {E : XK} {e l tg a b : Expr} {es : List Expr} {f : MEv} {fs : MEvL} {p pos tpos : Pos} {elts : List Expr} {kk : Nat}
theorem mi_list (h : JM X T E l f) : JMI X T E tg l (wSeqM f) := ⟨PI.imp (pi_list h.h) fun σ H R ⟨φ, c, ρ, M, F, W, G, out, M', r, ev, th⟩ => by
  unfold wSeqM mbndL at ev
  split at ev
  · rename_i d M1 q
    refine ⟨φ, c, ρ, M, F, W, G, _, _, r, q, fun v H1 φ1 F1 W1 G1 e1 s1 r1 => ?_⟩
    dsimp only at ev
    split at ev
    · cases ev
      cases r1 with
      | lst hq rr => exact ⟨_, rfl, ⟨_, (hq.ext s1.ext).sq⟩, th _ H1 φ1 F1 W1 G1 e1 s1 (yieldsM_list hq rr)⟩
    · cases ev
  · rename_i n M1 q
    cases ev
    exact ⟨φ, c, ρ, M, F, W, G, _, _, r, q, th⟩
  · cases ev⟩
theorem tMA_bindI {K : Frag} {k : List D → Option (List D)} {φ : List Addr} {c : Ent} {ρ : Rho} {M M' : Mem} {σ : L2.St} {H : Hp} {F : FS} {W : Own} {G : Hp} {out : OutL} {R : It → Hp → Prop} {Q : List V → Hp → Prop} (r : RM T K φ c ρ M σ H F W G) (ev : wArgM k fs ρ M = some (out, M')) (th : ThenMI T K E φ M' G F R out)
    (hv : ∀ ds xs vs H1 φ1 F1 W1 G1, Spl (T.wc φ1) K F1 W1 M' G1 H1 → Reps (T.wc φ1) K F1 G1 vs ds → k ds = some xs → (∀ J, YieldsM T K J xs φ1 G1 F1 → R J H1) → Q vs H1) : tMA T K E fs σ H Q := by
  unfold wArgM lmbndL at ev
  split at ev
  · rename_i d M1 q
    refine ⟨φ, c, ρ, M, F, W, G, _, _, r, q, fun vs H1 φ1 F1 W1 G1 e1 s1 r1 => ?_⟩
    dsimp only at ev
    cases qk : k d with
    | none => rw [qk] at ev; cases ev
    | some xs =>
      rw [qk] at ev
      cases ev
      exact hv d xs vs H1 φ1 F1 W1 G1 s1 r1 qk fun J y => th J H1 φ1 F1 W1 G1 e1 s1 y
  · rename_i n M1 q
    cases ev
    exact ⟨φ, c, ρ, M, F, W, G, _, _, r, q, th⟩
  · cases ev
theorem mi_enum (hg : X.env.kindOf "enumerate" = some .globalImplicit) (hm : X.mg "enumerate" = none) (ha : JMA X T E [a] fs) (hs : starEach [a] X.env = [(false, eval a X.env)] := by kernel_rfl) : JMI X T E (.Tuple elts kk tpos) (.Call (.Name "enumerate" p) [a] [] pos) (wArgM kEnum fs) :=
  ⟨PI.imp (pi_enum hg hm ha.h hs) fun σ H R ⟨φ, c, ρ, M, F, W, G, out, M', r, ev, th⟩ => by
    refine tMA_bindI r ev th fun ds xs vs H1 φ1 F1 W1 G1 s1 r1 ek k => ?_
    unfold kEnum at ek
    split at ek
    · cases ek
      cases r1 with
      | cons r1 t => cases t; cases r1 with | lst h1 q1 => exact ⟨_, _, rfl, (h1.ext s1.ext).sq, k _ (yieldsM_enum h1 q1)⟩
    · cases ek⟩
end
def forM (g : Gv) (body : MSv) : List D → MSv
  | [], ρ, M => some (.nx ρ, M)
  | d :: ds, ρ, M => match g d ρ with
    | some ρ1 => if noOwn ρ1 = true then (match body ρ1 M with
      | some (.nx ρ2, M2) => forM g body ds ρ2 M2
      | some (.ct ρ2, M2) => forM g body ds ρ2 M2
      | some (.bk ρ2, M2) => some (.nx ρ2, M2)
      | r => r) else none
    | none => none
def mFor (f : MEvL) (g : Gv) (body : MSv) : MSv := fun ρ M => slM (f ρ M) fun ds M1 => forM g body ds ρ M1
section
variable {X : Cx} {T : Tab} {E : XK} {l tg c : Expr} {f : MEvL} {q : MEv} {fb : MSv} {body : List Stmt} {pos : Pos}
theorem RB.yld {K : Frag} {φ0 φ : List Addr} {cc : Ent} {ρ : Rho} {M : Mem} {σ : L2.St} {H H' : Hp} {F : FS} {W : Own} {G : Hp} {x : V} {d : D} (r : RB T K φ0 φ cc ρ M σ H F W G) (h : (H' = H ∧ Rep (T.wc φ) K F G x d) ∨ ∃ t u, H t = none ∧ H' = upd H t u ∧ ((∀ a, F a → G a ≠ none) → Rep (T.wc φ) K F (upd G t u) x d)) :
    ∃ G', Evo φ φ G G' F F ∧ RB T K φ0 φ cc ρ M σ H' F W G' ∧ Rep (T.wc φ) K F G' x d := by
  rcases h with ⟨rfl, rp⟩ | ⟨t, u, ht, rfl, rp⟩
  · exact ⟨G, .refl r.rm.rel.wf, r, rp⟩
  · obtain ⟨e, s⟩ := r.rm.upd (u := u) ht
    exact ⟨_, e, r.evo e s, rp r.rm.rel.wf⟩
theorem js_forM {gg : Gv} {ss : List Nat} (hT : IsTab T) (hp : PassesOwn (model X.prog X.w) X.A X.env X.xe) (hc : X.calm = true) (hi : JMI X T E tg l f) (hg : ∀ φ, JG X (T.wc φ) tg gg ss) (hb : JMB X T E body fb) (hs : ∀ x, foldedSetIterable l X.env x = pure x := by intro _; kernel_rfl) :
    JMS X T E (.For tg l body [] pos) (mFor f gg fb) := ⟨PS.imp (ps_for hp hc hi.h (pg_all hg) hb.h hs) fun D σ H ⟨φ0, φ, cc, ρ, M, F, W, G, fl, M', r, ev, th⟩ => by
  unfold mFor slM at ev
  split at ev
  · rename_i ds M1 q
    refine ⟨φ, cc, ρ, M, F, W, G, _, _, r.rm, q, fun J H1 φ1 F1 W1 G1 e1 s1 ⟨P, p1, pl, py⟩ => ?_⟩
    refine ⟨fun i m σ' H' => m = ds.length - i ∧ i ≤ ds.length ∧ ∃ ρ' M2 φ2 F2 W2 G2, Evo φ φ2 G G2 F F2 ∧ RB T X.K φ0 φ2 cc ρ' M2 σ' H' F2 W2 G2 ∧ P φ2 G2 F2 ∧ forM gg fb (ds.drop i) ρ' M2 = some (fl, M'), ⟨ds.length, by simp, Nat.zero_le _, ρ, M1, φ1, F1, W1, G1, e1, r.evo e1 s1, p1, by simpa using ev⟩, ?_⟩
    rintro i m σ' H' ⟨rfl, hi, ρ', M2, φ2, F2, W2, G2, e2, r2, p2, ev2⟩
    obtain ⟨y1, y2⟩ := py φ2 G2 F2 H' i p2 r2.rm.spl.ext
    by_cases hlt : i < ds.length
    · obtain ⟨go, yl⟩ := y1 hlt
      refine .inr ⟨go, fun σ3 H3 => ∃ ρ' M2 φ2 F2 W2 G2, Evo φ φ2 G G2 F F2 ∧ RB T X.K φ0 φ2 cc ρ' M2 σ3 H3 F2 W2 G2 ∧ P φ2 G2 F2 ∧ forM gg fb (ds.drop (i + 1)) ρ' M2 = some (fl, M'), fun σ3 H3 h3 => ⟨ds.length - (i + 1), by omega, rfl, hlt, h3⟩, fun x H3 y => ?_⟩
      obtain ⟨d, hd, hy⟩ := yl x H3 y
      obtain ⟨G3, e3, r3, rp3⟩ := r2.yld hy
      rw [drop_cons hd] at ev2
      unfold forM at ev2
      split at ev2
      · rename_i ρ1 qg
        split at ev2
        · rename_i no
          refine ⟨φ2, cc, ρ', F2, d, ρ1, r3.rm.up (F1 := F2) (fun _ h => h) (fun _ h => .inl h), rp3.keep r3.rm.spl.ext.keep (fun _ h => h), qg, fun σ4 r4 _ => ?_⟩
          have r5 := r3.down hT r4 no
          have p3 := pl _ _ _ _ _ _ p2 e3.cl e3.gr.ext.keep e3.gr.more
          have e23 := e2.trans e3
          cases qb : fb ρ1 M2 with
          | none => rw [qb] at ev2; cases ev2
          | some res =>
            obtain ⟨fl1, M3⟩ := res
            rw [qb] at ev2
            refine ⟨φ0, φ2, cc, ρ1, M2, F2, W2, G3, fl1, M3, r5, qb, ?_⟩
            cases fl1 with
            | nx ρ2 => exact fun σ6 H6 φ6 F6 W6 G6 e6 r6 => ⟨ρ2, M3, φ6, F6, W6, G6, e23.trans e6, ⟨r2.pre.trans e6.cl, r6⟩, pl _ _ _ _ _ _ p3 e6.cl e6.gr.ext.keep e6.gr.more, ev2⟩
            | ct ρ2 => exact fun σ6 H6 φ6 F6 W6 G6 e6 r6 => ⟨ρ2, M3, φ6, F6, W6, G6, e23.trans e6, ⟨r2.pre.trans e6.cl, r6⟩, pl _ _ _ _ _ _ p3 e6.cl e6.gr.ext.keep e6.gr.more, ev2⟩
            | bk ρ2 => cases ev2; exact fun σ6 H6 φ6 F6 W6 G6 e6 r6 => th σ6 H6 φ6 F6 W6 G6 (e23.trans e6) r6
            | rt d => cases ev2; exact th
            | exc n => cases ev2; exact th
        · cases ev2
      · cases ev2
    · have hi' : i = ds.length := by omega
      subst hi'
      rw [List.drop_length] at ev2
      cases ev2
      exact .inl ⟨y2 (Nat.le_refl _), th σ' H' φ2 F2 W2 G2 e2 r2.rm⟩
  · rename_i n M1 q
    cases ev
    exact ⟨φ, cc, ρ, M, F, W, G, _, _, r.rm, q, fun H1 φ1 F1 W1 G1 ev s => th H1 φ1 F1 W1 G1 (r.ent.trans ev) s⟩
  · cases ev⟩
end
end BD
namespace BD
open PySem PySem.Spec L2 PySem.W PyProof.Rows
mutual
def pureD : D → Bool
  | .tup ds => pureDs ds
  | .lst ds => pureDs ds
  | .obj n ds => !mutN n && pureDs ds
  | .dic _ ds => pureDs ds
  | .cell _ => false
  | _ => true
def pureDs : List D → Bool
  | [] => true
  | d :: ds => pureD d && pureDs ds
end
section
variable {T T' : Tab} {K : Frag} {F : FS} {H : Hp}
mutual
theorem Rep.cv (h1 : T'.fnA = T.fnA) (h2 : T'.ex = T.ex) (h3 : T'.oc = T.oc) : ∀ {v : V} {d : D}, Rep T K F H v d → pureD d = true → Rep T' K F H v d
  | _, _, .non, _ => .non
  | _, _, .bl b, _ => .bl b
  | _, _, .int i, _ => .int i
  | _, _, .str x, _ => .str x
  | _, _, .tup h r, e => .tup h (Reps.cv h1 h2 h3 r (by simpa only [pureD] using e))
  | _, _, .lst h r, e => .lst h (Reps.cv h1 h2 h3 r (by simpa only [pureD] using e))
  | _, _, .dct h, _ => .dct h
  | _, _, .fn h, _ => .fn (by rw [h1]; exact h)
  | _, _, .exn h nl e, _ => .exn h nl (by rw [h2]; exact e)
  | _, _, .obj g h t r, e => by
    simp only [pureD, Bool.and_eq_true, Bool.not_eq_true'] at e
    exact .obj (.inl e.1) h (by rw [h3]; exact t) (Reps.cv h1 h2 h3 r e.2)
  | _, _, .cell h, e => by simp only [pureD] at e; cases e
  | _, _, .dic f h r, e => .dic f h (Reps.cv h1 h2 h3 r (by simpa only [pureD] using e))
theorem Reps.cv (h1 : T'.fnA = T.fnA) (h2 : T'.ex = T.ex) (h3 : T'.oc = T.oc) : ∀ {vs : List V} {ds : List D}, Reps T K F H vs ds → pureDs ds = true → Reps T' K F H vs ds
  | _, _, .nil, _ => .nil
  | _, _, .cons r t, e => by
    simp only [pureDs, Bool.and_eq_true] at e
    exact .cons (Rep.cv h1 h2 h3 r e.1) (Reps.cv h1 h2 h3 t e.2)
end
end
def pSem (g : List D → Mem → Option (Out × Mem)) : List D → Option Out := fun ds => if pureDs ds = true then (match g ds [] with
  | some (.val d, M) => if pureD (see0 M 4 d) = true then some (.val (see0 M 4 d)) else none
  | some (.exc n, _) => some (.exc n)
  | none => none) else none
theorem fnP_ok {P : Program} {w : World} {K : Frag} {mg : Str → Option Value} {base : Heap} {CX : CXT} {T : Tab} {k : Nat} {f : Addr} {fd : FuncData} {ps : List Str} {g : List D → Mem → Option (Out × Mem)} (hh : T.hd = none) (F : FnOk P w K mg base CX k f fd ps (spM T K g)) : FnOk P w K mg base CX k f fd ps (spD T K (pSem g)) :=
  F.imp fun vs H Q E ⟨F, ds, out, wf, r, e, th⟩ => by
    unfold pSem at e
    split at e
    · rename_i hp
      have sp : Spl (T.wc []) K F (fun _ => none) [] H H := ⟨rfl, fun n c q => by simp at q, fun a h => absurd rfl h, fun a _ => rfl, fun a h => absurd rfl h, fun a q => by
        have q : T.hd = some a := q
        rw [hh] at q
        cases q⟩
      have rr : Reps (T.wc []) K F H vs ds := Reps.cv (T := T) (T' := T.wc []) rfl rfl rfl r hp
      split at e
      · rename_i d M q
        split at e
        · rename_i hd
          cases e
          refine ⟨[], F, _, H, [], ds, _, M, wf, sp, rr, q, fun v H' φ' F' W' G' ev s rp => ?_⟩
          refine th v H' (fun a => F' a ∨ W' a ≠ none) ⟨ev.gr.ext.trans s.ext, fun a h => .inl (ev.gr.more a h), fun a h => ?_, fun a h => ?_⟩ (Rep.cv (T := (T.wc φ').up) (T' := T) rfl rfl rfl (see0_rep s 4 rp) hd)
          · rcases h with h | h
            · exact ev.gr.new a h
            · exact .inr (ev.gr.ext.none (s.off a h))
          · rcases h with h | h
            · cases z : G' a with
              | none => exact absurd z (ev.gr.wf a h)
              | some o => rw [s.ext a o z]; simp
            · exact s.there h
        · cases e
      · rename_i n M q
        cases e
        exact ⟨[], F, _, H, [], ds, _, M, wf, sp, rr, q, fun H' φ' F' W' G' ev s => th H' (ev.gr.ext.trans s.ext)⟩
      · cases e
    · cases e
structure JMX (X : Cx) (T : Tab) (e : Expr) (f : MEv) : Prop where h : PX X e (fun σ H Q EK => tM T X.K EK f σ H Q)
abbrev FnM := List (Nat × (List D → Mem → Option (Out × Mem)))
section
variable {P : Program} {w : World} {K : PySem.W.Frag} {mg : Str → Option Value} {base : Heap} {CX : CXT} {T : Tab} {k : Nat} {gl : FnM}
end
section
variable {X : Cx} {T : Tab} {E : XK} {k n : Nat} {e o : Expr} {es : List Expr} {fs : MEvL} {fo : MEv} {x m : Str} {p pos apos : Pos} {ps names : List Str} {C : Addr} {gg : List D → Mem → Option (Out × Mem)}
end
theorem noOwn_del : ∀ {ρ : Rho} {i : Nat}, noOwn ρ = true → noOwn (ρ.set i none) = true
  | [], i, h => by simpa using h
  | some (.own _) :: ρ, i, h => by simp [noOwn] at h
  | some (.mp _ _) :: ρ, i, h => by simp [noOwn] at h
  | none :: ρ, 0, h => by simpa [noOwn] using h
  | some (.sh _) :: ρ, 0, h => by simpa [noOwn] using h
  | none :: ρ, i + 1, h => by simpa [noOwn] using noOwn_del (ρ := ρ) (i := i) (by simpa [noOwn] using h)
  | some (.sh _) :: ρ, i + 1, h => by simpa [noOwn] using noOwn_del (ρ := ρ) (i := i) (by simpa [noOwn] using h)
section
variable {T : Tab} {K : Frag} {φ0 φ : List Addr} {c : Ent} {ρ : Rho} {M : Mem} {σ : L2.St} {H : Hp} {F : FS} {W : Own} {G : Hp} {a : Addr}
mutual
theorem Rep.hd {T T' : Tab} (h1 : T'.fnA = T.fnA) (h2 : T'.ex = T.ex) (h3 : T'.oc = T.oc) (h4 : T'.cl = T.cl) (h5 : T'.mt = T.mt) : ∀ {v : V} {d : D}, Rep T K F H v d → Rep T' K F H v d
  | _, _, .non => .non
  | _, _, .bl b => .bl b
  | _, _, .int i => .int i
  | _, _, .str x => .str x
  | _, _, .tup h r => .tup h (Reps.hd h1 h2 h3 h4 h5 r)
  | _, _, .lst h r => .lst h (Reps.hd h1 h2 h3 h4 h5 r)
  | _, _, .dct h => .dct h
  | _, _, .fn h => .fn (by rw [h1]; exact h)
  | _, _, .exn h nl e => .exn h nl (by rw [h2]; exact e)
  | _, _, .obj g h t r => .obj (by rw [h5]; exact g) h (by rw [h3]; exact t) (Reps.hd h1 h2 h3 h4 h5 r)
  | _, _, .cell h => .cell (by rw [h4]; exact h)
  | _, _, .dic f h r => .dic f h (Reps.hd h1 h2 h3 h4 h5 r)
theorem Reps.hd {T T' : Tab} (h1 : T'.fnA = T.fnA) (h2 : T'.ex = T.ex) (h3 : T'.oc = T.oc) (h4 : T'.cl = T.cl) (h5 : T'.mt = T.mt) : ∀ {vs : List V} {ds : List D}, Reps T K F H vs ds → Reps T' K F H vs ds
  | _, _, .nil => .nil
  | _, _, .cons r t => .cons (Rep.hd h1 h2 h3 h4 h5 r) (Reps.hd h1 h2 h3 h4 h5 t)
end
theorem FOk.hd {T T' : Tab} {n : Nat} {vs : List V} {fs : List Fd} (h1 : T'.fnA = T.fnA) (h2 : T'.ex = T.ex) (h3 : T'.oc = T.oc) (h4 : T'.cl = T.cl) (h5 : T'.mt = T.mt) (h : FOk T K F G H W n vs fs) : FOk T' K F G H W n vs fs := h.mv (fun _ _ r => r.hd h1 h2 h3 h4 h5) (fun _ _ r => r.hd h1 h2 h3 h4 h5) fun _ _ w _ => ⟨w, rfl⟩
theorem Rel.hd {T T' : Tab} (h1 : T'.fnA = T.fnA) (h2 : T'.ex = T.ex) (h3 : T'.oc = T.oc) (h4 : T'.cl = T.cl) (h5 : T'.mt = T.mt) (r : Rel T K c ρ σ G F) : Rel T' K c ρ σ G F where
  len := r.len
  sh := fun i d e => let ⟨v, z1, z2⟩ := r.sh i d e; ⟨v, z1, z2.hd h1 h2 h3 h4 h5⟩
  own := fun i ds e => let ⟨p, vs, z1, z2, z3, z4, z5, z6⟩ := r.own i ds e; ⟨p, vs, z1, z2, z3.hd h1 h2 h3 h4 h5, z4, z5, z6⟩
  mp := fun i ks ds e => let ⟨p, kvs, z1, z2, zk, z3, z4, z5, z6⟩ := r.mp i ks ds e; ⟨p, kvs, z1, z2, zk, z3.hd h1 h2 h3 h4 h5, z4, z5, z6⟩
  ext := r.ext
  f0 := r.f0
  f1 := r.f1
  wf := r.wf
end
section
variable {X : Cx} {T : Tab} {E : XK} {i : Nat} {c : Expr} {rest : List Stmt} {x n : Str} {cB : Value} {np hp ep pos : Pos} {fc : MEv} {fr su : MSv} {okn : Nat → Bool} {b0 : Stmt} {bs : List Stmt}
end
section
variable {X : Cx} {T : Tab} {E : XK} {e : Expr} {es : List Expr} {fs : MEvL} {y : Str} {ps : List Str} {jj : Nat} {al : List D → Option Out} {p pos : Pos} {a : Addr}
end
end BD
namespace BD
open PySem PySem.Spec L2 PySem.W PyProof.Rows
theorem noOwn_wipe {ρ : Rho} (h : noOwn ρ = true) : ∀ vs : List Nat, noOwn (wipeR ρ vs) = true
  | [] => h
  | v :: vs => noOwn_del (noOwn_wipe h vs)
section
variable {T : Tab} {K : Frag} {φ : List Addr} {c : Ent} {ρ : Rho} {M : Mem} {σ : L2.St} {H : Hp} {F : FS} {W : Own} {G : Hp} {p : Addr}
theorem RM.wipe (r : RM T K φ c ρ M σ H F W G) (vs : List Nat) : RM T K φ c (wipeR ρ vs) M (L2.wipe σ vs) H F W G := ⟨r.rel.wipe vs, noOwn_wipe r.no vs, r.spl⟩
theorem RM.yld {H' : Hp} {x : V} {d : D} (r : RM T K φ c ρ M σ H F W G) (h : (H' = H ∧ Rep (T.wc φ) K F G x d) ∨ ∃ t u, H t = none ∧ H' = L2.upd H t u ∧ ((∀ a, F a → G a ≠ none) → Rep (T.wc φ) K F (L2.upd G t u) x d)) :
    ∃ G', Evo φ φ G G' F F ∧ RM T K φ c ρ M σ H' F W G' ∧ Rep (T.wc φ) K F G' x d := by
  rcases h with ⟨rfl, rp⟩ | ⟨t, u, ht, rfl, rp⟩
  · exact ⟨G, .refl r.rel.wf, r, rp⟩
  · obtain ⟨e, s⟩ := r.upd (u := u) ht
    exact ⟨_, e, r.evo e s, rp r.rel.wf⟩
theorem RM.down {ρ' : Rho} {σ' : L2.St} (hT : IsTab T) (r : RM T K φ c ρ M σ H F W G) (r' : Rel (T.wc φ) K c ρ' σ' H F) (no : noOwn ρ' = true) : RM T K φ c ρ' M σ' H F W G := (RB.down (φ0 := φ) hT ⟨List.prefix_refl _, r⟩ r' no).rm
theorem keep_put {vs us : List V} (hp : G p = some (.lst vs)) (nf : ¬ F p) : Keep F G (upd G p (.lst us)) := fun a o e z => by
  by_cases h : a = p
  · subst h
    rcases z with z | z
    · exact absurd z nf
    · rw [hp] at e; cases e; exact absurd rfl (z.1 vs)
  · rw [upd_ne h]; exact e
theorem RM.put {vs us : List V} (r : RM T K φ c ρ M σ H F W G) (hp : G p = some (.lst vs)) (nf : ¬ F p) (n0 : c.H p = none) : RM T K φ c ρ M σ (L2.upd H p (.lst us)) F W (L2.upd G p (.lst us)) := by
  have k := keep_put (us := us) hp nf
  have wp := r.spl.wz (by rw [hp]; simp)
  refine ⟨⟨r.rel.len, fun i d e => let ⟨v, h1, h2⟩ := r.rel.sh i d e; ⟨v, h1, h2.keep k fun _ z => z⟩, fun i ds e => absurd e (noOwn_get r.no), fun i ks ds e => absurd e (noMp_get r.no), fun a o e => ?_, r.rel.f0, r.rel.f1, fun a h => ?_⟩, r.no, r.spl.keep k (fun _ z => z) (fun q w => upd_ne fun z => by subst z; exact w wp) (fun q w => ?_) fun q w => ?_⟩
  · by_cases h : a = p
    · subst h; rw [n0] at e; cases e
    · rw [upd_ne h]; exact r.rel.ext a o e
  · by_cases z : a = p
    · subst z; exact absurd h nf
    · rw [upd_ne z]; exact r.rel.wf a h
  · rw [upd_ne (fun z => by subst z; exact w wp)]; exact r.spl.off q w
  · by_cases z : q = p
    · subst z; rw [upd_same, upd_same]
    · rw [upd_ne z, upd_ne z]; exact r.spl.on q w
def only (p : Addr) : Own := fun a => if a = p then some (.cell 0) else none
theorem restr_only : restr (only p) G = rm G p := by
  funext a
  unfold restr only rm
  by_cases h : a = p
  · simp [h]
  · simp [h]
theorem out_only {vs : List V} (hT : IsTab T) (hp : G p = some (.lst vs)) (nf : ¬ F p) : Out0 (T.wc φ) F (only p) G := ⟨isTab_wc hT, rfl, fun a h => by
  unfold only
  rw [if_neg fun z => by subst z; exact nf h], fun a h => by
  unfold only at h
  split at h
  · rename_i z; subst z; exact .inl ⟨vs, hp⟩
  · exact absurd rfl h⟩
theorem Rep.without {vs : List V} {v : V} {d : D} (hT : IsTab T) (hp : G p = some (.lst vs)) (nf : ¬ F p) (r : Rep (T.wc φ) K F G v d) : Rep (T.wc φ) K F (rm G p) v d := by
  have := r.shrink (out_only hT hp nf)
  rwa [restr_only] at this
theorem Reps.without {vs : List V} {v : List V} {d : List D} (hT : IsTab T) (hp : G p = some (.lst vs)) (nf : ¬ F p) (r : Reps (T.wc φ) K F G v d) : Reps (T.wc φ) K F (rm G p) v d := by
  have := r.shrink (out_only hT hp nf)
  rwa [restr_only] at this
theorem upd_rm {o : HO} (h : H p = some o) : upd (rm H p) p o = H := rm_upd h
theorem Evo.rm {φ' : List Addr} {G' : Hp} {F' : FS} {o : HO} (e : Evo φ φ' G G' F F') (hp : G p = some o) (nf : ¬ F p) : Evo φ φ' (BD.rm G p) (BD.rm G' p) F F' := ⟨e.gr.rm hp nf, e.cl⟩
theorem Spl.take {vs : List V} {ds : List D} (hT : IsTab T) (s : Spl (T.wc φ) K F W M G H) (wf : ∀ a, F a → G a ≠ none) (hp : G p = some (.lst vs)) (nf : ¬ F p) (r : Reps (T.wc φ) K F G vs ds) : Spl (T.wc (φ ++ [p])) K F (setW W p (.cell M.length)) (M ++ [.lst ds]) (rm G p) H := by
  have wp := s.wz (by rw [hp]; simp)
  have hH : H p = some (.lst vs) := s.ext _ _ hp
  have sr : Spl (T.wc φ) K F W M (rm G p) (rm H p) := by
    refine ⟨s.len, fun n cl q => ?_, fun a h => ?_, fun a h => ?_, fun a h => ?_, fun a h => ?_⟩
    · obtain ⟨b, h1, h2⟩ := s.ok n cl q
      refine ⟨b, h1, h2.mv rfl (fun _ _ x => x.without hT hp nf) (fun _ _ x => x.without hT hp nf) fun q t w _ => ⟨w, rm_ne fun z => by subst z; rw [wp] at w; cases w⟩⟩
    · rw [rm_ne (fun z => by subst z; exact h wp)]; exact s.off a h
    · by_cases z : a = p
      · subst z; rw [rm_self, rm_self]
      · rw [rm_ne z, rm_ne z]; exact s.on a h
    · rw [rm_ne (fun z => by subst z; exact h wp)]; exact s.kind a h
    · obtain ⟨oe, us, h1, h2⟩ := s.hd a h
      exact ⟨oe, us, by rw [rm_ne (fun z => by subst z; rw [hp] at h1; cases h1)]; exact h1, h2⟩
  have z := sr.push (o := .lst vs) (c := .lst ds) rm_self (.inl ⟨_, rfl⟩) ⟨setW_self, vs, upd_same, (r.without hT hp nf).pre ⟨_, rfl⟩⟩
  rwa [upd_rm hH] at z
end
section
variable {X : Cx} {T : Tab} {E : XK} {elt iter tg a b : Expr} {ifs : List Expr} {scope : Scope} {own : List (Str × Nat)} {f : MEvL} {gg : Gv} {q fe fa fb : MEv} {ss : List Nat} {pos : Pos}
structure JMTs (X : Cx) (T : Tab) (E : XK) (es : List Expr) (f : MEv) : Prop where h : PTs X es (tMT T X.K E f)
end
end BD
namespace BD
open PySem PySem.Spec L2 PySem.W PyProof.Rows
section
variable {X : Cx} {T : Tab} {E : XK} {l tg : Expr} {fo : MEv} {fb : MSv} {body : List Stmt} {pos : Pos}
end
open Att in
theorem walk_M {l : PySem.W.OpenLaw} {n k : Nat} {q : Program} {loose : List Str} {XP : (Str → Option Value) → Heap → Prop} {YP : World → Heap → Prop} {d : DefRec} {K : Params → PySem.W.Frag} {x : Str} {g : List D → Mem → Option (Out × Mem)}
    (hn : l.most = some n) (hn2 : n ≤ sizeLine) (hdf : d.params.defaults = []) (hr : Room k callerA) (hY : ∀ (w : World) (h : Heap), YP w h → (K w.params).In h) (hL : LawT n (pSem g))
    (F : ∀ (w : World) (mg : Str → Option Value) (fa : Addr) (h : Heap), (K w.params).In h → h.Ns mainGlobals mg → mg d.name = some (.ref fa) →
      ∃ (fd : FuncData) (T : Tab), T.hd = none ∧ (∀ (s : Shared) (u : Value), BindsTo s fd ⟨[u], []⟩ [(x, u)]) ∧ ∀ base : Heap, (K w.params).In base → base.Ns mainGlobals mg → FnOk l.prog w (K w.params) mg base (CXf l.prog w) k fa fd [x] (spM T (K w.params) g)) :
    PySem.W.WalkO q loose XP YP l.row.toRowW d [] (fun f vs => PySem.call f vs) :=
  walk_Dx hn hn2 hdf hr hY hL fun w mg fa h KX G hmg => by
    obtain ⟨fd, T, hh, hb, hF⟩ := F w mg fa h KX G hmg
    exact ⟨fd, T, hb, fun base b1 b2 => fnP_ok hh (hF base b1 b2)⟩
end BD
namespace BD
open PySem PySem.Spec L2 PySem.W PyProof.Rows
section
variable {X : Cx} {T : Tab} {E : XK} {CX : CXT} {k n : Nat} {C : Addr} {ps names : List Str} {x m : Str} {p pos apos : Pos} {o : Expr} {fo : Ev}
end
section
variable {X : Cx} {T : Tab} {K : Frag} {F : FS} {H : Hp}
end
section
variable {P : Program} {w : World} {K : Frag} {mg : Str → Option Value} {base : Heap} {CX : CXT}
end
abbrev AllT (T : Tab) (p : Tab → Prop) : Prop := ∀ (φ : List Addr) (b : Bool), p { T with cl := φ, mt := b }
theorem ObC.tr {K : Frag} {mg : Str → Option Value} {T : Tab} {x : Str} {n : Nat} {names : List Str} {C : Addr} (h : ObC K mg T x n names C) (φ : List Addr) (b : Bool) (a : Option Addr) : ObC K mg { T with cl := φ, mt := b, hd := a } x n names C := ⟨h.mg, h.oc, h.cl, h.no, h.nd⟩
theorem IsExc.tr {K : Frag} {mg : Str → Option Value} {T : Tab} {x : Str} {n : Nat} (h : IsExc K mg T x n) (φ : List Addr) (b : Bool) (a : Option Addr) : IsExc K mg { T with cl := φ, mt := b, hd := a } x n := ⟨h.ex⟩
theorem IsTab.tr {T : Tab} (h : IsTab T) (φ : List Addr) (b : Bool) (a : Option Addr) : IsTab { T with cl := φ, mt := b, hd := a } := ⟨h.ex⟩
end BD
namespace BD
open PySem PySem.Spec L2 PySem.W PyProof.Rows
section
variable {P : Program} {w : World} {K : Frag} {mg : Str → Option Value} {base : Heap} {CX : CXT} {T : Tab} {x : Str} {ps : List Str} {k : Nat} {g : List D → Mem → Option (Out × Mem)}
theorem ClS.pure (hh : T.hd = none) (C : ClS P w K mg base CX T x ps k g) : AllT T fun T => Cl P w K mg base CX T x ps k (pSem g) := fun φ b => by
  obtain ⟨f, fd, G, h1, h2, h3⟩ := C
  have G' : FnOk P w K mg base CX k f fd ps (spM { T with cl := φ, mt := b } K g) := G
  exact ⟨f, fd, fnP_ok hh G', h1, h2, h3⟩
theorem ClSM.pure {C : Addr} {m : Str} (hh : T.hd = none) (M : ClSM P w K mg base CX T C m ps k g) : AllT T fun T => ClM P w K mg base CX T C m ps k (pSem g) := fun φ b => by
  obtain ⟨f, fd, G, h1, h2⟩ := M.ex
  have G' : FnOk P w K mg base CX k f fd ps (spM { T with cl := φ, mt := b } K g) := G
  exact ⟨f, fd, fnP_ok hh G', h1, h2⟩
end
end BD
namespace BD
open PySem PySem.Spec L2 PySem.W PyProof.Rows
end BD
namespace BD
open PySem PySem.Spec L2 PySem.W PyProof.Rows
section
variable {X : Cx} {T : Tab} {E : XK} {a : Expr} {fs : EvL} {p pos : Pos}
end
section
variable {prog : Program} {w : World} {A : Around} {E : Value → Shared → Prop} {s : Shared}
end
open AutoSeq1 (wpAny_loadPart') in
theorem new_enumZ (z TI TO : Addr) : Meets (Builtin.«enumerate.__new__» ⟨[.type "enumerate", .ref z], []⟩) (fun _ R s => IsZip s.heap z TI TO .none ∧ R (.ok (.ret (.ref s.heap.objs.size))) { s with heap := s.heap.push { cls := .type "enumerate", data := .fields #[.none, .bool false, .ref z, rawInt 0, .none, .none] } }) :=
  .of_wp fun prog w A R s h => by
    obtain ⟨hp, g, d, tk, os⟩ := s; obtain ⟨hz, h⟩ := h; have hsub := sub_enumerate
    have hZ : IsZip (Shared.heap ⟨hp, g, d, tk, os⟩) z TI TO .none := hz
    wp_walk using wpAny_loadPart' hz
    refine wpAny_stack_any fun st => wpAny_pure ?_
    split
    · rename_i c _ _ _ _ _
      cases (c == Value.type "enumerate")
      · wp_walk using wpAny_loadPart' hz, wpAny_pyIter_zip hZ
        exact ⟨_, rfl, h⟩
      · wp_walk using wpAny_loadPart' hz, wpAny_pyIter_zip hZ
        exact ⟨_, rfl, h⟩
    · wp_walk using wpAny_loadPart' hz, wpAny_pyIter_zip hZ
      exact ⟨_, rfl, h⟩
end BD
namespace L2
open PySem PySem.Spec PyProof.Rows
end L2
namespace BD
open PySem PySem.Spec L2 PySem.W PyProof.Rows
section
variable {X : Cx} {T : Tab} {E : XK} {a b : Expr} {fs : MEvL} {p pos p2 pos2 tpos : Pos} {elts : List Expr} {kk : Nat}
end
end BD
namespace BD
open PySem PySem.Spec L2 PySem.W PyProof.Rows
section
variable {X : Cx} {pins : List (Addr × Obj)} {σ : L2.St} {H : Hp} {s s' : Shared} {er cB : Value} {ts : Addr → TS} {i : Nat} {D : Ends} {x y : Str} {np hp : Pos} {b0 : Stmt} {su : List Stmt}
end
section
variable {X : Cx} {T : Tab} {E : XK} {i : Nat} {c : Expr} {x y : Str} {cB : Value} {np hp py ap pos : Pos} {fc : MEv} {su : MSv} {okn : Nat → Bool} {b0 : Stmt} {bs : List Stmt}
end
end BD
namespace BD
open PySem PySem.Spec L2 PySem.W PyProof.Rows
section
variable {T : Tab} {K : Frag} {F : FS} {H : Hp}
end
section
variable {X : Cx} {T : Tab} {E : XK} {a b e o tg : Expr} {fa fb f fo fe : Ev} {fs : EvL} {p p2 pos apos : Pos}
end
section
variable {X : Cx} {T : Tab} {E : XK}
inductive JEs (X : Cx) (T : Tab) (E : XK) : List Expr → List Ev → Prop
  | nil : JEs X T E [] []
  | cons {e : Expr} {f : Ev} {es : List Expr} {fs : List Ev} (h : JE X T E e f) (t : JEs X T E es fs) : JEs X T E (e :: es) (f :: fs)
end
end BD
namespace BD
open PySem PySem.Spec L2 PySem.W PyProof.Rows
section
variable {X : Cx} {T : Tab} {E : XK} {a b e o tg : Expr} {fa fb f fo fe : Ev} {fs : EvL} {p p2 pos px apos : Pos}
end
section
variable {X : Cx} {pins : List (Addr × Obj)} {σ : L2.St} {H : Hp} {s s' : Shared} {er cB : Value} {ts : Addr → TS} {i j : Nat} {D : Ends} {x y n : Str} {np hp : Pos} {b0 : Stmt} {su : List Stmt}
end
section
variable {X : Cx} {T : Tab} {E : XK} {i j : Nat} {c : Expr} {x y n : Str} {cB : Value} {np hp py ap pos : Pos} {fc : MEv} {su : MSv} {okn : Nat → Bool} {b0 : Stmt} {bs : List Stmt}
end
end BD
namespace BD
open PySem PySem.Spec L2 PySem.W PyProof.Rows
section
variable {X : Cx} {T : Tab} {E : XK} {pos px apos cpos pos' : Pos}
end
end BD
namespace BD
open PySem PySem.Spec L2 PySem.W PyProof.Rows
section
variable {X : Cx} {T : Tab} {E : XK} {a : Expr} {f : Ev} {p p2 pos pos2 : Pos}
end
end BD
namespace BD
open PySem PySem.Spec L2 PySem.W PyProof.Rows
section
variable {X : Cx} {T : Tab} {E : XK} {a b c : Expr} {x y z : Str} {pos : Pos}
variable {fs : MEvL}
variable {d : Expr} {u : Str}
variable {p : Pos}
end
end BD
namespace BD
open PySem PySem.Spec L2 PySem.W PyProof.Rows
section
variable {X : Cx} {T : Tab} {E E0 : XK} {elt iter iter1 tg1 : Expr} {ifs ifs1 : List Expr} {scope : Scope} {own : List (Str × Nat)} {pos spos tpos py : Pos} {fs fs1 : EvL} {gg : Gv} {q q1 fe : Ev} {vs1 ss : List Nat} {i i0 : Nat} {x0 y : Str}
end
end BD
namespace BD
open PySem PySem.Spec L2 PySem.W PyProof.Rows
section
variable {X : Cx}
end
section
variable {X : Cx} {T : Tab} {E : XK} {o e : Expr} {apos pos : Pos} {fo fe : Ev}
end
end BD
namespace BD
open PySem PySem.Spec L2 PySem.W PyProof.Rows
section
variable {T : Tab} {K : Frag}
theorem Rel.setMp {c : Ent} {ρ : Rho} {σ : L2.St} {H : Hp} {F : Addr → Prop} (r : Rel T K c ρ σ H F) {i : Nat} {p : Addr} {kvs : List (List Key × V)} {ds : List D} (hp : H p = some (.dT kvs)) (h : Reps T K F H (kvs.map (·.2)) ds) (nf : ¬ F p) (n0 : c.H p = none)
    (nj : ∀ (j : Nat) (ks' : List (List Key)) (ds' : List D), ρ[j]? = some (some (.mp ks' ds')) → σ[j]? ≠ some (some (.ref p))) : Rel T K c (ρ.set i (some (.mp (kvs.map (·.1)) ds))) (σ.set i (some (.ref p))) H F where
  len := by rw [List.length_set, List.length_set]; exact r.len
  sh := fun j e q => by
    by_cases hj : j = i
    · subst hj
      obtain ⟨z, hl⟩ := get_set_eq q
      cases z
    · rw [get_set_ne hj] at q ⊢
      exact r.sh j e q
  own := fun j ds' q => by
    by_cases hj : j = i
    · subst hj
      obtain ⟨z, hl⟩ := get_set_eq q
      cases z
    · rw [get_set_ne hj] at q ⊢
      obtain ⟨p', vs', h1, h2, h3, h4, h5, h6⟩ := r.own j ds' q
      refine ⟨p', vs', h1, h2, h3, h4, h5, fun k ds' q1 q2 => ?_⟩
      by_cases hk : k = i
      · subst hk
        obtain ⟨z, hl⟩ := get_set_eq q1
        cases z
      · rw [get_set_ne hk] at q1 q2
        exact h6 k ds' q1 q2
  mp := fun j ks' ds' q => by
    by_cases hj : j = i
    · subst hj
      obtain ⟨z, hl⟩ := get_set_eq q
      cases z
      refine ⟨p, kvs, ?_, hp, rfl, h, nf, n0, fun k ks' ds' q1 q2 => ?_⟩
      · rw [List.getElem?_set_self (by rw [← r.len]; exact hl)]
      · by_cases hk : k = j
        · exact hk
        · rw [get_set_ne hk] at q1 q2
          exact absurd q2 (nj k ks' ds' q1)
    · rw [get_set_ne hj] at q ⊢
      obtain ⟨p', kvs', h1, h2, hk', h3, h4, h5, h6⟩ := r.mp j ks' ds' q
      refine ⟨p', kvs', h1, h2, hk', h3, h4, h5, fun k ks'' ds' q1 q2 => ?_⟩
      by_cases hk : k = i
      · subst hk
        obtain ⟨z, hl⟩ := get_set_eq q2
        have : p' = p := by cases z; rfl
        subst this
        exact absurd h1 (nj j _ _ q)
      · rw [get_set_ne hk] at q1 q2
        exact h6 k ks'' ds' q1 q2
  ext := r.ext
  f0 := r.f0
  f1 := r.f1
  wf := r.wf
theorem rel_mp {c : Ent} {ρ : Rho} {σ : L2.St} {H : Hp} {F : Addr → Prop} {p : Addr} (r : Rel T K c ρ σ H F) (hp : H p = none) (i : Nat) : Rel T K c (ρ.set i (some (.mp [] []))) (σ.set i (some (.ref p))) (upd H p (.dT [])) F := by
  have g2 : Grow H (upd H p (.dT [])) F F := Grow.upd r.wf hp
  refine (r.grow g2).setMp (kvs := []) (ds := []) upd_same .nil (fun z => r.wf p z hp) (r.ext.none hp) fun j ks' ds' q1 q2 => ?_
  obtain ⟨p', vs', h1, h2, _⟩ := r.mp j ks' ds' q1
  rw [q2] at h1
  cases h1
  rw [hp] at h2
  cases h2
theorem Rel.freezeM {c : Ent} {ρ : Rho} {σ : L2.St} {H : Hp} {F : Addr → Prop} (r : Rel T K c ρ σ H F) {i : Nat} {ks : List (List Key)} {ds : List D} (e : ρ[i]? = some (some (.mp ks ds))) : ∃ F', (∀ a, F a → F' a) ∧ Rel T K c (ρ.set i (some (.sh (.dic ks ds)))) σ H F' := by
  obtain ⟨p, kvs, h1, h2, hk, h3, h4, h5, h6⟩ := r.mp i ks ds e
  have k : Keep F H H := fun a o e _ => e
  have f : ∀ a, F a → (fun a => F a ∨ a = p) a := fun a h => .inl h
  refine ⟨fun a => F a ∨ a = p, f, ?_, fun j e q => ?_, fun j ds' q => ?_, fun j ks' ds' q => ?_, r.ext, fun a h => .inl (r.f0 a h), fun a h => ?_, fun a h => ?_⟩
  · rw [List.length_set]; exact r.len
  · by_cases hj : j = i
    · subst hj
      obtain ⟨z, hl⟩ := get_set_eq q
      cases z
      exact ⟨_, h1, by rw [← hk]; exact .dic (.inr rfl) h2 (h3.keep k f)⟩
    · rw [get_set_ne hj] at q
      obtain ⟨v, q1, q2⟩ := r.sh j e q
      exact ⟨v, q1, q2.keep k f⟩
  · by_cases hj : j = i
    · subst hj
      obtain ⟨z, hl⟩ := get_set_eq q
      cases z
    · rw [get_set_ne hj] at q
      obtain ⟨p', vs', q1, q2, q3, q4, q5, q6⟩ := r.own j ds' q
      refine ⟨p', vs', q1, q2, q3.keep k f, ?_, q5, fun m ds'' w1 w2 => ?_⟩
      · rintro (z | z)
        · exact q4 z
        · subst z
          rw [h2] at q2
          cases q2
      · by_cases hm : m = i
        · subst hm
          obtain ⟨z, hl⟩ := get_set_eq w1
          cases z
        · rw [get_set_ne hm] at w1
          exact q6 m ds'' w1 w2
  · by_cases hj : j = i
    · subst hj
      obtain ⟨z, hl⟩ := get_set_eq q
      cases z
    · rw [get_set_ne hj] at q
      obtain ⟨p', kvs', q1, q2, qk, q3, q4, q5, q6⟩ := r.mp j ks' ds' q
      refine ⟨p', kvs', q1, q2, qk, q3.keep k f, ?_, q5, fun m ks'' ds'' w1 w2 => ?_⟩
      · rintro (z | z)
        · exact q4 z
        · subst z
          exact hj (h6 j ks' ds' q q1)
      · by_cases hm : m = i
        · subst hm
          obtain ⟨z, hl⟩ := get_set_eq w1
          cases z
        · rw [get_set_ne hm] at w1
          exact q6 m ks'' ds'' w1 w2
  · rcases h with h | h
    · exact r.f1 a h
    · subst h; exact .inr h5
  · rcases h with h | h
    · exact r.wf a h
    · subst h; rw [h2]; simp
theorem Rel.changeM {c : Ent} {ρ : Rho} {σ : L2.St} {H : Hp} {F : Addr → Prop} (r : Rel T K c ρ σ H F) {i : Nat} {ks : List (List Key)} {ds ds' : List D} {p : Addr} {kvs' : List (List Key × V)} (e : ρ[i]? = some (some (.mp ks ds))) (hp : σ[i]? = some (some (.ref p))) (h : Reps T K F H (kvs'.map (·.2)) ds') :
    Keep F H (upd H p (.dT kvs')) ∧ Rel T K c (ρ.set i (some (.mp (kvs'.map (·.1)) ds'))) σ (upd H p (.dT kvs')) F := by
  obtain ⟨p', kvs, h1, h2, hk, h3, h4, h5, h6⟩ := r.mp i ks ds e
  have : p' = p := by rw [hp] at h1; cases h1; rfl
  subst this
  have k : Keep F H (upd H p' (.dT kvs')) := fun a o q z => by
    by_cases ha : a = p'
    · subst ha
      rcases z with z | z
      · exact absurd z h4
      · rw [h2] at q; cases q; exact absurd rfl (z.2 kvs)
    · rw [upd_ne ha]; exact q
  refine ⟨k, by rw [List.length_set]; exact r.len, fun j d q => ?_, fun j es q => ?_, fun j ks' es q => ?_, fun a o q => ?_, r.f0, r.f1, fun a q => ?_⟩
  · by_cases hj : j = i
    · subst hj
      obtain ⟨z, _⟩ := get_set_eq q
      cases z
    · rw [get_set_ne hj] at q
      obtain ⟨v, q1, q2⟩ := r.sh j d q
      exact ⟨v, q1, q2.keep k fun _ z => z⟩
  · by_cases hj : j = i
    · subst hj
      obtain ⟨z, _⟩ := get_set_eq q
      cases z
    · rw [get_set_ne hj] at q
      obtain ⟨p2, vs2, q1, q2, q3, q4, q5, q6⟩ := r.own j es q
      have hne : p2 ≠ p' := fun z => by subst z; rw [h2] at q2; cases q2
      refine ⟨p2, vs2, q1, by rw [upd_ne hne]; exact q2, q3.keep k fun _ z => z, q4, q5, fun m es' w1 w2 => ?_⟩
      by_cases hm : m = i
      · subst hm
        obtain ⟨z, _⟩ := get_set_eq w1
        cases z
      · rw [get_set_ne hm] at w1
        exact q6 m es' w1 w2
  · by_cases hj : j = i
    · subst hj
      obtain ⟨z, _⟩ := get_set_eq q
      cases z
      refine ⟨p', kvs', h1, upd_same, rfl, h.keep k fun _ z => z, h4, h5, fun m ks'' es w1 w2 => ?_⟩
      by_cases hm : m = j
      · exact hm
      · rw [get_set_ne hm] at w1
        exact h6 m ks'' es w1 w2
    · rw [get_set_ne hj] at q
      obtain ⟨p2, kvs2, q1, q2, qk, q3, q4, q5, q6⟩ := r.mp j ks' es q
      have hne : p2 ≠ p' := fun z => by subst z; exact hj (h6 j ks' es q q1)
      refine ⟨p2, kvs2, q1, by rw [upd_ne hne]; exact q2, qk, q3.keep k fun _ z => z, q4, q5, fun m ks'' es' w1 w2 => ?_⟩
      by_cases hm : m = i
      · subst hm
        rw [h1] at w2
        exact absurd (by cases w2; rfl) hne
      · rw [get_set_ne hm] at w1
        exact q6 m ks'' es' w1 w2
  · by_cases ha : a = p'
    · subst ha; rw [h5] at q; cases q
    · rw [upd_ne ha]; exact r.ext a o q
  · by_cases ha : a = p'
    · subst ha; rw [upd_same]; simp
    · rw [upd_ne ha]; exact r.wf a q
end
def keysI : List D → Option (List Key)
  | [] => some []
  | .int i :: ds => (keysI ds).map (Sum.inl i :: ·)
  | _ => none
theorem keysI_reps {T : Tab} {K : Frag} {F : Addr → Prop} {H : Hp} : ∀ {vs : List V} {ds : List D} {k : List Key}, Reps T K F H vs ds → keysI ds = some k → vs = k.map kV
  | _, _, _, .nil, e => by cases e; rfl
  | _, _, k, .cons r t, e => by
    cases r with
    | int i =>
      unfold keysI at e
      rename_i vs ds
      cases q : keysI ds with
      | none => rw [q] at e; cases e
      | some k' =>
        rw [q] at e
        cases e
        rw [keysI_reps t q]
        rfl
    | _ => cases e
def lookD (k : List Key) : List (List Key) → List D → Option D
  | k' :: ks, d :: ds => if k' = k then some d else lookD k ks ds
  | _, _ => none
theorem lookD_reps {T : Tab} {K : Frag} {F : Addr → Prop} {H : Hp} {k : List Key} {d : D} : ∀ {kvs : List (List Key × V)} {ds : List D}, Reps T K F H (kvs.map (·.2)) ds → lookD k (kvs.map (·.1)) ds = some d → ∃ v, valV kvs k = some v ∧ Rep T K F H v d
  | [], _, _, e => by simp [lookD] at e
  | p :: kvs, [], r, _ => by cases r
  | p :: kvs, d' :: ds, r, e => by
    rw [List.map_cons] at r e
    cases r with
    | cons r1 r2 =>
      unfold lookD at e
      by_cases z : p.1 = k
      · rw [if_pos z] at e
        cases e
        exact ⟨p.2, valV_pos z, r1⟩
      · rw [if_neg z] at e
        obtain ⟨v, h1, h2⟩ := lookD_reps r2 e
        refine ⟨v, ?_, h2⟩
        unfold valV at h1 ⊢
        rw [List.find?_cons]
        simp only [z, decide_false]
        exact h1
def eMGet (fo fi : Ev) : Ev := fun ρ => obnd (fo ρ) fun x => match x with
  | .dic ks ds => obnd (fi ρ) fun y => match y with
    | .tup es => (keysI es).bind fun k => (lookD k ks ds).map .val
    | _ => none
  | _ => none
theorem key_sq {X : Cx} {pins : List (Addr × Obj)} {σ : L2.St} {H : Hp} {s : Shared} {b : Addr} {ks : List Key} (I : Inv X pins σ H s) (h : SqT X.K H b (ks.map kV)) : (tupleKind (mixKind X.prog X.w)).is s.heap ks b := by
  obtain ⟨its, r, ⟨o, h1, h2, n, h3⟩, _⟩ := I.tuple h
  exact ⟨o, its.toArray, n, h1, h2, h3, by simpa using items_are r⟩
def tDGetT (K : Frag) (td ty : TE) : TE := fun σ H Q => td σ H fun x H1 => ty σ H1 fun y H2 => ∃ a b kvs k v, x = .ref a ∧ y = .ref b ∧ Rd H2 a (.dT kvs) ∧ SqT K H2 b (k.map kV) ∧ valV kvs k = some v ∧ Q v H2
section
variable {X : Cx} {T : Tab} {E : XK} {o i e : Expr} {es : List Expr} {pos pos' ppos : Pos} {fo fi fe : Ev} {fk : EvL}
theorem pe_dgetT {td ty : TE} (hu : X.A.units + 1 < cLine) (ho : PE X o td) (hi : PE X i ty) (hs : NoSl i) : PE X (.Subscript o i pos) (tDGetT X.K td ty) := by
  intro pins s σ H Q I h
  refine subD_of PySem.F.slot_dict_getitem.lookup hs (thn (ho pins s σ H _ I h) fun u s1 ⟨x, H1, I1, rx, q1⟩ => thn (hi pins s1 σ H1 _ I1 q1) fun iv s2 ⟨y, H2, I2, ry, a, b, kvs, k, v, ex, ey, e, sq, l, q2⟩ => ?_)
  subst ex ey
  obtain rfl : u = Value.ref a := rx
  cases (show iv = Value.ref b from ry)
  obtain ⟨z, hd, xs, rel, dd⟩ := dt_rd I2.hok e
  obtain ⟨w', hw, rw'⟩ := RelO.some_of (v := v) (o := (atKey xs k).map (·.2)) (by rw [← l]; exact rel.val k)
  obtain ⟨p, hp, hp2⟩ := Option.map_eq_some_iff.mp hw
  refine ⟨?_, wpAny_getItem_heap (tupleKind_room_in1 hu) (key_sq I2 sq) dd hp ?_⟩
  · obtain ⟨o, es, ep, h1, h2, _⟩ := dd
    exact ⟨o, h1, h2.1⟩
  · rw [hp2]
    exact ⟨v, H2, I2.tok _, rw', q2⟩
theorem je_mget (hu : X.A.units + 64 < cLine) (ho : JE X T E o fo) (hi : JE X T E i fi) (hs : NoSl i := by intro _ _; kernel_rfl) : JE X T E (.Subscript o i pos) (eMGet fo fi) :=
  ⟨PE.imp (pe_dgetT (by omega) ho.h hi.h hs) fun σ H Q ⟨c, ρ, F, out, r, e, th⟩ => by
    refine tD_bind r e (fun d v H1 F1 g1 r1 e1 => ?_) th.exc
    split at e1
    · rename_i ks ds
      cases r1 with
      | dic f h rs =>
        refine tD_bind (r.grow g1) e1 (fun d2 v2 H2 F2 g2 r2 e2 => ?_) (th.grow g1).exc
        split at e2
        · rename_i es
          cases r2 with
          | tup sq rt =>
            cases hk : keysI es with
            | none => rw [hk] at e2; cases e2
            | some k =>
              rw [hk] at e2
              dsimp only [Option.bind] at e2
              cases hl : lookD k _ ds with
              | none => rw [hl] at e2; cases e2
              | some d =>
                rw [hl] at e2
                cases e2
                obtain ⟨v, h1, h2⟩ := lookD_reps rs hl
                have h3 := g2.ext _ _ h
                have e3 := keysI_reps rt hk
                subst e3
                exact ⟨_, _, _, k, v, rfl, rfl, .inl h3, sq, h1, th v H2 F2 (g1.trans g2) (h2.grow g2)⟩
        · cases e2
    · cases e1⟩
def sMNew (i : Nat) : Sv := fun ρ => some (.nx (ρ.set i (some (.mp [] []))))
theorem js_mnew {i : Nat} {x : Str} {dpos : Pos} (hN : X.N.Nodup) (hi : X.N[i]? = some x) (hx : Loc X.env.scope x) (hs : swapsWith (.Dict [] [] dpos) (some (.Name x pos')) pos.line X.env = pure false := by kernel_rfl)
    (hf : X.fn x = true ∨ X.env.scope.names.lookup x = some .local := by exact .inl (by kernel_rfl)) : JS X T E (.Assign [.Name x pos'] (.Dict [] [] dpos) pos) (sMNew i) := ⟨PS.imp (ps_set hN hi hx pe_dnewT hs hf) fun D σ H ⟨c, ρ, F, fl, r, e, th⟩ => by
  cases e
  intro p hp
  exact th _ _ F (Grow.upd r.wf hp).later (rel_mp r hp i)⟩
def sMPut (i : Nat) (fk : EvL) (fe : Ev) : Sv := fun ρ => match ρ[i]? with
  | some (some (.mp ks ds)) => sbnd (fe ρ) fun d => lbndS (fk ρ) fun es => match keysI es with
    | some k => if (!(ks.any fun k' => decide (k' = k)) && decide (ks.length ≤ 1000) && smallL es) = true then some (.nx (ρ.set i (some (.mp (ks ++ [k]) (ds ++ [d]))))) else none
    | none => none
  | _ => none
theorem putK_new {kvs : List (List Key × V)} {k : List Key} {v : V} (h : k ∉ kvs.map (·.1)) : putK kvs k v = kvs ++ [(k, v)] := by
  unfold putK
  rw [if_neg]
  intro z
  obtain ⟨p, hp, e⟩ := List.any_eq_true.mp z
  exact h (List.mem_map.mpr ⟨p, hp, of_decide_eq_true e⟩)
theorem ds_mput {n : Nat} {x1} (hu : X.A.units + 1 < cLine) (ho : PE X o (tVar n)) (hk : PA X es (tDA T X.K E fk)) (he : PE X e (tD T X.K E fe)) (hs : swapsWith e (some (.Subscript o (.Tuple es x1 ppos) pos')) pos.line X.env = pure false) :
    PS X (.Assign [.Subscript o (.Tuple es x1 ppos) pos'] e pos) (tDS T X.K E (sMPut n fk fe)) := PS.imp (ps_dput hu ho (pe_tup hk) he hs) fun D σ H ⟨c, ρ, F, fl, r, e, th⟩ => by
  unfold sMPut at e
  split at e
  · rename_i ks ds q
    obtain ⟨p, kvs, h1, h2, hk, h3, h4, h5, h6⟩ := r.mp n ks ds q
    refine tD_bindS r e th fun d v H1 F1 g1 r1 e1 => ?_
    refine ⟨_, h1, ?_⟩
    unfold lbndS at e1
    split at e1
    · rename_i es' qe
      dsimp only at e1
      split at e1
      · rename_i k qk
        split at e1
        · rename_i hc
          simp only [Bool.and_eq_true, Bool.not_eq_true', decide_eq_true_eq] at hc
          obtain ⟨⟨hn, hl⟩, hsm⟩ := hc
          have hn : k ∉ ks := fun z => by
            have : (ks.any fun k' => decide (k' = k)) = true := List.any_eq_true.mpr ⟨k, z, decide_eq_true rfl⟩
            rw [hn] at this
            cases this
          cases e1
          refine ⟨c, ρ, F1, _, r.grow g1, qe, fun us H2 F2 g2 r2 => ⟨by rw [r2.length]; exact Nat.le_trans (of_decide_eq_true hsm) (by decide), fun b hb => ?_⟩⟩
          have g3 : Grow H2 (upd H2 b (.tup us)) F2 F2 := Grow.upd g2.wf hb
          have gg := (g1.trans g2).trans g3
          have hp3 := gg.ext _ _ h2
          have eu := keysI_reps r2 qk
          have nk : k ∉ kvs.map (·.1) := by rw [hk]; exact hn
          have rel3 := r.grow gg
          have lk : kvs.length ≤ 1000 := by rw [← hk, List.length_map] at hl; exact hl
          obtain ⟨kp, r'⟩ := rel3.changeM (kvs' := kvs ++ [(k, v)]) (ds' := ds ++ [d]) q h1 (by
            rw [List.map_append]
            exact (h3.grow gg).append (.cons (r1.grow (g2.trans g3)) .nil))
          have ek : (kvs ++ [(k, v)]).map (·.1) = ks ++ [k] := by rw [List.map_append, hk]; rfl
          rw [ek] at r'
          refine ⟨p, upd (upd H2 b (.tup us)) p (.dT (putK kvs k v)), rfl, DPut.t (k := k) hp3 (by rw [upd_same, eu]) (Nat.lt_of_le_of_lt lk (by decide)), ?_⟩
          rw [putK_new nk]
          exact th σ _ F2 (gg.later.trans ⟨kp, fun _ z => z⟩) r'
        · cases e1
      · cases e1
    · rename_i m qe
      cases e1
      exact ⟨c, ρ, F1, _, r.grow g1, qe, fun H' z => th H' ((r.ext.trans g1.ext).trans z)⟩
    · cases e1
  · cases e
theorem js_mput {n : Nat} {x : Str} {x1 npos} (hu : X.A.units + 64 < cLine) (hN : X.N[n]? = some x) (hv : Vis X.env.scope x) (hk : JA X T E es fk) (he : JE X T E e fe) (hs : swapsWith e (some (.Subscript (.Name x npos) (.Tuple es x1 ppos) pos')) pos.line X.env = pure false := by kernel_rfl) (hd : (x == ("__debug__" : Str)) = false := by kernel_rfl) (hcd : (x == ("__classdict__" : Str)) = false := by kernel_rfl) :
    JS X T E (.Assign [.Subscript (.Name x npos) (.Tuple es x1 ppos) pos'] e pos) (sMPut n fk fe) := ⟨ds_mput (by omega) (pe_var hN hv hd hcd) hk.h he.h hs⟩
def sMFrz (i : Nat) (g : Sv) : Sv := fun ρ => match ρ[i]? with
  | some (some (.mp ks ds)) => g (ρ.set i (some (.sh (.dic ks ds))))
  | _ => g ρ
theorem jb_mfrz {sts : List Stmt} {i : Nat} {g : Sv} (h : JB X T E sts g) : JB X T E sts (sMFrz i g) := ⟨PSs.imp h.h fun D σ H ⟨c, ρ, F, fl, r, e, th⟩ => by
  unfold sMFrz at e
  split at e
  · rename_i ks ds q
    obtain ⟨F', m, r'⟩ := r.freezeM q
    exact ⟨c, _, F', fl, r', e, th.later ⟨fun _ _ e _ => e, m⟩⟩
  · exact ⟨c, ρ, F, fl, r, e, th⟩⟩
end
end BD
namespace BD
open PySem L2
def top (i : Nat) : Stmt := PySem.Challenge.pw_beadway_k27_papers_by_hand.main.body.getD i (.Pass ⟨0, 0, 0, 0⟩)
structure Txt (K : PySem.W.Frag) (mg : Str → Option Value) : Prop where
  one : True
  n_abs : mg "abs" = none
  n_all : mg "all" = none
  n_any : mg "any" = none
  n_bool : mg "bool" = none
  n_enumerate : mg "enumerate" = none
  n_int : mg "int" = none
  n_isinstance : mg "isinstance" = none
  n_len : mg "len" = none
  n_range : mg "range" = none
  n_sum : mg "sum" = none
  n_zip : mg "zip" = none
  g_NOUGHT : GTup K mg "NOUGHT" [0, 1]
structure Txe (K : PySem.W.Frag) (mg : Str → Option Value) (T : Tab) : Prop where
  tab : IsTab T
  o_One : ObC K mg T "One" 1 ["first", "last"] (oA T 1)
  o_Parted : ObC K mg T "Parted" 2 ["cut"] (oA T 2)
theorem Txe.tr {K : PySem.W.Frag} {mg : Str → Option Value} {T : Tab} (Y : Txe K mg T) (φ : List Addr) (b : Bool) (a : Option Addr) : Txe K mg { T with cl := φ, mt := b, hd := a } := ⟨Y.tab.tr φ b a, Y.o_One.tr φ b a, Y.o_Parted.tr φ b a⟩
section
variable {P : Program} {w : World} {K : PySem.W.Frag} {mg : Str → Option Value} {base : Heap} {T : Tab}
abbrev s_q_number : Stmt := top 27
theorem sc_q_number : FnScope ["_law_cell", "_law_at", "_law_whole", "_law_mixed", "_law_more"] ["_law_cell", "_law_at", "_law_whole"] (defScope s_q_number) := ⟨rfl, rfl, rfl, by decide +kernel, rfl, by decide +kernel, by decide +kernel⟩
def b_q_number : Sv := (sSeq (sIf (eOp (i2 geI) (eVar 0) (eOp (i2 powI) (eC (.int 10)) (eC (.int 18)))) (sRet (eVar 0)) sNext) (sSeq (sAsg (eOp (i2 modI) (eOp (i2 addI) (eOp (i2 mulI) (eOp (i2 addI) (eVar 0) (eOp (i2 mulI) (eC (.int 977)) (eVar 1))) (eC (.int 48271))) (eVar 2)) (eC (.int 2147483647))) (gNm 3)) (sSeq (sAsg (eOp (i2 mulI) (eOp (i2 mulI) (eVar 3) (eOp (i2 addI) (eOp (i2 addI) (eVar 3) (eOp (i2 mulI) (eC (.int 31)) (eVar 1))) (eC (.int 7)))) (eOp (i2 addI) (eOp (i2 addI) (eVar 3) (eVar 0)) (eC (.int 5)))) (gNm 4)) (sRet (eOp (i2 divI) (eOp (i2 mulI) (eVar 4) (eOp (i2 addI) (eVar 4) (eC (.int 48271)))) (eC (.int 1009)))))))
def m_q_number : List D → Option Out := fnSem 3 2 b_q_number
theorem ok_q_number (Z : Txt K mg) (Y : Txe K mg T) {f : Addr} {fd : FuncData} (F : FunD K "_law_number" "_law_number" s_q_number .none f fd) (hm : mg "_law_number" = some (.ref f)) (hb : Binds K fd ["_law_cell", "_law_at", "_law_whole"] []) : Cl P w K mg base (CXf P w) T "_law_number" ["_law_cell", "_law_at", "_law_whole"] 1 m_q_number :=
  ⟨f, fd, fnx_okJ (fb := b_q_number) (k := 0) F sc_q_number (by kernel_rfl) (by kernel_rfl) (fun cdv A outer s H E hr =>
    (jb_cons (js_if (jt_cmp jp_ge (jv 0) (je_op jp_pow je_int je_int) (nobehind _ (by decide) (by decide))) (jb_one (js_ret (jv 0))) jb_nil) (jb_cons (js_set (i := 3) sc_q_number.nd (by kernel_rfl) (Or.inl (by kernel_rfl)) (je_op jp_mod (je_op jp_add (je_op jp_mul (je_op jp_add (jv 0) (je_op jp_mul je_int (jv 1))) je_int) (jv 2)) je_int)) (jb_cons (js_set (i := 4) sc_q_number.nd (by kernel_rfl) (Or.inl (by kernel_rfl)) (je_op jp_mul (je_op jp_mul (jv 3) (je_op jp_add (je_op jp_add (jv 3) (je_op jp_mul je_int (jv 1))) je_int)) (je_op jp_add (je_op jp_add (jv 3) (jv 0)) je_int))) (jb_one (js_ret (je_op jp_div (je_op jp_mul (jv 4) (je_op jp_add (jv 4) je_int)) je_int))))))), hm, F.kp, hb⟩
abbrev s_q_low : Stmt := top 28
theorem sc_q_low : FnScope ["_law_top", "_law_bottom", "_law_one", "_law_other"] ["_law_top", "_law_bottom"] (defScope s_q_low) := ⟨rfl, rfl, rfl, by decide +kernel, rfl, by decide +kernel, by decide +kernel⟩
def b_q_low : Sv := (sSeq (sPar 2 3 (eB absB (aCons (eVar 0) aNil)) (eVar 1)) (sSeq (sWhile fuelR (eOp (i2 gtI) (eVar 3) (eC (.int 0))) (sPar 2 3 (eVar 3) (eOp (i2 modI) (eVar 2) (eVar 3)))) (sRet (eTup (aCons (eOp (i2 divI) (eVar 0) (eVar 2)) (aCons (eOp (i2 divI) (eVar 1) (eVar 2)) aNil))))))
def m_q_low : List D → Option Out := fnSem 2 2 b_q_low
theorem ok_q_low (Z : Txt K mg) (Y : Txe K mg T) {f : Addr} {fd : FuncData} (F : FunD K "_law_low" "_law_low" s_q_low .none f fd) (hm : mg "_law_low" = some (.ref f)) (hb : Binds K fd ["_law_top", "_law_bottom"] []) : Cl P w K mg base (CXf P w) T "_law_low" ["_law_top", "_law_bottom"] 1 m_q_low :=
  ⟨f, fd, fnx_okJ (fb := b_q_low) (k := 0) F sc_q_low (by kernel_rfl) (by kernel_rfl) (fun cdv A outer s H E hr =>
    (jb_cons (js_par (i := 2) (j := 3) (by kernel_rfl) sc_q_low.nd (by kernel_rfl) (by kernel_rfl) (by decide) (by kernel_rfl) (by kernel_rfl) (je_callB jc_abs (by kernel_rfl) Z.n_abs (by decide +kernel) (ja_cons (jv 0) ja_nil)) (jv 1)) (jb_cons (js_while passL (jt_cmp jp_gt (jv 3) je_int (nobehind _ (by decide) (by decide))) (jb_one (js_par (i := 2) (j := 3) (by kernel_rfl) sc_q_low.nd (by kernel_rfl) (by kernel_rfl) (by decide) (by kernel_rfl) (by kernel_rfl) (jv 3) (je_op jp_mod (jv 2) (jv 3))))) (jb_one (js_ret (je_tup (ja_cons (je_op jp_div (jv 0) (jv 2)) (ja_cons (je_op jp_div (jv 1) (jv 2)) ja_nil)))))))), hm, F.kp, hb⟩
abbrev s_q_row : Stmt := top 34
theorem sc_q_row : FnScope ["_law_script", "_law_by_here", "_law_alike", "_law_most", "_law_cells", "_law_whole", "_law_many", "_law_bottom", "_law_gap", "_law_kind", "_law_last", "_law_at", "_law_found", "_law_blend", "_law_same", "_law_light", "_law_number_here", "_law_weight", "_law_top", "_law_speed"] ["_law_script", "_law_by_here", "_law_alike", "_law_most"] (defScope s_q_row) := ⟨rfl, rfl, rfl, by decide +kernel, rfl, by decide +kernel, by decide +kernel⟩
def l1_q_row : Sv := (sSeq (sAsg (eCall m_q_number (aCons (eOp ixD (eVar 4) (eOp (i2 modI) (eOp (i2 addI) (eVar 11) (eVar 1)) (eB lenB (aCons (eVar 4) aNil)))) (aCons (eOp (i2 addI) (eVar 11) (eOp (i2 mulI) (eC (.int 11)) (eVar 1))) (aCons (eVar 5) aNil)))) (gNm 16)) (sSeq (sAsg (eOp (i2 addI) (eOp (i2 addI) (eVar 10) (eC (.int 1))) (eOp (i2 modI) (eOp (i2 divI) (eVar 16) (eC (.int 3))) (eVar 8))) (gNm 10)) (sSeq (sAsg (eIf (qV (eVar 2)) (eVar 14) (eOp (i2 addI) (eC (.int 1)) (eOp (i2 modI) (eOp (i2 divI) (eVar 16) (eC (.int 270000))) (eVar 15)))) (gNm 17)) (sSeq (sAsg (eOp (i2 subI) (eOp (i2 modI) (eOp (i2 divI) (eVar 16) (eC (.int 16200000))) (eOp ixD (eTup (aCons (eC (.int 5)) (aCons (eC (.int 11)) (aCons (eC (.int 41)) (aCons (eC (.int 400001)) aNil))))) (eVar 9))) (eOp ixD (eTup (aCons (eC (.int 2)) (aCons (eC (.int 5)) (aCons (eC (.int 20)) (aCons (eC (.int 200000)) aNil))))) (eVar 9))) (gNm 18)) (sSeq (sAsg (eCall m_q_low (aCons (eVar 18) (aCons (eOp (i2 addI) (eC (.int 1)) (eOp (i2 modI) (eOp (i2 divI) (eVar 16) (eC (.int 6480016200000))) (eOp ixD (eTup (aCons (eC (.int 1)) (aCons (eC (.int 1)) (aCons (eC (.int 4)) (aCons (eC (.int 60)) aNil))))) (eVar 9)))) aNil))) (gNm 19)) (sApp 12 (eTup (aCons (eVar 17) (aCons (eCall m_q_low (aCons (eVar 10) (aCons (eVar 7) aNil))) (aCons (eVar 19) aNil))))))))))
def b_q_row : Sv := (sSeq (sAsg (eIf (eOp neD (eVar 0) (eFr (lLst aNil))) (eFr (lSlice (eVar 0) oNone (oSome (eC (.int 63))))) (eFr (lLst (aCons (eC (.int 2)) aNil)))) (gNm 4)) (sSeq (sAsg (eOp (i2 addI) (eB sumB (aCons (eVar 4) aNil)) (eVar 1)) (gNm 5)) (sSeq (sAsg (eOp (i2 addI) (eC (.int 1)) (eOp (i2 modI) (eVar 5) (eVar 3))) (gNm 6)) (sSeq (sAsg (eOp ixD (eTup (aCons (eC (.int 1)) (aCons (eC (.int 1)) (aCons (eC (.int 2)) (aCons (eC (.int 3)) (aCons (eC (.int 4)) (aCons (eC (.int 60)) aNil))))))) (eOp (i2 modI) (eOp (i2 divI) (eVar 5) (eC (.int 10))) (eC (.int 6)))) (gNm 7)) (sSeq (sAsg (eOp ixD (eTup (aCons (eC (.int 3)) (aCons (eC (.int 9)) (aCons (eC (.int 90000)) aNil)))) (eOp (i2 modI) (eOp (i2 divI) (eVar 5) (eC (.int 60))) (eC (.int 3)))) (gNm 8)) (sSeq (sAsg (eOp (i2 modI) (eOp (i2 divI) (eVar 5) (eC (.int 180))) (eC (.int 4))) (gNm 9)) (sSeq (sAsg (eOp (i2 mulI) (eNeg (eVar 8)) (eOp (i2 modI) (eOp (i2 divI) (eVar 5) (eC (.int 720))) (eC (.int 6)))) (gNm 10)) (sSeq (sParM 12 13 (lLst aNil) (eCall m_q_number (aCons (eVar 5) (aCons (eOp (i2 addI) (eVar 1) (eC (.int 3))) (aCons (eC (.int 5)) aNil))))) (sSeq (sPar 14 15 (eOp (i2 addI) (eC (.int 1)) (eOp (i2 modI) (eOp (i2 divI) (eVar 13) (eC (.int 4320))) (eC (.int 60)))) (eOp ixD (eTup (aCons (eC (.int 3)) (aCons (eC (.int 60)) aNil))) (eOp (i2 modI) (eOp (i2 divI) (eVar 13) (eC (.int 259200))) (eC (.int 2))))) (sSeq (sFor (wRng1 (aCons (eVar 6) aNil)) (gNm 11) l1_q_row) (sFrz 12 (sRet (eVar 12)))))))))))))
def m_q_row : List D → Option Out := fnSem 4 16 b_q_row
theorem ok_q_row (Z : Txt K mg) (Y : Txe K mg T) (C_q_number : Cl P w K mg base (CXf P w) T "_law_number" ["_law_cell", "_law_at", "_law_whole"] 1 m_q_number) (C_q_low : Cl P w K mg base (CXf P w) T "_law_low" ["_law_top", "_law_bottom"] 1 m_q_low) {f : Addr} {fd : FuncData} {dV : Value} {t : Tok} (F : FunD K "_law_row" "_law_row" s_q_row dV f fd) (hm : mg "_law_row" = some (.ref f)) (hb : Binds K fd ["_law_script", "_law_by_here", "_law_alike", "_law_most"] [.int 10 t]) : ClD P w K mg base (CXf P w) T "_law_row" ["_law_script", "_law_by_here", "_law_alike", "_law_most"] 2 m_q_row 10 :=
  ⟨f, fd, t, fnx_okJ (fb := b_q_row) (k := 1) F sc_q_row (by kernel_rfl) (by kernel_rfl) (fun cdv A outer s H E hr =>
    (jb_cons (js_set (i := 4) sc_q_row.nd (by kernel_rfl) (Or.inl (by kernel_rfl)) (je_if (jt_cmp (jp_ne hr.units) (jv 0) (je_fr (jf_lst ja_nil)) (nobehind _ (by decide) (by decide))) (je_fr (jf_slice (jv 0) jo_none (jo_some je_int))) (je_fr (jf_lst (ja_cons je_int ja_nil))))) (jb_cons (js_set (i := 5) sc_q_row.nd (by kernel_rfl) (Or.inl (by kernel_rfl)) (je_op jp_add (je_callB (jc_sum (by kernel_rfl)) (by kernel_rfl) Z.n_sum (by decide +kernel) (ja_cons (jv 4) ja_nil)) (jv 1))) (jb_cons (js_set (i := 6) sc_q_row.nd (by kernel_rfl) (Or.inl (by kernel_rfl)) (je_op jp_add je_int (je_op jp_mod (jv 5) (jv 3)))) (jb_cons (js_set (i := 7) sc_q_row.nd (by kernel_rfl) (Or.inl (by kernel_rfl)) (je_ix (je_tup (ja_cons je_int (ja_cons je_int (ja_cons je_int (ja_cons je_int (ja_cons je_int (ja_cons je_int ja_nil))))))) (je_op jp_mod (je_op jp_div (jv 5) je_int) je_int))) (jb_cons (js_set (i := 8) sc_q_row.nd (by kernel_rfl) (Or.inl (by kernel_rfl)) (je_ix (je_tup (ja_cons je_int (ja_cons je_int (ja_cons je_int ja_nil)))) (je_op jp_mod (je_op jp_div (jv 5) je_int) je_int))) (jb_cons (js_set (i := 9) sc_q_row.nd (by kernel_rfl) (Or.inl (by kernel_rfl)) (je_op jp_mod (je_op jp_div (jv 5) je_int) je_int)) (jb_cons (js_set (i := 10) sc_q_row.nd (by kernel_rfl) (Or.inl (by kernel_rfl)) (je_op jp_mul (je_neg (jv 8)) (je_op jp_mod (je_op jp_div (jv 5) je_int) je_int))) (jb_cons (js_parM (i := 12) (j := 13) (by kernel_rfl) sc_q_row.nd (by kernel_rfl) (by kernel_rfl) (by decide) (by kernel_rfl) (by kernel_rfl) (jf_lst ja_nil) (je_c C_q_number (hr.mono (by decide)) passF (by kernel_rfl) (ja_cons (jv 5) (ja_cons (je_op jp_add (jv 1) je_int) (ja_cons je_int ja_nil))))) (jb_cons (js_par (i := 14) (j := 15) (by kernel_rfl) sc_q_row.nd (by kernel_rfl) (by kernel_rfl) (by decide) (by kernel_rfl) (by kernel_rfl) (je_op jp_add je_int (je_op jp_mod (je_op jp_div (jv 13) je_int) je_int)) (je_ix (je_tup (ja_cons je_int (ja_cons je_int ja_nil))) (je_op jp_mod (je_op jp_div (jv 13) je_int) je_int))) (jb_cons (js_for passL (by kernel_rfl) (ji_range1 (by kernel_rfl) Z.n_range (ja_cons (jv 6) ja_nil)) (jg_name (i := 11) sc_q_row.nd (by kernel_rfl) (Or.inl (by kernel_rfl))) (jb_cons (js_set (i := 16) sc_q_row.nd (by kernel_rfl) (Or.inl (by kernel_rfl)) (je_c C_q_number (hr.mono (by decide)) passF (by kernel_rfl) (ja_cons (je_ix (jv 4) (je_op jp_mod (je_op jp_add (jv 11) (jv 1)) (je_callB jc_len (by kernel_rfl) Z.n_len (by decide +kernel) (ja_cons (jv 4) ja_nil)))) (ja_cons (je_op jp_add (jv 11) (je_op jp_mul je_int (jv 1))) (ja_cons (jv 5) ja_nil))))) (jb_cons (js_set (i := 10) sc_q_row.nd (by kernel_rfl) (Or.inl (by kernel_rfl)) (je_op jp_add (je_op jp_add (jv 10) je_int) (je_op jp_mod (je_op jp_div (jv 16) je_int) (jv 8)))) (jb_cons (js_set (i := 17) sc_q_row.nd (by kernel_rfl) (Or.inl (by kernel_rfl)) (je_if (jt_val (jv 2)) (jv 14) (je_op jp_add je_int (je_op jp_mod (je_op jp_div (jv 16) je_int) (jv 15))))) (jb_cons (js_set (i := 18) sc_q_row.nd (by kernel_rfl) (Or.inl (by kernel_rfl)) (je_op jp_sub (je_op jp_mod (je_op jp_div (jv 16) je_int) (je_ix (je_tup (ja_cons je_int (ja_cons je_int (ja_cons je_int (ja_cons je_int ja_nil))))) (jv 9))) (je_ix (je_tup (ja_cons je_int (ja_cons je_int (ja_cons je_int (ja_cons je_int ja_nil))))) (jv 9)))) (jb_cons (js_set (i := 19) sc_q_row.nd (by kernel_rfl) (Or.inl (by kernel_rfl)) (je_c C_q_low (hr.mono (by decide)) passF (by kernel_rfl) (ja_cons (jv 18) (ja_cons (je_op jp_add je_int (je_op jp_mod (je_op jp_div (jv 16) je_int) (je_ix (je_tup (ja_cons je_int (ja_cons je_int (ja_cons je_int (ja_cons je_int ja_nil))))) (jv 9)))) ja_nil)))) (jb_one (js_append (i := 12) (by kernel_rfl) (Or.inl (by kernel_rfl)) (je_tup (ja_cons (jv 17) (ja_cons (je_c C_q_low (hr.mono (by decide)) passF (by kernel_rfl) (ja_cons (jv 10) (ja_cons (jv 7) ja_nil))) (ja_cons (jv 19) ja_nil)))))))))))) (jb_frz (i := 12) (jb_one (js_ret (jv 12))))))))))))))), hm, F.kp, hb⟩
theorem okF_q_row (Z : Txt K mg) (Y : Txe K mg T) (C_q_number : Cl P w K mg base (CXf P w) T "_law_number" ["_law_cell", "_law_at", "_law_whole"] 1 m_q_number) (C_q_low : Cl P w K mg base (CXf P w) T "_law_low" ["_law_top", "_law_bottom"] 1 m_q_low) {f : Addr} {fd : FuncData} {dV : Value} (F : FunD K "_law_row" "_law_row" s_q_row dV f fd) (hm : mg "_law_row" = some (.ref f)) (hb : Binds K fd ["_law_script", "_law_by_here", "_law_alike", "_law_most"] []) : Cl P w K mg base (CXf P w) T "_law_row" ["_law_script", "_law_by_here", "_law_alike", "_law_most"] 2 m_q_row :=
  ⟨f, fd, fnx_okJ (fb := b_q_row) (k := 1) F sc_q_row (by kernel_rfl) (by kernel_rfl) (fun cdv A outer s H E hr =>
    (jb_cons (js_set (i := 4) sc_q_row.nd (by kernel_rfl) (Or.inl (by kernel_rfl)) (je_if (jt_cmp (jp_ne hr.units) (jv 0) (je_fr (jf_lst ja_nil)) (nobehind _ (by decide) (by decide))) (je_fr (jf_slice (jv 0) jo_none (jo_some je_int))) (je_fr (jf_lst (ja_cons je_int ja_nil))))) (jb_cons (js_set (i := 5) sc_q_row.nd (by kernel_rfl) (Or.inl (by kernel_rfl)) (je_op jp_add (je_callB (jc_sum (by kernel_rfl)) (by kernel_rfl) Z.n_sum (by decide +kernel) (ja_cons (jv 4) ja_nil)) (jv 1))) (jb_cons (js_set (i := 6) sc_q_row.nd (by kernel_rfl) (Or.inl (by kernel_rfl)) (je_op jp_add je_int (je_op jp_mod (jv 5) (jv 3)))) (jb_cons (js_set (i := 7) sc_q_row.nd (by kernel_rfl) (Or.inl (by kernel_rfl)) (je_ix (je_tup (ja_cons je_int (ja_cons je_int (ja_cons je_int (ja_cons je_int (ja_cons je_int (ja_cons je_int ja_nil))))))) (je_op jp_mod (je_op jp_div (jv 5) je_int) je_int))) (jb_cons (js_set (i := 8) sc_q_row.nd (by kernel_rfl) (Or.inl (by kernel_rfl)) (je_ix (je_tup (ja_cons je_int (ja_cons je_int (ja_cons je_int ja_nil)))) (je_op jp_mod (je_op jp_div (jv 5) je_int) je_int))) (jb_cons (js_set (i := 9) sc_q_row.nd (by kernel_rfl) (Or.inl (by kernel_rfl)) (je_op jp_mod (je_op jp_div (jv 5) je_int) je_int)) (jb_cons (js_set (i := 10) sc_q_row.nd (by kernel_rfl) (Or.inl (by kernel_rfl)) (je_op jp_mul (je_neg (jv 8)) (je_op jp_mod (je_op jp_div (jv 5) je_int) je_int))) (jb_cons (js_parM (i := 12) (j := 13) (by kernel_rfl) sc_q_row.nd (by kernel_rfl) (by kernel_rfl) (by decide) (by kernel_rfl) (by kernel_rfl) (jf_lst ja_nil) (je_c C_q_number (hr.mono (by decide)) passF (by kernel_rfl) (ja_cons (jv 5) (ja_cons (je_op jp_add (jv 1) je_int) (ja_cons je_int ja_nil))))) (jb_cons (js_par (i := 14) (j := 15) (by kernel_rfl) sc_q_row.nd (by kernel_rfl) (by kernel_rfl) (by decide) (by kernel_rfl) (by kernel_rfl) (je_op jp_add je_int (je_op jp_mod (je_op jp_div (jv 13) je_int) je_int)) (je_ix (je_tup (ja_cons je_int (ja_cons je_int ja_nil))) (je_op jp_mod (je_op jp_div (jv 13) je_int) je_int))) (jb_cons (js_for passL (by kernel_rfl) (ji_range1 (by kernel_rfl) Z.n_range (ja_cons (jv 6) ja_nil)) (jg_name (i := 11) sc_q_row.nd (by kernel_rfl) (Or.inl (by kernel_rfl))) (jb_cons (js_set (i := 16) sc_q_row.nd (by kernel_rfl) (Or.inl (by kernel_rfl)) (je_c C_q_number (hr.mono (by decide)) passF (by kernel_rfl) (ja_cons (je_ix (jv 4) (je_op jp_mod (je_op jp_add (jv 11) (jv 1)) (je_callB jc_len (by kernel_rfl) Z.n_len (by decide +kernel) (ja_cons (jv 4) ja_nil)))) (ja_cons (je_op jp_add (jv 11) (je_op jp_mul je_int (jv 1))) (ja_cons (jv 5) ja_nil))))) (jb_cons (js_set (i := 10) sc_q_row.nd (by kernel_rfl) (Or.inl (by kernel_rfl)) (je_op jp_add (je_op jp_add (jv 10) je_int) (je_op jp_mod (je_op jp_div (jv 16) je_int) (jv 8)))) (jb_cons (js_set (i := 17) sc_q_row.nd (by kernel_rfl) (Or.inl (by kernel_rfl)) (je_if (jt_val (jv 2)) (jv 14) (je_op jp_add je_int (je_op jp_mod (je_op jp_div (jv 16) je_int) (jv 15))))) (jb_cons (js_set (i := 18) sc_q_row.nd (by kernel_rfl) (Or.inl (by kernel_rfl)) (je_op jp_sub (je_op jp_mod (je_op jp_div (jv 16) je_int) (je_ix (je_tup (ja_cons je_int (ja_cons je_int (ja_cons je_int (ja_cons je_int ja_nil))))) (jv 9))) (je_ix (je_tup (ja_cons je_int (ja_cons je_int (ja_cons je_int (ja_cons je_int ja_nil))))) (jv 9)))) (jb_cons (js_set (i := 19) sc_q_row.nd (by kernel_rfl) (Or.inl (by kernel_rfl)) (je_c C_q_low (hr.mono (by decide)) passF (by kernel_rfl) (ja_cons (jv 18) (ja_cons (je_op jp_add je_int (je_op jp_mod (je_op jp_div (jv 16) je_int) (je_ix (je_tup (ja_cons je_int (ja_cons je_int (ja_cons je_int (ja_cons je_int ja_nil))))) (jv 9)))) ja_nil)))) (jb_one (js_append (i := 12) (by kernel_rfl) (Or.inl (by kernel_rfl)) (je_tup (ja_cons (jv 17) (ja_cons (je_c C_q_low (hr.mono (by decide)) passF (by kernel_rfl) (ja_cons (jv 10) (ja_cons (jv 7) ja_nil))) (ja_cons (jv 19) ja_nil)))))))))))) (jb_frz (i := 12) (jb_one (js_ret (jv 12))))))))))))))), hm, F.kp, hb⟩
abbrev s_q_sum : Stmt := top 29
theorem sc_q_sum : FnScope ["_law_one", "_law_other"] ["_law_one", "_law_other"] (defScope s_q_sum) := ⟨rfl, rfl, rfl, by decide +kernel, rfl, by decide +kernel, by decide +kernel⟩
def b_q_sum : Sv := (sRet (eCall m_q_low (aCons (eOp (i2 addI) (eOp (i2 mulI) (eOp ixD (eVar 0) (eC (.int 0))) (eOp ixD (eVar 1) (eC (.int 1)))) (eOp (i2 mulI) (eOp ixD (eVar 1) (eC (.int 0))) (eOp ixD (eVar 0) (eC (.int 1))))) (aCons (eOp (i2 mulI) (eOp ixD (eVar 0) (eC (.int 1))) (eOp ixD (eVar 1) (eC (.int 1)))) aNil))))
def m_q_sum : List D → Option Out := fnSem 2 0 b_q_sum
theorem ok_q_sum (Z : Txt K mg) (Y : Txe K mg T) (C_q_low : Cl P w K mg base (CXf P w) T "_law_low" ["_law_top", "_law_bottom"] 1 m_q_low) {f : Addr} {fd : FuncData} (F : FunD K "_law_sum" "_law_sum" s_q_sum .none f fd) (hm : mg "_law_sum" = some (.ref f)) (hb : Binds K fd ["_law_one", "_law_other"] []) : Cl P w K mg base (CXf P w) T "_law_sum" ["_law_one", "_law_other"] 2 m_q_sum :=
  ⟨f, fd, fnx_okJ (fb := b_q_sum) (k := 1) F sc_q_sum (by kernel_rfl) (by kernel_rfl) (fun cdv A outer s H E hr =>
    (jb_one (js_ret (je_c C_q_low (hr.mono (by decide)) passF (by kernel_rfl) (ja_cons (je_op jp_add (je_op jp_mul (je_ix (jv 0) je_int) (je_ix (jv 1) je_int)) (je_op jp_mul (je_ix (jv 1) je_int) (je_ix (jv 0) je_int))) (ja_cons (je_op jp_mul (je_ix (jv 0) je_int) (je_ix (jv 1) je_int)) ja_nil)))))), hm, F.kp, hb⟩
abbrev s_q_moment : Stmt := top 35
theorem sc_q_moment : FnScope ["_law_number_here"] ["_law_number_here"] (defScope s_q_moment) := ⟨rfl, rfl, rfl, by decide +kernel, rfl, by decide +kernel, by decide +kernel⟩
def b_q_moment : Sv := (sRet (eCall m_q_low (aCons (eOp (i2 modI) (eVar 0) (eOp ixD (eTup (aCons (eC (.int 1)) (aCons (eC (.int 9)) (aCons (eC (.int 60)) (aCons (eOp (i2 powI) (eC (.int 10)) (eC (.int 9))) aNil))))) (eOp (i2 modI) (eOp (i2 divI) (eVar 0) (eC (.int 5))) (eC (.int 4))))) (aCons (eOp (i2 addI) (eC (.int 1)) (eOp (i2 modI) (eOp (i2 divI) (eVar 0) (eC (.int 7))) (eOp ixD (eTup (aCons (eC (.int 1)) (aCons (eC (.int 4)) (aCons (eC (.int 30)) aNil)))) (eOp (i2 modI) (eOp (i2 divI) (eVar 0) (eC (.int 11))) (eC (.int 3)))))) aNil))))
def m_q_moment : List D → Option Out := fnSem 1 0 b_q_moment
theorem ok_q_moment (Z : Txt K mg) (Y : Txe K mg T) (C_q_low : Cl P w K mg base (CXf P w) T "_law_low" ["_law_top", "_law_bottom"] 1 m_q_low) {f : Addr} {fd : FuncData} (F : FunD K "_law_moment" "_law_moment" s_q_moment .none f fd) (hm : mg "_law_moment" = some (.ref f)) (hb : Binds K fd ["_law_number_here"] []) : Cl P w K mg base (CXf P w) T "_law_moment" ["_law_number_here"] 2 m_q_moment :=
  ⟨f, fd, fnx_okJ (fb := b_q_moment) (k := 1) F sc_q_moment (by kernel_rfl) (by kernel_rfl) (fun cdv A outer s H E hr =>
    (jb_one (js_ret (je_c C_q_low (hr.mono (by decide)) passF (by kernel_rfl) (ja_cons (je_op jp_mod (jv 0) (je_ix (je_tup (ja_cons je_int (ja_cons je_int (ja_cons je_int (ja_cons (je_op jp_pow je_int je_int) ja_nil))))) (je_op jp_mod (je_op jp_div (jv 0) je_int) je_int))) (ja_cons (je_op jp_add je_int (je_op jp_mod (je_op jp_div (jv 0) je_int) (je_ix (je_tup (ja_cons je_int (ja_cons je_int (ja_cons je_int ja_nil)))) (je_op jp_mod (je_op jp_div (jv 0) je_int) je_int)))) ja_nil)))))), hm, F.kp, hb⟩
abbrev s_q_by : Stmt := top 30
theorem sc_q_by : FnScope ["_law_one", "_law_other"] ["_law_one", "_law_other"] (defScope s_q_by) := ⟨rfl, rfl, rfl, by decide +kernel, rfl, by decide +kernel, by decide +kernel⟩
def b_q_by : Sv := (sRet (eCall m_q_low (aCons (eOp (i2 mulI) (eOp ixD (eVar 0) (eC (.int 0))) (eOp ixD (eVar 1) (eC (.int 0)))) (aCons (eOp (i2 mulI) (eOp ixD (eVar 0) (eC (.int 1))) (eOp ixD (eVar 1) (eC (.int 1)))) aNil))))
def m_q_by : List D → Option Out := fnSem 2 0 b_q_by
theorem ok_q_by (Z : Txt K mg) (Y : Txe K mg T) (C_q_low : Cl P w K mg base (CXf P w) T "_law_low" ["_law_top", "_law_bottom"] 1 m_q_low) {f : Addr} {fd : FuncData} (F : FunD K "_law_by" "_law_by" s_q_by .none f fd) (hm : mg "_law_by" = some (.ref f)) (hb : Binds K fd ["_law_one", "_law_other"] []) : Cl P w K mg base (CXf P w) T "_law_by" ["_law_one", "_law_other"] 2 m_q_by :=
  ⟨f, fd, fnx_okJ (fb := b_q_by) (k := 1) F sc_q_by (by kernel_rfl) (by kernel_rfl) (fun cdv A outer s H E hr =>
    (jb_one (js_ret (je_c C_q_low (hr.mono (by decide)) passF (by kernel_rfl) (ja_cons (je_op jp_mul (je_ix (jv 0) je_int) (je_ix (jv 1) je_int)) (ja_cons (je_op jp_mul (je_ix (jv 0) je_int) (je_ix (jv 1) je_int)) ja_nil)))))), hm, F.kp, hb⟩
abbrev s_q_there : Stmt := top 33
theorem sc_q_there : FnScope ["_law_line", "_law_moment_here"] ["_law_line", "_law_moment_here"] (defScope s_q_there) := ⟨rfl, rfl, rfl, by decide +kernel, rfl, by decide +kernel, by decide +kernel⟩
def b_q_there : Sv := (sRet (eCall m_q_sum (aCons (eOp ixD (eVar 0) (eC (.int 0))) (aCons (eCall m_q_by (aCons (eOp ixD (eVar 0) (eC (.int 1))) (aCons (eVar 1) aNil))) aNil))))
def m_q_there : List D → Option Out := fnSem 2 0 b_q_there
theorem ok_q_there (Z : Txt K mg) (Y : Txe K mg T) (C_q_sum : Cl P w K mg base (CXf P w) T "_law_sum" ["_law_one", "_law_other"] 2 m_q_sum) (C_q_by : Cl P w K mg base (CXf P w) T "_law_by" ["_law_one", "_law_other"] 2 m_q_by) {f : Addr} {fd : FuncData} (F : FunD K "_law_there" "_law_there" s_q_there .none f fd) (hm : mg "_law_there" = some (.ref f)) (hb : Binds K fd ["_law_line", "_law_moment_here"] []) : Cl P w K mg base (CXf P w) T "_law_there" ["_law_line", "_law_moment_here"] 3 m_q_there :=
  ⟨f, fd, fnx_okJ (fb := b_q_there) (k := 2) F sc_q_there (by kernel_rfl) (by kernel_rfl) (fun cdv A outer s H E hr =>
    (jb_one (js_ret (je_c C_q_sum (hr.mono (by decide)) passF (by kernel_rfl) (ja_cons (je_ix (jv 0) je_int) (ja_cons (je_c C_q_by (hr.mono (by decide)) passF (by kernel_rfl) (ja_cons (je_ix (jv 0) je_int) (ja_cons (jv 1) ja_nil))) ja_nil)))))), hm, F.kp, hb⟩
abbrev s_q_part : Stmt := top 31
theorem sc_q_part : FnScope ["_law_one", "_law_other"] ["_law_one", "_law_other"] (defScope s_q_part) := ⟨rfl, rfl, rfl, by decide +kernel, rfl, by decide +kernel, by decide +kernel⟩
def b_q_part : Sv := (sRet (eCall m_q_low (aCons (eOp (i2 mulI) (eOp ixD (eVar 0) (eC (.int 0))) (eOp ixD (eVar 1) (eC (.int 1)))) (aCons (eOp (i2 mulI) (eOp ixD (eVar 0) (eC (.int 1))) (eOp ixD (eVar 1) (eC (.int 0)))) aNil))))
def m_q_part : List D → Option Out := fnSem 2 0 b_q_part
theorem ok_q_part (Z : Txt K mg) (Y : Txe K mg T) (C_q_low : Cl P w K mg base (CXf P w) T "_law_low" ["_law_top", "_law_bottom"] 1 m_q_low) {f : Addr} {fd : FuncData} (F : FunD K "_law_part" "_law_part" s_q_part .none f fd) (hm : mg "_law_part" = some (.ref f)) (hb : Binds K fd ["_law_one", "_law_other"] []) : Cl P w K mg base (CXf P w) T "_law_part" ["_law_one", "_law_other"] 2 m_q_part :=
  ⟨f, fd, fnx_okJ (fb := b_q_part) (k := 1) F sc_q_part (by kernel_rfl) (by kernel_rfl) (fun cdv A outer s H E hr =>
    (jb_one (js_ret (je_c C_q_low (hr.mono (by decide)) passF (by kernel_rfl) (ja_cons (je_op jp_mul (je_ix (jv 0) je_int) (je_ix (jv 1) je_int)) (ja_cons (je_op jp_mul (je_ix (jv 0) je_int) (je_ix (jv 1) je_int)) ja_nil)))))), hm, F.kp, hb⟩
abbrev s_q_middles : Stmt := top 36
theorem sc_q_middles : FnScope ["_law_row_here", "_law_moment_here", "_law_found", "_law_first", "_law_last", "_law_weight", "_law_lever"] ["_law_row_here", "_law_moment_here"] (defScope s_q_middles) := ⟨rfl, rfl, rfl, by decide +kernel, rfl, by decide +kernel, by decide +kernel⟩
def l1_q_middles : Sv := (sSeq (sAsg (eOp (i2 addI) (eVar 5) (eOp ixD (eOp ixD (eVar 0) (eVar 4)) (eC (.int 0)))) (gNm 5)) (sSeq (sAsg (eCall m_q_sum (aCons (eVar 6) (aCons (eCall m_q_by (aCons (eTup (aCons (eOp ixD (eOp ixD (eVar 0) (eVar 4)) (eC (.int 0))) (aCons (eC (.int 1)) aNil))) (aCons (eCall m_q_there (aCons (eSlT (eOp ixD (eVar 0) (eVar 4)) (oSome (eC (.int 1))) oNone) (aCons (eVar 1) aNil))) aNil))) aNil))) (gNm 6)) (sMPut 2 (aCons (eVar 3) (aCons (eVar 4) aNil)) (eCall m_q_part (aCons (eVar 6) (aCons (eTup (aCons (eVar 5) (aCons (eC (.int 1)) aNil))) aNil))))))
def l2_q_middles : Sv := (sSeq (sAsg (eTup (aCons (eC (.int 0)) (aCons (eTup (aCons (eC (.int 0)) (aCons (eC (.int 1)) aNil))) aNil))) (gTp (gsCons (gNm 5) (gsCons (gNm 6) gsNil)))) (sFor (wRng2 (aCons (eVar 3) (aCons (eB lenB (aCons (eVar 0) aNil)) aNil))) (gNm 4) l1_q_middles))
def b_q_middles : Sv := (sSeq (sMNew 2) (sSeq (sFor (wRng1 (aCons (eB lenB (aCons (eVar 0) aNil)) aNil)) (gNm 3) l2_q_middles) (sMFrz 2 (sRet (eVar 2)))))
def m_q_middles : List D → Option Out := fnSem 2 5 b_q_middles
theorem ok_q_middles (Z : Txt K mg) (Y : Txe K mg T) (C_q_sum : Cl P w K mg base (CXf P w) T "_law_sum" ["_law_one", "_law_other"] 2 m_q_sum) (C_q_by : Cl P w K mg base (CXf P w) T "_law_by" ["_law_one", "_law_other"] 2 m_q_by) (C_q_there : Cl P w K mg base (CXf P w) T "_law_there" ["_law_line", "_law_moment_here"] 3 m_q_there) (C_q_part : Cl P w K mg base (CXf P w) T "_law_part" ["_law_one", "_law_other"] 2 m_q_part) {f : Addr} {fd : FuncData} (F : FunD K "_law_middles" "_law_middles" s_q_middles .none f fd) (hm : mg "_law_middles" = some (.ref f)) (hb : Binds K fd ["_law_row_here", "_law_moment_here"] []) : Cl P w K mg base (CXf P w) T "_law_middles" ["_law_row_here", "_law_moment_here"] 4 m_q_middles :=
  ⟨f, fd, fnx_okJ (fb := b_q_middles) (k := 3) F sc_q_middles (by kernel_rfl) (by kernel_rfl) (fun cdv A outer s H E hr =>
    (jb_cons (js_mnew (i := 2) sc_q_middles.nd (by kernel_rfl) (Or.inl (by kernel_rfl))) (jb_cons (js_for passL (by kernel_rfl) (ji_range1 (by kernel_rfl) Z.n_range (ja_cons (je_callB jc_len (by kernel_rfl) Z.n_len (by decide +kernel) (ja_cons (jv 0) ja_nil)) ja_nil)) (jg_name (i := 3) sc_q_middles.nd (by kernel_rfl) (Or.inl (by kernel_rfl))) (jb_cons (js_asg (je_tup (ja_cons je_int (ja_cons (je_tup (ja_cons je_int (ja_cons je_int ja_nil))) ja_nil))) (jg_tup (by kernel_rfl) (jgs_cons (jg_name (i := 5) sc_q_middles.nd (by kernel_rfl) (Or.inl (by kernel_rfl))) (jgs_cons (jg_name (i := 6) sc_q_middles.nd (by kernel_rfl) (Or.inl (by kernel_rfl))) jgs_nil)) (gl_cons (gl_cons gl_nil)))) (jb_one (js_for passL (by kernel_rfl) (ji_range2 (by kernel_rfl) Z.n_range (ja_cons (jv 3) (ja_cons (je_callB jc_len (by kernel_rfl) Z.n_len (by decide +kernel) (ja_cons (jv 0) ja_nil)) ja_nil))) (jg_name (i := 4) sc_q_middles.nd (by kernel_rfl) (Or.inl (by kernel_rfl))) (jb_cons (js_set (i := 5) sc_q_middles.nd (by kernel_rfl) (Or.inl (by kernel_rfl)) (je_op jp_add (jv 5) (je_ix (je_ix (jv 0) (jv 4)) je_int))) (jb_cons (js_set (i := 6) sc_q_middles.nd (by kernel_rfl) (Or.inl (by kernel_rfl)) (je_c C_q_sum (hr.mono (by decide)) passF (by kernel_rfl) (ja_cons (jv 6) (ja_cons (je_c C_q_by (hr.mono (by decide)) passF (by kernel_rfl) (ja_cons (je_tup (ja_cons (je_ix (je_ix (jv 0) (jv 4)) je_int) (ja_cons je_int ja_nil))) (ja_cons (je_c C_q_there (hr.mono (by decide)) passF (by kernel_rfl) (ja_cons (je_slT (je_ix (jv 0) (jv 4)) (jo_some je_int) jo_none) (ja_cons (jv 1) ja_nil))) ja_nil))) ja_nil)))) (jb_one (js_mput (n := 2) hr.units (by kernel_rfl) (Or.inl (by kernel_rfl)) (ja_cons (jv 3) (ja_cons (jv 4) ja_nil)) (je_c C_q_part (hr.mono (by decide)) passF (by kernel_rfl) (ja_cons (jv 6) (ja_cons (je_tup (ja_cons (jv 5) (ja_cons je_int ja_nil))) ja_nil))))))))))) (jb_mfrz (i := 2) (jb_one (js_ret (jv 2))))))), hm, F.kp, hb⟩
abbrev s_q_far : Stmt := top 32
theorem sc_q_far : FnScope ["_law_one", "_law_other"] ["_law_one", "_law_other"] (defScope s_q_far) := ⟨rfl, rfl, rfl, by decide +kernel, rfl, by decide +kernel, by decide +kernel⟩
def b_q_far : Sv := (sRet (eOp (i2 subI) (eOp (i2 mulI) (eOp ixD (eVar 0) (eC (.int 0))) (eOp ixD (eVar 1) (eC (.int 1)))) (eOp (i2 mulI) (eOp ixD (eVar 1) (eC (.int 0))) (eOp ixD (eVar 0) (eC (.int 1))))))
def m_q_far : List D → Option Out := fnSem 2 0 b_q_far
theorem ok_q_far (Z : Txt K mg) (Y : Txe K mg T) {f : Addr} {fd : FuncData} (F : FunD K "_law_far" "_law_far" s_q_far .none f fd) (hm : mg "_law_far" = some (.ref f)) (hb : Binds K fd ["_law_one", "_law_other"] []) : Cl P w K mg base (CXf P w) T "_law_far" ["_law_one", "_law_other"] 1 m_q_far :=
  ⟨f, fd, fnx_okJ (fb := b_q_far) (k := 0) F sc_q_far (by kernel_rfl) (by kernel_rfl) (fun cdv A outer s H E hr =>
    (jb_one (js_ret (je_op jp_sub (je_op jp_mul (je_ix (jv 0) je_int) (je_ix (jv 1) je_int)) (je_op jp_mul (je_ix (jv 1) je_int) (je_ix (jv 0) je_int)))))), hm, F.kp, hb⟩
abbrev s_q_is_one : Stmt := top 37
theorem sc_q_is_one : FnScope ["_law_middles_here", "_law_first", "_law_last", "_law_cut"] ["_law_middles_here", "_law_first", "_law_last"] (defScope s_q_is_one) := ⟨rfl, rfl, rfl, by decide +kernel, rfl, by decide +kernel, by decide +kernel⟩
def l1_q_is_one : Sv := (sIf (eOp (i2 ltI) (eCall m_q_far (aCons (eMGet (eVar 0) (eTup (aCons (eVar 1) (aCons (eVar 3) aNil)))) (aCons (eMGet (eVar 0) (eTup (aCons (eOp (i2 addI) (eVar 3) (eC (.int 1))) (aCons (eVar 2) aNil)))) aNil))) (eC (.int 0))) (sRet (eC (.bl false))) sNext)
def b_q_is_one : Sv := (sSeq (sFor (wRng2 (aCons (eVar 1) (aCons (eVar 2) aNil))) (gNm 3) l1_q_is_one) (sRet (eC (.bl true))))
def m_q_is_one : List D → Option Out := fnSem 3 1 b_q_is_one
theorem ok_q_is_one (Z : Txt K mg) (Y : Txe K mg T) (C_q_far : Cl P w K mg base (CXf P w) T "_law_far" ["_law_one", "_law_other"] 1 m_q_far) {f : Addr} {fd : FuncData} (F : FunD K "_law_is_one" "_law_is_one" s_q_is_one .none f fd) (hm : mg "_law_is_one" = some (.ref f)) (hb : Binds K fd ["_law_middles_here", "_law_first", "_law_last"] []) : Cl P w K mg base (CXf P w) T "_law_is_one" ["_law_middles_here", "_law_first", "_law_last"] 2 m_q_is_one :=
  ⟨f, fd, fnx_okJ (fb := b_q_is_one) (k := 1) F sc_q_is_one (by kernel_rfl) (by kernel_rfl) (fun cdv A outer s H E hr =>
    (jb_cons (js_for passL (by kernel_rfl) (ji_range2 (by kernel_rfl) Z.n_range (ja_cons (jv 1) (ja_cons (jv 2) ja_nil))) (jg_name (i := 3) sc_q_is_one.nd (by kernel_rfl) (Or.inl (by kernel_rfl))) (jb_one (js_if (jt_cmp jp_lt (je_c C_q_far (hr.mono (by decide)) passF (by kernel_rfl) (ja_cons (je_mget hr.units (jv 0) (je_tup (ja_cons (jv 1) (ja_cons (jv 3) ja_nil)))) (ja_cons (je_mget hr.units (jv 0) (je_tup (ja_cons (je_op jp_add (jv 3) je_int) (ja_cons (jv 2) ja_nil)))) ja_nil))) je_int (nobehind _ (by decide) (by decide))) (jb_one (js_ret je_bl)) jb_nil))) (jb_one (js_ret je_bl)))), hm, F.kp, hb⟩
abbrev s_One___init__ : Stmt := inClass (top 24) 0
theorem sc_One___init__ : FnScope ["self", "first", "last"] ["self", "first", "last"] (defScope s_One___init__) := ⟨rfl, rfl, rfl, by decide +kernel, rfl, by decide +kernel, by decide +kernel⟩
theorem ok_One___init__ (Z : Txt K mg) (Y : Txe K mg T) {f : Addr} {fd : FuncData} (F : FunD K "__init__" "One.__init__" s_One___init__ .none f fd) (hm : Mk K (oA T 1) f) (hb : Binds K fd ["self", "first", "last"] []) : ClI P w K mg base (CXf P w) (oA T 1) ["self", "first", "last"] 1 ["first", "last"] :=
  ⟨f, fd, init2_ok (k := 0) F sc_One___init__ (by decide) (fun cdv A outer s H E => (pss_cons (ps_fld (pe_var (i := 0) (by kernel_rfl) (Or.inl (by kernel_rfl)) (by kernel_rfl) (by kernel_rfl)) (pe_var (i := 1) (by kernel_rfl) (Or.inl (by kernel_rfl)) (by kernel_rfl) (by kernel_rfl)) (by kernel_rfl)) (pss_cons (ps_fld (pe_var (i := 0) (by kernel_rfl) (Or.inl (by kernel_rfl)) (by kernel_rfl) (by kernel_rfl)) (pe_var (i := 2) (by kernel_rfl) (Or.inl (by kernel_rfl)) (by kernel_rfl) (by kernel_rfl)) (by kernel_rfl)) pss_nil))), hm, hb⟩
abbrev s_Parted___init__ : Stmt := inClass (top 25) 0
theorem sc_Parted___init__ : FnScope ["self", "cut"] ["self", "cut"] (defScope s_Parted___init__) := ⟨rfl, rfl, rfl, by decide +kernel, rfl, by decide +kernel, by decide +kernel⟩
theorem ok_Parted___init__ (Z : Txt K mg) (Y : Txe K mg T) {f : Addr} {fd : FuncData} (F : FunD K "__init__" "Parted.__init__" s_Parted___init__ .none f fd) (hm : Mk K (oA T 2) f) (hb : Binds K fd ["self", "cut"] []) : ClI P w K mg base (CXf P w) (oA T 2) ["self", "cut"] 1 ["cut"] :=
  ⟨f, fd, init1_ok (k := 0) F sc_Parted___init__ (fun cdv A outer s H E => (pss_cons (ps_fld (pe_var (i := 0) (by kernel_rfl) (Or.inl (by kernel_rfl)) (by kernel_rfl) (by kernel_rfl)) (pe_var (i := 1) (by kernel_rfl) (Or.inl (by kernel_rfl)) (by kernel_rfl) (by kernel_rfl)) (by kernel_rfl)) pss_nil)), hm, hb⟩
abbrev s_is_whole : Stmt := top 2
theorem sc_is_whole : FnScope ["value"] ["value"] (defScope s_is_whole) := ⟨rfl, rfl, rfl, by decide +kernel, rfl, by decide +kernel, by decide +kernel⟩
def b_is_whole : Sv := (sRet (qAnd (eIsi "int" (eVar 0)) (qNot (eIsi "bool" (eVar 0)))))
def m_is_whole : List D → Option Out := fnSem 1 0 b_is_whole
theorem ok_is_whole (Z : Txt K mg) (Y : Txe K mg T) {f : Addr} {fd : FuncData} (F : FunD K "is_whole" "is_whole" s_is_whole .none f fd) (hm : mg "is_whole" = some (.ref f)) (hb : Binds K fd ["value"] []) : Cl P w K mg base (CXf P w) T "is_whole" ["value"] 1 m_is_whole :=
  ⟨f, fd, fnx_okJ (fb := b_is_whole) (k := 0) F sc_is_whole (by kernel_rfl) (by kernel_rfl) (fun cdv A outer s H E hr =>
    (jb_one (js_ret (je_and (je_isi (jv 0) (by kernel_rfl) Z.n_isinstance (by kernel_rfl) Z.n_int (by decide +kernel)) (je_one (je_not (je_isi (jv 0) (by kernel_rfl) Z.n_isinstance (by kernel_rfl) Z.n_bool (by decide +kernel)))))))), hm, F.kp, hb⟩
abbrev s_is_bead_of : Stmt := top 13
theorem sc_is_bead_of : FnScope ["row", "bead"] ["row", "bead"] (defScope s_is_bead_of) := ⟨rfl, rfl, rfl, by decide +kernel, rfl, by decide +kernel, by decide +kernel⟩
def b_is_bead_of : Sv := (sRet (qAnd (eCall m_is_whole (aCons (eVar 1) aNil)) (eChain (i2 leI) (i2 ltI) (eC (.int 0)) (eVar 1) (eB lenB (aCons (eVar 0) aNil)))))
def m_is_bead_of : List D → Option Out := fnSem 2 0 b_is_bead_of
theorem ok_is_bead_of (Z : Txt K mg) (Y : Txe K mg T) (C_is_whole : Cl P w K mg base (CXf P w) T "is_whole" ["value"] 1 m_is_whole) {f : Addr} {fd : FuncData} (F : FunD K "is_bead_of" "is_bead_of" s_is_bead_of .none f fd) (hm : mg "is_bead_of" = some (.ref f)) (hb : Binds K fd ["row", "bead"] []) : Cl P w K mg base (CXf P w) T "is_bead_of" ["row", "bead"] 2 m_is_bead_of :=
  ⟨f, fd, fnx_okJ (fb := b_is_bead_of) (k := 1) F sc_is_bead_of (by kernel_rfl) (by kernel_rfl) (fun cdv A outer s H E hr =>
    (jb_one (js_ret (je_and (je_c C_is_whole (hr.mono (by decide)) passF (by kernel_rfl) (ja_cons (jv 1) ja_nil)) (je_one (je_chain jp_le jp_lt je_int (jv 1) (je_callB jc_len (by kernel_rfl) Z.n_len (by decide +kernel) (ja_cons (jv 0) ja_nil)))))))), hm, F.kp, hb⟩
abbrev s_common : Stmt := top 3
theorem sc_common : FnScope ["one", "other"] ["one", "other"] (defScope s_common) := ⟨rfl, rfl, rfl, by decide +kernel, rfl, by decide +kernel, by decide +kernel⟩
def b_common : Sv := (sSeq (sWhile fuelR (qV (eVar 1)) (sPar 0 1 (eVar 1) (eOp (i2 modI) (eVar 0) (eVar 1)))) (sRet (eVar 0)))
def m_common : List D → Option Out := fnSem 2 0 b_common
theorem ok_common (Z : Txt K mg) (Y : Txe K mg T) {f : Addr} {fd : FuncData} (F : FunD K "common" "common" s_common .none f fd) (hm : mg "common" = some (.ref f)) (hb : Binds K fd ["one", "other"] []) : Cl P w K mg base (CXf P w) T "common" ["one", "other"] 1 m_common :=
  ⟨f, fd, fnx_okJ (fb := b_common) (k := 0) F sc_common (by kernel_rfl) (by kernel_rfl) (fun cdv A outer s H E hr =>
    (jb_cons (js_while passL (jt_val (jv 1)) (jb_one (js_par (i := 0) (j := 1) (by kernel_rfl) sc_common.nd (by kernel_rfl) (by kernel_rfl) (by decide) (by kernel_rfl) (by kernel_rfl) (jv 1) (je_op jp_mod (jv 0) (jv 1))))) (jb_one (js_ret (jv 0))))), hm, F.kp, hb⟩
abbrev s_lowest : Stmt := top 4
theorem sc_lowest : FnScope ["top", "bottom", "divisor"] ["top", "bottom"] (defScope s_lowest) := ⟨rfl, rfl, rfl, by decide +kernel, rfl, by decide +kernel, by decide +kernel⟩
def b_lowest : Sv := (sSeq (sIf (eOp (i2 ltI) (eVar 1) (eC (.int 0))) (sPar 0 1 (eNeg (eVar 0)) (eNeg (eVar 1))) sNext) (sSeq (sAsg (eCall m_common (aCons (eVar 0) (aCons (eVar 1) aNil))) (gNm 2)) (sRet (eTup (aCons (eOp (i2 divI) (eVar 0) (eVar 2)) (aCons (eOp (i2 divI) (eVar 1) (eVar 2)) aNil))))))
def m_lowest : List D → Option Out := fnSem 2 1 b_lowest
theorem ok_lowest (Z : Txt K mg) (Y : Txe K mg T) (C_common : Cl P w K mg base (CXf P w) T "common" ["one", "other"] 1 m_common) {f : Addr} {fd : FuncData} (F : FunD K "lowest" "lowest" s_lowest .none f fd) (hm : mg "lowest" = some (.ref f)) (hb : Binds K fd ["top", "bottom"] []) : Cl P w K mg base (CXf P w) T "lowest" ["top", "bottom"] 2 m_lowest :=
  ⟨f, fd, fnx_okJ (fb := b_lowest) (k := 1) F sc_lowest (by kernel_rfl) (by kernel_rfl) (fun cdv A outer s H E hr =>
    (jb_cons (js_if (jt_cmp jp_lt (jv 1) je_int (nobehind _ (by decide) (by decide))) (jb_one (js_par (i := 0) (j := 1) (by kernel_rfl) sc_lowest.nd (by kernel_rfl) (by kernel_rfl) (by decide) (by kernel_rfl) (by kernel_rfl) (je_neg (jv 0)) (je_neg (jv 1)))) jb_nil) (jb_cons (js_set (i := 2) sc_lowest.nd (by kernel_rfl) (Or.inl (by kernel_rfl)) (je_c C_common (hr.mono (by decide)) passF (by kernel_rfl) (ja_cons (jv 0) (ja_cons (jv 1) ja_nil)))) (jb_one (js_ret (je_tup (ja_cons (je_op jp_div (jv 0) (jv 2)) (ja_cons (je_op jp_div (jv 1) (jv 2)) ja_nil)))))))), hm, F.kp, hb⟩
abbrev s_added : Stmt := top 5
theorem sc_added : FnScope ["one", "other"] ["one", "other"] (defScope s_added) := ⟨rfl, rfl, rfl, by decide +kernel, rfl, by decide +kernel, by decide +kernel⟩
def b_added : Sv := (sRet (eCall m_lowest (aCons (eOp (i2 addI) (eOp (i2 mulI) (eOp ixD (eVar 0) (eC (.int 0))) (eOp ixD (eVar 1) (eC (.int 1)))) (eOp (i2 mulI) (eOp ixD (eVar 1) (eC (.int 0))) (eOp ixD (eVar 0) (eC (.int 1))))) (aCons (eOp (i2 mulI) (eOp ixD (eVar 0) (eC (.int 1))) (eOp ixD (eVar 1) (eC (.int 1)))) aNil))))
def m_added : List D → Option Out := fnSem 2 0 b_added
theorem ok_added (Z : Txt K mg) (Y : Txe K mg T) (C_lowest : Cl P w K mg base (CXf P w) T "lowest" ["top", "bottom"] 2 m_lowest) {f : Addr} {fd : FuncData} (F : FunD K "added" "added" s_added .none f fd) (hm : mg "added" = some (.ref f)) (hb : Binds K fd ["one", "other"] []) : Cl P w K mg base (CXf P w) T "added" ["one", "other"] 3 m_added :=
  ⟨f, fd, fnx_okJ (fb := b_added) (k := 2) F sc_added (by kernel_rfl) (by kernel_rfl) (fun cdv A outer s H E hr =>
    (jb_one (js_ret (je_c C_lowest (hr.mono (by decide)) passF (by kernel_rfl) (ja_cons (je_op jp_add (je_op jp_mul (je_ix (jv 0) je_int) (je_ix (jv 1) je_int)) (je_op jp_mul (je_ix (jv 1) je_int) (je_ix (jv 0) je_int))) (ja_cons (je_op jp_mul (je_ix (jv 0) je_int) (je_ix (jv 1) je_int)) ja_nil)))))), hm, F.kp, hb⟩
abbrev s_multiplied : Stmt := top 6
theorem sc_multiplied : FnScope ["one", "other"] ["one", "other"] (defScope s_multiplied) := ⟨rfl, rfl, rfl, by decide +kernel, rfl, by decide +kernel, by decide +kernel⟩
def b_multiplied : Sv := (sRet (eCall m_lowest (aCons (eOp (i2 mulI) (eOp ixD (eVar 0) (eC (.int 0))) (eOp ixD (eVar 1) (eC (.int 0)))) (aCons (eOp (i2 mulI) (eOp ixD (eVar 0) (eC (.int 1))) (eOp ixD (eVar 1) (eC (.int 1)))) aNil))))
def m_multiplied : List D → Option Out := fnSem 2 0 b_multiplied
theorem ok_multiplied (Z : Txt K mg) (Y : Txe K mg T) (C_lowest : Cl P w K mg base (CXf P w) T "lowest" ["top", "bottom"] 2 m_lowest) {f : Addr} {fd : FuncData} (F : FunD K "multiplied" "multiplied" s_multiplied .none f fd) (hm : mg "multiplied" = some (.ref f)) (hb : Binds K fd ["one", "other"] []) : Cl P w K mg base (CXf P w) T "multiplied" ["one", "other"] 3 m_multiplied :=
  ⟨f, fd, fnx_okJ (fb := b_multiplied) (k := 2) F sc_multiplied (by kernel_rfl) (by kernel_rfl) (fun cdv A outer s H E hr =>
    (jb_one (js_ret (je_c C_lowest (hr.mono (by decide)) passF (by kernel_rfl) (ja_cons (je_op jp_mul (je_ix (jv 0) je_int) (je_ix (jv 1) je_int)) (ja_cons (je_op jp_mul (je_ix (jv 0) je_int) (je_ix (jv 1) je_int)) ja_nil)))))), hm, F.kp, hb⟩
abbrev s_straight_place : Stmt := top 16
theorem sc_straight_place : FnScope ["bead", "moment", "weight", "place", "speed"] ["bead", "moment"] (defScope s_straight_place) := ⟨rfl, rfl, rfl, by decide +kernel, rfl, by decide +kernel, by decide +kernel⟩
def b_straight_place : Sv := (sSeq (sAsg (eVar 0) (gTp (gsCons (gNm 2) (gsCons (gNm 3) (gsCons (gNm 4) gsNil))))) (sRet (eCall m_added (aCons (eVar 3) (aCons (eCall m_multiplied (aCons (eVar 4) (aCons (eVar 1) aNil))) aNil)))))
def m_straight_place : List D → Option Out := fnSem 2 3 b_straight_place
theorem ok_straight_place (Z : Txt K mg) (Y : Txe K mg T) (C_added : Cl P w K mg base (CXf P w) T "added" ["one", "other"] 3 m_added) (C_multiplied : Cl P w K mg base (CXf P w) T "multiplied" ["one", "other"] 3 m_multiplied) {f : Addr} {fd : FuncData} (F : FunD K "straight_place" "straight_place" s_straight_place .none f fd) (hm : mg "straight_place" = some (.ref f)) (hb : Binds K fd ["bead", "moment"] []) : Cl P w K mg base (CXf P w) T "straight_place" ["bead", "moment"] 4 m_straight_place :=
  ⟨f, fd, fnx_okJ (fb := b_straight_place) (k := 3) F sc_straight_place (by kernel_rfl) (by kernel_rfl) (fun cdv A outer s H E hr =>
    (jb_cons (js_asg (jv 0) (jg_tup (by kernel_rfl) (jgs_cons (jg_name (i := 2) sc_straight_place.nd (by kernel_rfl) (Or.inl (by kernel_rfl))) (jgs_cons (jg_name (i := 3) sc_straight_place.nd (by kernel_rfl) (Or.inl (by kernel_rfl))) (jgs_cons (jg_name (i := 4) sc_straight_place.nd (by kernel_rfl) (Or.inl (by kernel_rfl))) jgs_nil))) (gl_cons (gl_cons (gl_cons gl_nil))))) (jb_one (js_ret (je_c C_added (hr.mono (by decide)) passF (by kernel_rfl) (ja_cons (jv 3) (ja_cons (je_c C_multiplied (hr.mono (by decide)) passF (by kernel_rfl) (ja_cons (jv 4) (ja_cons (jv 1) ja_nil))) ja_nil))))))), hm, F.kp, hb⟩
abbrev s_parted : Stmt := top 7
theorem sc_parted : FnScope ["one", "other"] ["one", "other"] (defScope s_parted) := ⟨rfl, rfl, rfl, by decide +kernel, rfl, by decide +kernel, by decide +kernel⟩
def b_parted : Sv := (sRet (eCall m_lowest (aCons (eOp (i2 mulI) (eOp ixD (eVar 0) (eC (.int 0))) (eOp ixD (eVar 1) (eC (.int 1)))) (aCons (eOp (i2 mulI) (eOp ixD (eVar 0) (eC (.int 1))) (eOp ixD (eVar 1) (eC (.int 0)))) aNil))))
def m_parted : List D → Option Out := fnSem 2 0 b_parted
theorem ok_parted (Z : Txt K mg) (Y : Txe K mg T) (C_lowest : Cl P w K mg base (CXf P w) T "lowest" ["top", "bottom"] 2 m_lowest) {f : Addr} {fd : FuncData} (F : FunD K "parted" "parted" s_parted .none f fd) (hm : mg "parted" = some (.ref f)) (hb : Binds K fd ["one", "other"] []) : Cl P w K mg base (CXf P w) T "parted" ["one", "other"] 3 m_parted :=
  ⟨f, fd, fnx_okJ (fb := b_parted) (k := 2) F sc_parted (by kernel_rfl) (by kernel_rfl) (fun cdv A outer s H E hr =>
    (jb_one (js_ret (je_c C_lowest (hr.mono (by decide)) passF (by kernel_rfl) (ja_cons (je_op jp_mul (je_ix (jv 0) je_int) (je_ix (jv 1) je_int)) (ja_cons (je_op jp_mul (je_ix (jv 0) je_int) (je_ix (jv 1) je_int)) ja_nil)))))), hm, F.kp, hb⟩
abbrev s_scaled : Stmt := top 9
theorem sc_scaled : FnScope ["number", "one"] ["number", "one"] (defScope s_scaled) := ⟨rfl, rfl, rfl, by decide +kernel, rfl, by decide +kernel, by decide +kernel⟩
def b_scaled : Sv := (sRet (eCall m_lowest (aCons (eOp (i2 mulI) (eVar 0) (eOp ixD (eVar 1) (eC (.int 0)))) (aCons (eOp ixD (eVar 1) (eC (.int 1))) aNil))))
def m_scaled : List D → Option Out := fnSem 2 0 b_scaled
theorem ok_scaled (Z : Txt K mg) (Y : Txe K mg T) (C_lowest : Cl P w K mg base (CXf P w) T "lowest" ["top", "bottom"] 2 m_lowest) {f : Addr} {fd : FuncData} (F : FunD K "scaled" "scaled" s_scaled .none f fd) (hm : mg "scaled" = some (.ref f)) (hb : Binds K fd ["number", "one"] []) : Cl P w K mg base (CXf P w) T "scaled" ["number", "one"] 3 m_scaled :=
  ⟨f, fd, fnx_okJ (fb := b_scaled) (k := 2) F sc_scaled (by kernel_rfl) (by kernel_rfl) (fun cdv A outer s H E hr =>
    (jb_one (js_ret (je_c C_lowest (hr.mono (by decide)) passF (by kernel_rfl) (ja_cons (je_op jp_mul (jv 0) (je_ix (jv 1) je_int)) (ja_cons (je_ix (jv 1) je_int) ja_nil)))))), hm, F.kp, hb⟩
abbrev s_weighed_sum : Stmt := top 10
theorem sc_weighed_sum : FnScope ["weights", "shares", "total", "weight", "one"] ["weights", "shares"] (defScope s_weighed_sum) := ⟨rfl, rfl, rfl, by decide +kernel, rfl, by decide +kernel, by decide +kernel⟩
def l1_weighed_sum : Sv := (sAsg (eCall m_added (aCons (eVar 2) (aCons (eCall m_scaled (aCons (eVar 3) (aCons (eVar 4) aNil))) aNil))) (gNm 2))
def b_weighed_sum : Sv := (sSeq (sAsg (eC (.tup [(.int 0), (.int 1)])) (gNm 2)) (sSeq (sFor (wZip (aCons (eVar 0) (aCons (eVar 1) aNil))) (gTp (gsCons (gNm 3) (gsCons (gNm 4) gsNil))) l1_weighed_sum) (sRet (eVar 2))))
def m_weighed_sum : List D → Option Out := fnSem 2 3 b_weighed_sum
theorem ok_weighed_sum (Z : Txt K mg) (Y : Txe K mg T) (C_added : Cl P w K mg base (CXf P w) T "added" ["one", "other"] 3 m_added) (C_scaled : Cl P w K mg base (CXf P w) T "scaled" ["number", "one"] 3 m_scaled) {f : Addr} {fd : FuncData} (F : FunD K "weighed_sum" "weighed_sum" s_weighed_sum .none f fd) (hm : mg "weighed_sum" = some (.ref f)) (hb : Binds K fd ["weights", "shares"] []) : Cl P w K mg base (CXf P w) T "weighed_sum" ["weights", "shares"] 4 m_weighed_sum :=
  ⟨f, fd, fnx_okJ (fb := b_weighed_sum) (k := 3) F sc_weighed_sum (by kernel_rfl) (by kernel_rfl) (fun cdv A outer s H E hr =>
    (jb_cons (js_set (i := 2) sc_weighed_sum.nd (by kernel_rfl) (Or.inl (by kernel_rfl)) (je_gt (by kernel_rfl) Z.g_NOUGHT rfl)) (jb_cons (js_for passL (by kernel_rfl) (ji_zip (by kernel_rfl) Z.n_zip (ja_cons (jv 0) (ja_cons (jv 1) ja_nil))) (jg_tup (by kernel_rfl) (jgs_cons (jg_name (i := 3) sc_weighed_sum.nd (by kernel_rfl) (Or.inl (by kernel_rfl))) (jgs_cons (jg_name (i := 4) sc_weighed_sum.nd (by kernel_rfl) (Or.inl (by kernel_rfl))) jgs_nil)) (gl_cons (gl_cons gl_nil))) (jb_one (js_set (i := 2) sc_weighed_sum.nd (by kernel_rfl) (Or.inl (by kernel_rfl)) (je_c C_added (hr.mono (by decide)) passF (by kernel_rfl) (ja_cons (jv 2) (ja_cons (je_c C_scaled (hr.mono (by decide)) passF (by kernel_rfl) (ja_cons (jv 3) (ja_cons (jv 4) ja_nil))) ja_nil)))))) (jb_one (js_ret (jv 2)))))), hm, F.kp, hb⟩
abbrev s_weighed_mean : Stmt := top 11
theorem sc_weighed_mean : FnScope ["weights", "shares"] ["weights", "shares"] (defScope s_weighed_mean) := ⟨rfl, rfl, rfl, by decide +kernel, rfl, by decide +kernel, by decide +kernel⟩
def b_weighed_mean : Sv := (sRet (eCall m_parted (aCons (eCall m_weighed_sum (aCons (eVar 0) (aCons (eVar 1) aNil))) (aCons (eTup (aCons (eB sumB (aCons (eVar 0) aNil)) (aCons (eC (.int 1)) aNil))) aNil))))
def m_weighed_mean : List D → Option Out := fnSem 2 0 b_weighed_mean
theorem ok_weighed_mean (Z : Txt K mg) (Y : Txe K mg T) (C_parted : Cl P w K mg base (CXf P w) T "parted" ["one", "other"] 3 m_parted) (C_weighed_sum : Cl P w K mg base (CXf P w) T "weighed_sum" ["weights", "shares"] 4 m_weighed_sum) {f : Addr} {fd : FuncData} (F : FunD K "weighed_mean" "weighed_mean" s_weighed_mean .none f fd) (hm : mg "weighed_mean" = some (.ref f)) (hb : Binds K fd ["weights", "shares"] []) : Cl P w K mg base (CXf P w) T "weighed_mean" ["weights", "shares"] 5 m_weighed_mean :=
  ⟨f, fd, fnx_okJ (fb := b_weighed_mean) (k := 4) F sc_weighed_mean (by kernel_rfl) (by kernel_rfl) (fun cdv A outer s H E hr =>
    (jb_one (js_ret (je_c C_parted (hr.mono (by decide)) passF (by kernel_rfl) (ja_cons (je_c C_weighed_sum (hr.mono (by decide)) passF (by kernel_rfl) (ja_cons (jv 0) (ja_cons (jv 1) ja_nil))) (ja_cons (je_tup (ja_cons (je_callB (jc_sum (by kernel_rfl)) (by kernel_rfl) Z.n_sum (by decide +kernel) (ja_cons (jv 0) ja_nil)) (ja_cons je_int ja_nil))) ja_nil)))))), hm, F.kp, hb⟩
abbrev s_stretch_weights : Stmt := top 15
theorem sc_stretch_weights : FnScope ["row", "first", "last", "weight", "place", "speed"] ["row", "first", "last"] (defScope s_stretch_weights) := ⟨rfl, rfl, rfl, by decide +kernel, rfl, by decide +kernel, by decide +kernel⟩
def b_stretch_weights : Sv := (sRet (eFr (lComp (wSeq (eFr (lSlice (eVar 0) (oSome (eVar 1)) (oSome (eOp (i2 addI) (eVar 2) (eC (.int 1))))))) (gTp (gsCons (gNm 3) (gsCons (gNm 4) (gsCons (gNm 5) gsNil)))) qYes (eVar 3) [3, 4, 5])))
def m_stretch_weights : List D → Option Out := fnSem 3 3 b_stretch_weights
theorem ok_stretch_weights (Z : Txt K mg) (Y : Txe K mg T) {f : Addr} {fd : FuncData} (F : FunD K "stretch_weights" "stretch_weights" s_stretch_weights .none f fd) (hm : mg "stretch_weights" = some (.ref f)) (hb : Binds K fd ["row", "first", "last"] []) : Cl P w K mg base (CXf P w) T "stretch_weights" ["row", "first", "last"] 1 m_stretch_weights :=
  ⟨f, fd, fnx_okJ (fb := b_stretch_weights) (k := 0) F sc_stretch_weights (by kernel_rfl) (by kernel_rfl) (fun cdv A outer s H E hr =>
    (jb_one (js_ret (je_fr (jf_lc (own := [("weight", 3), ("place", 4), ("speed", 5)]) (by kernel_rfl) sc_stretch_weights.nd (ji_list (je_fr (jf_slice (jv 0) (jo_some (jv 1)) (jo_some (je_op jp_add (jv 2) je_int))))) (blkOk_by (by kernel_rfl)) (fun _ _ _ _ _ => (jg_tup (by kernel_rfl) (jgs_cons (jg_name (i := 3) sc_stretch_weights.nd (by kernel_rfl) (Or.inl (by kernel_rfl)) (hf := Or.inr (by kernel_rfl))) (jgs_cons (jg_name (i := 4) sc_stretch_weights.nd (by kernel_rfl) (Or.inl (by kernel_rfl)) (hf := Or.inr (by kernel_rfl))) (jgs_cons (jg_name (i := 5) sc_stretch_weights.nd (by kernel_rfl) (Or.inl (by kernel_rfl)) (hf := Or.inr (by kernel_rfl))) jgs_nil))) (gl_cons (gl_cons (gl_cons gl_nil))))) (fun _ _ _ _ _ => jts_nil) (fun _ _ _ _ _ => (jv 3)) (by decide)))))), hm, F.kp, hb⟩
abbrev s_stretch_middle : Stmt := top 17
theorem sc_stretch_middle : FnScope ["row", "first", "last", "moment", "places", "bead"] ["row", "first", "last", "moment"] (defScope s_stretch_middle) := ⟨rfl, rfl, rfl, by decide +kernel, rfl, by decide +kernel, by decide +kernel⟩
def b_stretch_middle : Sv := (sSeq (sOwn (lComp (wSeq (eFr (lSlice (eVar 0) (oSome (eVar 1)) (oSome (eOp (i2 addI) (eVar 2) (eC (.int 1))))))) (gNm 5) qYes (eCall m_straight_place (aCons (eVar 5) (aCons (eVar 3) aNil))) [5]) 4) (sFrz 4 (sRet (eCall m_weighed_mean (aCons (eCall m_stretch_weights (aCons (eVar 0) (aCons (eVar 1) (aCons (eVar 2) aNil)))) (aCons (eVar 4) aNil))))))
def m_stretch_middle : List D → Option Out := fnSem 4 2 b_stretch_middle
theorem ok_stretch_middle (Z : Txt K mg) (Y : Txe K mg T) (C_straight_place : Cl P w K mg base (CXf P w) T "straight_place" ["bead", "moment"] 4 m_straight_place) (C_weighed_mean : Cl P w K mg base (CXf P w) T "weighed_mean" ["weights", "shares"] 5 m_weighed_mean) (C_stretch_weights : Cl P w K mg base (CXf P w) T "stretch_weights" ["row", "first", "last"] 1 m_stretch_weights) {f : Addr} {fd : FuncData} (F : FunD K "stretch_middle" "stretch_middle" s_stretch_middle .none f fd) (hm : mg "stretch_middle" = some (.ref f)) (hb : Binds K fd ["row", "first", "last", "moment"] []) : Cl P w K mg base (CXf P w) T "stretch_middle" ["row", "first", "last", "moment"] 6 m_stretch_middle :=
  ⟨f, fd, fnx_okJ (fb := b_stretch_middle) (k := 5) F sc_stretch_middle (by kernel_rfl) (by kernel_rfl) (fun cdv A outer s H E hr =>
    (jb_cons (js_setLc (i := 4) (own := [("bead", 5)]) (by kernel_rfl) sc_stretch_middle.nd (by kernel_rfl) (by kernel_rfl) (sw_true (by kernel_rfl) (by kernel_rfl) (by kernel_rfl) (by kernel_rfl)) (ji_list (je_fr (jf_slice (jv 0) (jo_some (jv 1)) (jo_some (je_op jp_add (jv 2) je_int))))) (blkOk_by (by kernel_rfl)) (fun _ _ _ _ _ => (jg_name (i := 5) sc_stretch_middle.nd (by kernel_rfl) (Or.inl (by kernel_rfl)) (hf := Or.inr (by kernel_rfl)))) (fun _ _ _ _ _ => jts_nil) (fun _ _ _ _ _ => (je_c C_straight_place (hr.mono (by decide)) passN (by kernel_rfl) (ja_cons (jv 5) (ja_cons (jv 3 (hv := Or.inr (Or.inl (by kernel_rfl)))) ja_nil)))) (by decide)) (jb_frz (i := 4) (jb_one (js_ret (je_c C_weighed_mean (hr.mono (by decide)) passF (by kernel_rfl) (ja_cons (je_c C_stretch_weights (hr.mono (by decide)) passF (by kernel_rfl) (ja_cons (jv 0) (ja_cons (jv 1) (ja_cons (jv 2) ja_nil)))) (ja_cons (jv 4) ja_nil)))))))), hm, F.kp, hb⟩
abbrev s_compared : Stmt := top 8
theorem sc_compared : FnScope ["one", "other", "left", "right"] ["one", "other"] (defScope s_compared) := ⟨rfl, rfl, rfl, by decide +kernel, rfl, by decide +kernel, by decide +kernel⟩
def b_compared : Sv := (sSeq (sAsg (eOp (i2 mulI) (eOp ixD (eVar 0) (eC (.int 0))) (eOp ixD (eVar 1) (eC (.int 1)))) (gNm 2)) (sSeq (sAsg (eOp (i2 mulI) (eOp ixD (eVar 1) (eC (.int 0))) (eOp ixD (eVar 0) (eC (.int 1)))) (gNm 3)) (sSeq (sIf (eOp (i2 gtI) (eVar 2) (eVar 3)) (sRet (eC (.int 1))) sNext) (sSeq (sIf (eOp (i2 ltI) (eVar 2) (eVar 3)) (sRet (eNeg (eC (.int 1)))) sNext) (sRet (eC (.int 0)))))))
def m_compared : List D → Option Out := fnSem 2 2 b_compared
theorem ok_compared (Z : Txt K mg) (Y : Txe K mg T) {f : Addr} {fd : FuncData} (F : FunD K "compared" "compared" s_compared .none f fd) (hm : mg "compared" = some (.ref f)) (hb : Binds K fd ["one", "other"] []) : Cl P w K mg base (CXf P w) T "compared" ["one", "other"] 1 m_compared :=
  ⟨f, fd, fnx_okJ (fb := b_compared) (k := 0) F sc_compared (by kernel_rfl) (by kernel_rfl) (fun cdv A outer s H E hr =>
    (jb_cons (js_set (i := 2) sc_compared.nd (by kernel_rfl) (Or.inl (by kernel_rfl)) (je_op jp_mul (je_ix (jv 0) je_int) (je_ix (jv 1) je_int))) (jb_cons (js_set (i := 3) sc_compared.nd (by kernel_rfl) (Or.inl (by kernel_rfl)) (je_op jp_mul (je_ix (jv 1) je_int) (je_ix (jv 0) je_int))) (jb_cons (js_if (jt_cmp jp_gt (jv 2) (jv 3) (nobehind _ (by decide) (by decide))) (jb_one (js_ret je_int)) jb_nil) (jb_cons (js_if (jt_cmp jp_lt (jv 2) (jv 3) (nobehind _ (by decide) (by decide))) (jb_one (js_ret (je_neg je_int))) jb_nil) (jb_one (js_ret je_int))))))), hm, F.kp, hb⟩
abbrev s_is_behind : Stmt := top 19
theorem sc_is_behind : FnScope ["row", "first", "cut", "last", "moment", "left", "right"] ["row", "first", "cut", "last", "moment"] (defScope s_is_behind) := ⟨rfl, rfl, rfl, by decide +kernel, rfl, by decide +kernel, by decide +kernel⟩
def b_is_behind : Sv := (sSeq (sAsg (eCall m_stretch_middle (aCons (eVar 0) (aCons (eVar 1) (aCons (eVar 2) (aCons (eVar 4) aNil))))) (gNm 5)) (sSeq (sAsg (eCall m_stretch_middle (aCons (eVar 0) (aCons (eOp (i2 addI) (eVar 2) (eC (.int 1))) (aCons (eVar 3) (aCons (eVar 4) aNil))))) (gNm 6)) (sRet (eOp (i2 ltI) (eCall m_compared (aCons (eVar 5) (aCons (eVar 6) aNil))) (eC (.int 0))))))
def m_is_behind : List D → Option Out := fnSem 5 2 b_is_behind
theorem ok_is_behind (Z : Txt K mg) (Y : Txe K mg T) (C_stretch_middle : Cl P w K mg base (CXf P w) T "stretch_middle" ["row", "first", "last", "moment"] 6 m_stretch_middle) (C_compared : Cl P w K mg base (CXf P w) T "compared" ["one", "other"] 1 m_compared) {f : Addr} {fd : FuncData} (F : FunD K "is_behind" "is_behind" s_is_behind .none f fd) (hm : mg "is_behind" = some (.ref f)) (hb : Binds K fd ["row", "first", "cut", "last", "moment"] []) : Cl P w K mg base (CXf P w) T "is_behind" ["row", "first", "cut", "last", "moment"] 7 m_is_behind :=
  ⟨f, fd, fnx_okJ (fb := b_is_behind) (k := 6) F sc_is_behind (by kernel_rfl) (by kernel_rfl) (fun cdv A outer s H E hr =>
    (jb_cons (js_set (i := 5) sc_is_behind.nd (by kernel_rfl) (Or.inl (by kernel_rfl)) (je_c C_stretch_middle (hr.mono (by decide)) passF (by kernel_rfl) (ja_cons (jv 0) (ja_cons (jv 1) (ja_cons (jv 2) (ja_cons (jv 4) ja_nil)))))) (jb_cons (js_set (i := 6) sc_is_behind.nd (by kernel_rfl) (Or.inl (by kernel_rfl)) (je_c C_stretch_middle (hr.mono (by decide)) passF (by kernel_rfl) (ja_cons (jv 0) (ja_cons (je_op jp_add (jv 2) je_int) (ja_cons (jv 3) (ja_cons (jv 4) ja_nil)))))) (jb_one (js_ret (je_cmp jp_lt (je_c C_compared (hr.mono (by decide)) passF (by kernel_rfl) (ja_cons (jv 5) (ja_cons (jv 6) ja_nil))) je_int (nobehind _ (by decide) (by decide)))))))), hm, F.kp, hb⟩
abbrev s_holds : Stmt := top 20
theorem sc_holds : FnScope ["row", "first", "last", "moment", "cut"] ["row", "first", "last", "moment"] (defScope s_holds) := ⟨rfl, rfl, rfl, by decide +kernel, rfl, by decide +kernel, by decide +kernel⟩
def b_holds : Sv := (sRet (qNot (eB anyB (aCons (eFr (lComp (wRng2 (aCons (eVar 1) (aCons (eVar 2) aNil))) (gNm 4) qYes (eCall m_is_behind (aCons (eVar 0) (aCons (eVar 1) (aCons (eVar 4) (aCons (eVar 2) (aCons (eVar 3) aNil)))))) [4])) aNil))))
def m_holds : List D → Option Out := fnSem 4 1 b_holds
theorem ok_holds (Z : Txt K mg) (Y : Txe K mg T) (C_is_behind : Cl P w K mg base (CXf P w) T "is_behind" ["row", "first", "cut", "last", "moment"] 7 m_is_behind) {f : Addr} {fd : FuncData} (F : FunD K "holds" "holds" s_holds .none f fd) (hm : mg "holds" = some (.ref f)) (hb : Binds K fd ["row", "first", "last", "moment"] []) : Cl P w K mg base (CXf P w) T "holds" ["row", "first", "last", "moment"] 8 m_holds :=
  ⟨f, fd, fnx_okJ (fb := b_holds) (k := 7) F sc_holds (by kernel_rfl) (by kernel_rfl) (fun cdv A outer s H E hr =>
    (jb_one (js_ret (je_not (je_callB (jc_any (by kernel_rfl)) (by kernel_rfl) Z.n_any (by decide +kernel) (ja_cons (je_fr (jf_lc (own := [("cut", 4)]) (by kernel_rfl) sc_holds.nd (ji_range2 (by kernel_rfl) Z.n_range (ja_cons (jv 1 (hv := Or.inr (Or.inl (by kernel_rfl)))) (ja_cons (jv 2 (hv := Or.inr (Or.inl (by kernel_rfl)))) ja_nil))) (blkOk_by (by kernel_rfl)) (fun _ _ _ _ _ => (jg_name (i := 4) sc_holds.nd (by kernel_rfl) (Or.inl (by kernel_rfl)) (hf := Or.inr (by kernel_rfl)))) (fun _ _ _ _ _ => jts_nil) (fun _ _ _ _ _ => (je_c C_is_behind (hr.mono (by decide)) passN (by kernel_rfl) (ja_cons (jv 0 (hv := Or.inr (Or.inl (by kernel_rfl)))) (ja_cons (jv 1 (hv := Or.inr (Or.inl (by kernel_rfl)))) (ja_cons (jv 4) (ja_cons (jv 2 (hv := Or.inr (Or.inl (by kernel_rfl)))) (ja_cons (jv 3 (hv := Or.inr (Or.inl (by kernel_rfl)))) ja_nil))))))) (by decide))) ja_nil)))))), hm, F.kp, hb⟩
abbrev s_One_shows : Stmt := inClass (top 24) 1
theorem sc_One_shows : FnScope ["self", "row", "moment", "one", "other"] ["self", "row", "moment", "one", "other"] (defScope s_One_shows) := ⟨rfl, rfl, rfl, by decide +kernel, rfl, by decide +kernel, by decide +kernel⟩
def b_One_shows : Sv := (sSeq (sIf (qOr (qNot (qV (eCall m_is_bead_of (aCons (eVar 1) (aCons (eFld 1 0 (eVar 0)) aNil))))) (qNot (qV (eCall m_is_bead_of (aCons (eVar 1) (aCons (eFld 1 1 (eVar 0)) aNil)))))) (sRet (eC (.bl false))) sNext) (sRet (qAnd (eOp (i2 leI) (eFld 1 0 (eVar 0)) (eVar 3)) (qAnd (eOp (i2 leI) (eVar 4) (eFld 1 1 (eVar 0))) (eCall m_holds (aCons (eVar 1) (aCons (eFld 1 0 (eVar 0)) (aCons (eFld 1 1 (eVar 0)) (aCons (eVar 2) aNil)))))))))
def m_One_shows : List D → Option Out := fnSem 5 0 b_One_shows
theorem ok_One_shows (Z : Txt K mg) (Y : Txe K mg T) (C_is_bead_of : Cl P w K mg base (CXf P w) T "is_bead_of" ["row", "bead"] 2 m_is_bead_of) (C_holds : Cl P w K mg base (CXf P w) T "holds" ["row", "first", "last", "moment"] 8 m_holds) {f : Addr} {fd : FuncData} (F : FunD K "shows" "One.shows" s_One_shows .none f fd) (hm : Meth K (oA T 1) "shows" f) (hb : Binds K fd ["self", "row", "moment", "one", "other"] []) : ClM P w K mg base (CXf P w) T (oA T 1) "shows" ["self", "row", "moment", "one", "other"] 9 m_One_shows :=
  ⟨⟨f, fd, fnx_okJ (fb := b_One_shows) (k := 8) F sc_One_shows (by kernel_rfl) (by kernel_rfl) (fun cdv A outer s H E hr =>
    (jb_cons (js_if (JW.pt (jw_or (jt_not (jt_val (je_c C_is_bead_of (hr.mono (by decide)) passF (by kernel_rfl) (ja_cons (jv 1) (ja_cons (je_fld Y.o_One (jv 0) (i := 0) (by kernel_rfl)) ja_nil))))) (jw_or1 (jt_not (jt_val (je_c C_is_bead_of (hr.mono (by decide)) passF (by kernel_rfl) (ja_cons (jv 1) (ja_cons (je_fld Y.o_One (jv 0) (i := 1) (by kernel_rfl)) ja_nil)))))))) (jb_one (js_ret je_bl)) jb_nil) (jb_one (js_ret (je_and (je_cmp jp_le (je_fld Y.o_One (jv 0) (i := 0) (by kernel_rfl)) (jv 3) (nobehind _ (by decide) (by decide))) (je_and (je_cmp jp_le (jv 4) (je_fld Y.o_One (jv 0) (i := 1) (by kernel_rfl)) (nobehind _ (by decide) (by decide))) (je_one (je_c C_holds (hr.mono (by decide)) passF (by kernel_rfl) (ja_cons (jv 1) (ja_cons (je_fld Y.o_One (jv 0) (i := 0) (by kernel_rfl)) (ja_cons (je_fld Y.o_One (jv 0) (i := 1) (by kernel_rfl)) (ja_cons (jv 2) ja_nil)))))))))))), hm, hb⟩⟩
abbrev s_parts_at : Stmt := top 21
theorem sc_parts_at : FnScope ["row", "cut", "moment", "lefts", "rights", "first", "last", "left", "right"] ["row", "cut", "moment"] (defScope s_parts_at) := ⟨rfl, rfl, rfl, by decide +kernel, rfl, by decide +kernel, by decide +kernel⟩
def b_parts_at : Sv := (sSeq (sOwn (lComp (wRng1 (aCons (eOp (i2 addI) (eVar 1) (eC (.int 1))) aNil)) (gNm 5) qYes (eCall m_stretch_middle (aCons (eVar 0) (aCons (eVar 5) (aCons (eVar 1) (aCons (eVar 2) aNil))))) [5]) 3) (sFrz 3 (sSeq (sOwn (lComp (wRng2 (aCons (eOp (i2 addI) (eVar 1) (eC (.int 1))) (aCons (eB lenB (aCons (eVar 0) aNil)) aNil))) (gNm 6) qYes (eCall m_stretch_middle (aCons (eVar 0) (aCons (eOp (i2 addI) (eVar 1) (eC (.int 1))) (aCons (eVar 6) (aCons (eVar 2) aNil))))) [6]) 4) (sFrz 4 (sRet (eB allB (aCons (eFr (lComp2 (wSeq (eVar 3)) 7 qYes (wSeq (eVar 4)) (gNm 8) qYes (eOp (i2 ltI) (eCall m_compared (aCons (eVar 7) (aCons (eVar 8) aNil))) (eC (.int 0))) [7, 8] [8])) aNil)))))))
def m_parts_at : List D → Option Out := fnSem 3 6 b_parts_at
theorem ok_parts_at (Z : Txt K mg) (Y : Txe K mg T) (C_stretch_middle : Cl P w K mg base (CXf P w) T "stretch_middle" ["row", "first", "last", "moment"] 6 m_stretch_middle) (C_compared : Cl P w K mg base (CXf P w) T "compared" ["one", "other"] 1 m_compared) {f : Addr} {fd : FuncData} (F : FunD K "parts_at" "parts_at" s_parts_at .none f fd) (hm : mg "parts_at" = some (.ref f)) (hb : Binds K fd ["row", "cut", "moment"] []) : Cl P w K mg base (CXf P w) T "parts_at" ["row", "cut", "moment"] 7 m_parts_at :=
  ⟨f, fd, fnx_okJ (fb := b_parts_at) (k := 6) F sc_parts_at (by kernel_rfl) (by kernel_rfl) (fun cdv A outer s H E hr =>
    (jb_cons (js_setLc (i := 3) (own := [("first", 5)]) (by kernel_rfl) sc_parts_at.nd (by kernel_rfl) (by kernel_rfl) (sw_true (by kernel_rfl) (by kernel_rfl) (by kernel_rfl) (by kernel_rfl)) (ji_range1 (by kernel_rfl) Z.n_range (ja_cons (je_op jp_add (jv 1 (hv := Or.inr (Or.inl (by kernel_rfl)))) je_int) ja_nil)) (blkOk_by (by kernel_rfl)) (fun _ _ _ _ _ => (jg_name (i := 5) sc_parts_at.nd (by kernel_rfl) (Or.inl (by kernel_rfl)) (hf := Or.inr (by kernel_rfl)))) (fun _ _ _ _ _ => jts_nil) (fun _ _ _ _ _ => (je_c C_stretch_middle (hr.mono (by decide)) passN (by kernel_rfl) (ja_cons (jv 0 (hv := Or.inr (Or.inl (by kernel_rfl)))) (ja_cons (jv 5) (ja_cons (jv 1 (hv := Or.inr (Or.inl (by kernel_rfl)))) (ja_cons (jv 2 (hv := Or.inr (Or.inl (by kernel_rfl)))) ja_nil)))))) (by decide)) (jb_frz (i := 3) (jb_cons (js_own (i := 4) sc_parts_at.nd (by kernel_rfl) (Or.inr (by kernel_rfl)) (jf_lc (own := [("last", 6)]) (by kernel_rfl) sc_parts_at.nd (ji_range2 (by kernel_rfl) Z.n_range (ja_cons (je_op jp_add (jv 1 (hv := Or.inr (Or.inl (by kernel_rfl)))) je_int) (ja_cons (je_callB jc_len (by kernel_rfl) Z.n_len (by decide +kernel) (ja_cons (jv 0 (hv := Or.inr (Or.inl (by kernel_rfl)))) ja_nil)) ja_nil))) (blkOk_by (by kernel_rfl)) (fun _ _ _ _ _ => (jg_name (i := 6) sc_parts_at.nd (by kernel_rfl) (Or.inl (by kernel_rfl)) (hf := Or.inr (by kernel_rfl)))) (fun _ _ _ _ _ => jts_nil) (fun _ _ _ _ _ => (je_c C_stretch_middle (hr.mono (by decide)) passN (by kernel_rfl) (ja_cons (jv 0 (hv := Or.inr (Or.inl (by kernel_rfl)))) (ja_cons (je_op jp_add (jv 1 (hv := Or.inr (Or.inl (by kernel_rfl)))) je_int) (ja_cons (jv 6) (ja_cons (jv 2 (hv := Or.inr (Or.inl (by kernel_rfl)))) ja_nil)))))) (by decide))) (jb_frz (i := 4) (jb_one (js_ret (je_callB (jc_all (by kernel_rfl)) (by kernel_rfl) Z.n_all (by decide +kernel) (ja_cons (je_fr (jf_lc2 (own := [("left", 7), ("right", 8)]) (vs1 := [8]) (by kernel_rfl) sc_parts_at.nd (ji_list (jv 3)) (blkOk_by (by kernel_rfl)) (by decide) (by decide) (by decide) (fun _ _ _ _ _ => (pg_name (i := 7) sc_parts_at.nd (by kernel_rfl) (Or.inl (by kernel_rfl)) (hf := Or.inr (by kernel_rfl)))) (fun _ _ _ _ _ => jts_nil) (fun _ _ _ _ _ => (ji_list (jv 4 (hv := Or.inr (Or.inl (by kernel_rfl)))))) (fun _ _ _ _ _ => (jg_name (i := 8) sc_parts_at.nd (by kernel_rfl) (Or.inl (by kernel_rfl)) (hf := Or.inr (by kernel_rfl)))) (fun _ _ _ _ _ => jts_nil) (fun _ _ _ _ _ => (je_cmp jp_lt (je_c C_compared (hr.mono (by decide)) passN (by kernel_rfl) (ja_cons (jv 7) (ja_cons (jv 8) ja_nil))) je_int (nobehind _ (by decide) (by decide)))))) ja_nil))))))))), hm, F.kp, hb⟩
abbrev s_Parted_shows : Stmt := inClass (top 25) 1
theorem sc_Parted_shows : FnScope ["self", "row", "moment", "one", "other"] ["self", "row", "moment", "one", "other"] (defScope s_Parted_shows) := ⟨rfl, rfl, rfl, by decide +kernel, rfl, by decide +kernel, by decide +kernel⟩
def b_Parted_shows : Sv := (sRet (qAnd (eCall m_is_whole (aCons (eFld 2 0 (eVar 0)) aNil)) (qAnd (eChain (i2 leI) (i2 ltI) (eVar 3) (eFld 2 0 (eVar 0)) (eVar 4)) (eCall m_parts_at (aCons (eVar 1) (aCons (eFld 2 0 (eVar 0)) (aCons (eVar 2) aNil)))))))
def m_Parted_shows : List D → Option Out := fnSem 5 0 b_Parted_shows
theorem ok_Parted_shows (Z : Txt K mg) (Y : Txe K mg T) (C_is_whole : Cl P w K mg base (CXf P w) T "is_whole" ["value"] 1 m_is_whole) (C_parts_at : Cl P w K mg base (CXf P w) T "parts_at" ["row", "cut", "moment"] 7 m_parts_at) {f : Addr} {fd : FuncData} (F : FunD K "shows" "Parted.shows" s_Parted_shows .none f fd) (hm : Meth K (oA T 2) "shows" f) (hb : Binds K fd ["self", "row", "moment", "one", "other"] []) : ClM P w K mg base (CXf P w) T (oA T 2) "shows" ["self", "row", "moment", "one", "other"] 8 m_Parted_shows :=
  ⟨⟨f, fd, fnx_okJ (fb := b_Parted_shows) (k := 7) F sc_Parted_shows (by kernel_rfl) (by kernel_rfl) (fun cdv A outer s H E hr =>
    (jb_one (js_ret (je_and (je_c C_is_whole (hr.mono (by decide)) passF (by kernel_rfl) (ja_cons (je_fld Y.o_Parted (jv 0) (i := 0) (by kernel_rfl)) ja_nil)) (je_and (je_chain jp_le jp_lt (jv 3) (je_fld Y.o_Parted (jv 0) (i := 0) (by kernel_rfl)) (jv 4)) (je_one (je_c C_parts_at (hr.mono (by decide)) passF (by kernel_rfl) (ja_cons (jv 1) (ja_cons (je_fld Y.o_Parted (jv 0) (i := 0) (by kernel_rfl)) (ja_cons (jv 2) ja_nil)))))))))), hm, hb⟩⟩
abbrev s_q_is_apart : Stmt := top 38
theorem sc_q_is_apart : FnScope ["_law_middles_here", "_law_many", "_law_cut", "_law_first", "_law_last"] ["_law_middles_here", "_law_many", "_law_cut"] (defScope s_q_is_apart) := ⟨rfl, rfl, rfl, by decide +kernel, rfl, by decide +kernel, by decide +kernel⟩
def l1_q_is_apart : Sv := (sIf (eOp (i2 geI) (eCall m_q_far (aCons (eMGet (eVar 0) (eTup (aCons (eVar 3) (aCons (eVar 2) aNil)))) (aCons (eMGet (eVar 0) (eTup (aCons (eOp (i2 addI) (eVar 2) (eC (.int 1))) (aCons (eVar 4) aNil)))) aNil))) (eC (.int 0))) (sRet (eC (.bl false))) sNext)
def l2_q_is_apart : Sv := (sFor (wRng2 (aCons (eOp (i2 addI) (eVar 2) (eC (.int 1))) (aCons (eVar 1) aNil))) (gNm 4) l1_q_is_apart)
def b_q_is_apart : Sv := (sSeq (sFor (wRng1 (aCons (eOp (i2 addI) (eVar 2) (eC (.int 1))) aNil)) (gNm 3) l2_q_is_apart) (sRet (eC (.bl true))))
def m_q_is_apart : List D → Option Out := fnSem 3 2 b_q_is_apart
theorem ok_q_is_apart (Z : Txt K mg) (Y : Txe K mg T) (C_q_far : Cl P w K mg base (CXf P w) T "_law_far" ["_law_one", "_law_other"] 1 m_q_far) {f : Addr} {fd : FuncData} (F : FunD K "_law_is_apart" "_law_is_apart" s_q_is_apart .none f fd) (hm : mg "_law_is_apart" = some (.ref f)) (hb : Binds K fd ["_law_middles_here", "_law_many", "_law_cut"] []) : Cl P w K mg base (CXf P w) T "_law_is_apart" ["_law_middles_here", "_law_many", "_law_cut"] 2 m_q_is_apart :=
  ⟨f, fd, fnx_okJ (fb := b_q_is_apart) (k := 1) F sc_q_is_apart (by kernel_rfl) (by kernel_rfl) (fun cdv A outer s H E hr =>
    (jb_cons (js_for passL (by kernel_rfl) (ji_range1 (by kernel_rfl) Z.n_range (ja_cons (je_op jp_add (jv 2) je_int) ja_nil)) (jg_name (i := 3) sc_q_is_apart.nd (by kernel_rfl) (Or.inl (by kernel_rfl))) (jb_one (js_for passL (by kernel_rfl) (ji_range2 (by kernel_rfl) Z.n_range (ja_cons (je_op jp_add (jv 2) je_int) (ja_cons (jv 1) ja_nil))) (jg_name (i := 4) sc_q_is_apart.nd (by kernel_rfl) (Or.inl (by kernel_rfl))) (jb_one (js_if (jt_cmp jp_ge (je_c C_q_far (hr.mono (by decide)) passF (by kernel_rfl) (ja_cons (je_mget hr.units (jv 0) (je_tup (ja_cons (jv 3) (ja_cons (jv 2) ja_nil)))) (ja_cons (je_mget hr.units (jv 0) (je_tup (ja_cons (je_op jp_add (jv 2) je_int) (ja_cons (jv 4) ja_nil)))) ja_nil))) je_int (nobehind _ (by decide) (by decide))) (jb_one (js_ret je_bl)) jb_nil))))) (jb_one (js_ret je_bl)))), hm, F.kp, hb⟩
abbrev s_q_right : Stmt := top 39
theorem sc_q_right : FnScope ["_law_row_here", "_law_middles_here", "_law_moment_here", "_law_one", "_law_other", "_law_numbers", "_law_due", "_law_said", "_law_good", "_law_first", "_law_last", "_law_cut", "_law_answer", "_law_paper", "_law_word"] ["_law_row_here", "_law_middles_here", "_law_moment_here", "_law_one", "_law_other", "_law_numbers"] (defScope s_q_right) := ⟨rfl, rfl, rfl, by decide +kernel, rfl, by decide +kernel, by decide +kernel⟩
def b_q_right : Sv := (sSeq (sAsg (eVar 5) (gLs (gsCons (gNm 9) (gsCons (gNm 10) (gsCons (gNm 11) gsNil))))) (sSeq (sAsg (qAnd (eChain (i2 leI) (i2 leI) (eC (.int 0)) (eVar 9) (eVar 3)) (eChain (i2 leI) (i2 ltI) (eVar 4) (eVar 10) (eB lenB (aCons (eVar 0) aNil)))) (gNm 6)) (sSeq (sAsg (qAnd (eVar 6) (eCall m_q_is_one (aCons (eVar 1) (aCons (eVar 9) (aCons (eVar 10) aNil))))) (gNm 6)) (sSeq (sPar 12 13 (eMake 1 2 (aCons (eVar 9) (aCons (eVar 10) aNil))) (eMake 2 1 (aCons (eVar 11) aNil))) (sSeq (sAsg (eFr (lLst (aCons (eMeth 1 m_One_shows (eVar 12) (aCons (eVar 0) (aCons (eVar 2) (aCons (eVar 3) (aCons (eVar 4) aNil))))) (aCons (eMeth 2 m_Parted_shows (eVar 13) (aCons (eVar 0) (aCons (eVar 2) (aCons (eVar 3) (aCons (eVar 4) aNil))))) aNil)))) (gNm 7)) (sSeq (sIf (qOr (eOp neD (eFr (lLst (aCons (eFld 1 0 (eVar 12)) (aCons (eFld 1 1 (eVar 12)) (aCons (eFld 2 0 (eVar 13)) aNil))))) (eVar 5)) (qNot (qV (eB allB (aCons (eFr (lComp (wSeq (eVar 7)) (gNm 14) qYes (eIsi "bool" (eVar 14)) [14])) aNil))))) (sRet (eC (.bl false))) sNext) (sSeq (sAsg (eChain (i2 leI) (i2 ltI) (eVar 3) (eVar 11) (eVar 4)) (gNm 8)) (sSeq (sAsg (qAnd (eVar 8) (eCall m_q_is_apart (aCons (eVar 1) (aCons (eB lenB (aCons (eVar 0) aNil)) (aCons (eVar 11) aNil))))) (gNm 8)) (sRet (eOp eqD (eVar 7) (eFr (lLst (aCons (eVar 6) (aCons (eVar 8) aNil))))))))))))))
def m_q_right : List D → Option Out := fnSem 6 9 b_q_right
theorem ok_q_right (Z : Txt K mg) (Y : Txe K mg T) (C_q_is_one : Cl P w K mg base (CXf P w) T "_law_is_one" ["_law_middles_here", "_law_first", "_law_last"] 2 m_q_is_one) (C_One___init__ : ClI P w K mg base (CXf P w) (oA T 1) ["self", "first", "last"] 1 ["first", "last"]) (C_Parted___init__ : ClI P w K mg base (CXf P w) (oA T 2) ["self", "cut"] 1 ["cut"]) (C_One_shows : ClM P w K mg base (CXf P w) T (oA T 1) "shows" ["self", "row", "moment", "one", "other"] 9 m_One_shows) (C_Parted_shows : ClM P w K mg base (CXf P w) T (oA T 2) "shows" ["self", "row", "moment", "one", "other"] 8 m_Parted_shows) (C_q_is_apart : Cl P w K mg base (CXf P w) T "_law_is_apart" ["_law_middles_here", "_law_many", "_law_cut"] 2 m_q_is_apart) {f : Addr} {fd : FuncData} (F : FunD K "_law_right" "_law_right" s_q_right .none f fd) (hm : mg "_law_right" = some (.ref f)) (hb : Binds K fd ["_law_row_here", "_law_middles_here", "_law_moment_here", "_law_one", "_law_other", "_law_numbers"] []) : Cl P w K mg base (CXf P w) T "_law_right" ["_law_row_here", "_law_middles_here", "_law_moment_here", "_law_one", "_law_other", "_law_numbers"] 10 m_q_right :=
  ⟨f, fd, fnx_okJ (fb := b_q_right) (k := 9) F sc_q_right (by kernel_rfl) (by kernel_rfl) (fun cdv A outer s H E hr =>
    (jb_cons (js_asg (jv 5) (jg_lst (by kernel_rfl) (jgs_cons (jg_name (i := 9) sc_q_right.nd (by kernel_rfl) (Or.inl (by kernel_rfl))) (jgs_cons (jg_name (i := 10) sc_q_right.nd (by kernel_rfl) (Or.inl (by kernel_rfl))) (jgs_cons (jg_name (i := 11) sc_q_right.nd (by kernel_rfl) (Or.inl (by kernel_rfl))) jgs_nil))) (gl_cons (gl_cons (gl_cons gl_nil))))) (jb_cons (js_set (i := 6) sc_q_right.nd (by kernel_rfl) (Or.inl (by kernel_rfl)) (je_and (je_chain jp_le jp_le je_int (jv 9) (jv 3)) (je_one (je_chain jp_le jp_lt (jv 4) (jv 10) (je_callB jc_len (by kernel_rfl) Z.n_len (by decide +kernel) (ja_cons (jv 0) ja_nil)))))) (jb_cons (js_set (i := 6) sc_q_right.nd (by kernel_rfl) (Or.inl (by kernel_rfl)) (je_and (jv 6) (je_one (je_c C_q_is_one (hr.mono (by decide)) passF (by kernel_rfl) (ja_cons (jv 1) (ja_cons (jv 9) (ja_cons (jv 10) ja_nil))))))) (jb_cons (js_par (i := 12) (j := 13) (by kernel_rfl) sc_q_right.nd (by kernel_rfl) (by kernel_rfl) (by decide) (by kernel_rfl) (by kernel_rfl) (je_mk Y.o_One C_One___init__ (hr.mono (by decide)) (by kernel_rfl) passF (ja_cons (jv 9) (ja_cons (jv 10) ja_nil))) (je_mk Y.o_Parted C_Parted___init__ (hr.mono (by decide)) (by kernel_rfl) passF (ja_cons (jv 11) ja_nil))) (jb_cons (js_set (i := 7) sc_q_right.nd (by kernel_rfl) (Or.inl (by kernel_rfl)) (je_fr (jf_lst (ja_cons (je_meth Y.o_One (jv 12) C_One_shows (hr.mono (by decide)) passF (by decide) (ja_cons (jv 0) (ja_cons (jv 2) (ja_cons (jv 3) (ja_cons (jv 4) ja_nil))))) (ja_cons (je_meth Y.o_Parted (jv 13) C_Parted_shows (hr.mono (by decide)) passF (by decide) (ja_cons (jv 0) (ja_cons (jv 2) (ja_cons (jv 3) (ja_cons (jv 4) ja_nil))))) ja_nil))))) (jb_cons (js_if (JW.pt (jw_or (jt_cmp (jp_ne hr.units) (je_fr (jf_lst (ja_cons (je_fld Y.o_One (jv 12) (i := 0) (by kernel_rfl)) (ja_cons (je_fld Y.o_One (jv 12) (i := 1) (by kernel_rfl)) (ja_cons (je_fld Y.o_Parted (jv 13) (i := 0) (by kernel_rfl)) ja_nil))))) (jv 5) (nobehind _ (by decide) (by decide))) (jw_or1 (jt_not (jt_val (je_callB (jc_all (by kernel_rfl)) (by kernel_rfl) Z.n_all (by decide +kernel) (ja_cons (je_fr (jf_lc (own := [("_law_word", 14)]) (by kernel_rfl) sc_q_right.nd (ji_list (jv 7)) (blkOk_by (by kernel_rfl)) (fun _ _ _ _ _ => (jg_name (i := 14) sc_q_right.nd (by kernel_rfl) (Or.inl (by kernel_rfl)) (hf := Or.inr (by kernel_rfl)))) (fun _ _ _ _ _ => jts_nil) (fun _ _ _ _ _ => (je_isi (jv 14) (by kernel_rfl) Z.n_isinstance (by kernel_rfl) Z.n_bool (by decide +kernel))) (by decide))) ja_nil))))))) (jb_one (js_ret je_bl)) jb_nil) (jb_cons (js_set (i := 8) sc_q_right.nd (by kernel_rfl) (Or.inl (by kernel_rfl)) (je_chain jp_le jp_lt (jv 3) (jv 11) (jv 4))) (jb_cons (js_set (i := 8) sc_q_right.nd (by kernel_rfl) (Or.inl (by kernel_rfl)) (je_and (jv 8) (je_one (je_c C_q_is_apart (hr.mono (by decide)) passF (by kernel_rfl) (ja_cons (jv 1) (ja_cons (je_callB jc_len (by kernel_rfl) Z.n_len (by decide +kernel) (ja_cons (jv 0) ja_nil)) (ja_cons (jv 11) ja_nil))))))) (jb_one (js_ret (je_cmp (jp_eq hr.units) (jv 7) (je_fr (jf_lst (ja_cons (jv 6) (ja_cons (jv 8) ja_nil)))) (nobehind _ (by decide) (by decide)))))))))))))), hm, F.kp, hb⟩
abbrev s_law : Stmt := top 40
theorem sc_law : FnScope ["_law_script", "_law_whole", "_law_row_here", "_law_many", "_law_two", "_law_good", "_law_bad", "_law_at", "_law_cell", "_law_number_here", "_law_moment_here", "_law_middles_here", "_law_one", "_law_other", "_law_any_of", "_law_papers", "_law_paper", "_law_by_here"] ["_law_script"] (defScope s_law) := ⟨rfl, rfl, rfl, by decide +kernel, rfl, by decide +kernel, by decide +kernel⟩
def L1_law : MSv := (mIfS (mQ0 [] (qNot (qV (eCall m_q_right (aCons (eVar 2) (aCons (eVar 11) (aCons (eVar 10) (aCons (eVar 12) (aCons (eVar 13) (aCons (eVar 16) aNil)))))))))) (mRet (mL (eC (.bl false)))) mNext)
def L2_law : MSv := (mSeq (mSet (mL (eCall m_q_number (aCons (eVar 8) (aCons (eOp (i2 addI) (eVar 7) (eC (.int 5))) (aCons (eVar 1) aNil))))) 9) (mSeq (mSet (mL (eCall m_q_moment (aCons (eVar 9) aNil))) 10) (mSeq (mSet (mL (eCall m_q_middles (aCons (eVar 2) (aCons (eVar 10) aNil)))) 11) (mSeq (mSet (mL (eOp (i2 modI) (eOp (i2 divI) (eVar 9) (eC (.int 3))) (eOp (i2 subI) (eVar 3) (eC (.int 1))))) 12) (mSeq (mSet (mL (eOp (i2 addI) (eOp (i2 addI) (eVar 12) (eC (.int 1))) (eOp (i2 modI) (eOp (i2 divI) (eVar 9) (eC (.int 30))) (eOp (i2 subI) (eOp (i2 subI) (eVar 3) (eC (.int 1))) (eVar 12))))) 13) (mSeq (mSet (mL (eFr (lComp (wSeq (eFr (lLst (aCons (eC (.int 1)) (aCons (eC (.int 7)) (aCons (eC (.int 11)) aNil)))))) (gNm 17) qYes (eOp (i2 subI) (eOp (i2 modI) (eOp (i2 divI) (eVar 9) (eVar 17)) (eOp (i2 addI) (eVar 3) (eC (.int 2)))) (eC (.int 1))) [17]))) 14) (mSeq (mSet (mL (eFr (lLst (aCons (eFr (lLst (aCons (eC (.int 0)) (aCons (eOp (i2 subI) (eVar 3) (eC (.int 1))) (aCons (eVar 12) aNil))))) (aCons (eFr (lLst (aCons (eVar 12) (aCons (eVar 13) (aCons (eOp (i2 subI) (eVar 13) (eC (.int 1))) aNil))))) (aCons (eVar 14) aNil)))))) 15) (mSeq (mSet (mL (eFr (lCat (eVar 15) (eFr (lLst (aCons (eFr (lLst (aCons (eNeg (eC (.int 1))) (aCons (eVar 13) (aCons (eNeg (eC (.int 1))) aNil))))) (aCons (eFr (lLst (aCons (eVar 12) (aCons (eVar 3) (aCons (eVar 3) aNil))))) (aCons (eFr (lLst (aCons (eC (.int 0)) (aCons (eVar 13) (aCons (eOp ixD (eVar 14) (eC (.int 0))) aNil))))) (aCons (eFr (lLst (aCons (eVar 13) (aCons (eVar 12) (aCons (eOp (i2 addI) (eVar 12) (eOp (i2 powI) (eC (.int 10)) (eC (.int 20)))) aNil))))) aNil))))))))) 15) (mFor (wSeqM (mL (eVar 15))) (gNm 16) L1_law)))))))))
def B_law : MSv := (mSeq (mSet (mL (eB sumB (aCons (eFr (lSlice (eVar 0) oNone (oSome (eC (.int 63))))) aNil))) 1) (mSeq (mSet (mL (eCall m_q_row (aCons (eVar 0) (aCons (eC (.int 0)) (aCons (eC (.bl false)) (aCons (eIf (eOp eqD (eOp (i2 modI) (eVar 1) (eC (.int 16))) (eC (.int 5))) (eC (.int 10)) (eC (.int 5))) aNil)))))) 2) (mSeq (mIfS (mQ0 [] (eOp eqD (eB lenB (aCons (eVar 2) aNil)) (eC (.int 1)))) (mSet (mL (eFr (lCat (eVar 2) (eFr (lLst (aCons (eTup (aCons (eC (.int 3)) (aCons (eCall m_q_sum (aCons (eOp ixD (eOp ixD (eVar 2) (eC (.int 0))) (eC (.int 1))) (aCons (eTup (aCons (eC (.int 1)) (aCons (eC (.int 1)) aNil))) aNil))) (aCons (eCall m_q_sum (aCons (eOp ixD (eOp ixD (eVar 2) (eC (.int 0))) (eC (.int 2))) (aCons (eTup (aCons (eNeg (eC (.int 1))) (aCons (eC (.int 1)) aNil))) aNil))) aNil)))) aNil)))))) 2) mNext) (mSeq (mSet (mL (eB lenB (aCons (eVar 2) aNil))) 3) (mSeq (mFor (wArgM kEnum (mCons (mL (eFr (lCat (eFr (lLst (aCons (eVar 1) aNil))) (eFr (lSlice (eVar 0) oNone (oSome (eC (.int 1)))))))) mNil)) (gTp (gsCons (gNm 7) (gsCons (gNm 8) gsNil))) L2_law) (mSeq (mSet (mL (eFr (lLst (aCons (eTup (aCons (eC (.int 1)) (aCons (eTup (aCons (eC (.int 0)) (aCons (eC (.int 1)) aNil))) (aCons (eTup (aCons (eC (.int 1)) (aCons (eC (.int 1)) aNil))) aNil)))) (aCons (eTup (aCons (eC (.int 3)) (aCons (eTup (aCons (eC (.int 2)) (aCons (eC (.int 1)) aNil))) (aCons (eTup (aCons (eNeg (eC (.int 1))) (aCons (eC (.int 1)) aNil))) aNil)))) aNil))))) 4) (mSeq (mSet (mL (eFr (lLst (aCons (eMeth 1 m_One_shows (eMake 1 2 (aCons (eC (.int 0)) (aCons (eC (.int 1)) aNil))) (aCons (eVar 4) (aCons (eTup (aCons (eC (.int 1)) (aCons (eC (.int 1)) aNil))) (aCons (eC (.int 0)) (aCons (eC (.int 1)) aNil))))) (aCons (eMeth 2 m_Parted_shows (eMake 2 1 (aCons (eC (.int 0)) aNil)) (aCons (eVar 4) (aCons (eTup (aCons (eC (.int 1)) (aCons (eC (.int 2)) aNil))) (aCons (eC (.int 0)) (aCons (eC (.int 1)) aNil))))) aNil))))) 5) (mSeq (mSet (mNew (lLst (aCons (eMeth 1 m_One_shows (eMake 1 2 (aCons (eC (.int 0)) (aCons (eC (.int 1)) aNil))) (aCons (eVar 4) (aCons (eTup (aCons (eC (.int 1)) (aCons (eC (.int 2)) aNil))) (aCons (eC (.int 0)) (aCons (eC (.int 1)) aNil))))) (aCons (eMeth 2 m_Parted_shows (eMake 2 1 (aCons (eC (.int 0)) aNil)) (aCons (eVar 4) (aCons (eTup (aCons (eC (.int 1)) (aCons (eC (.int 1)) aNil))) (aCons (eC (.int 0)) (aCons (eC (.int 1)) aNil))))) aNil)))) 6) (mSeq (mCApp (mL (eVar 6)) (mL (eMeth 1 m_One_shows (eMake 1 2 (aCons (eC (.int 0)) (aCons (eOp (i2 powI) (eC (.int 10)) (eC (.int 20))) aNil))) (aCons (eVar 4) (aCons (eTup (aCons (eC (.int 1)) (aCons (eC (.int 1)) aNil))) (aCons (eC (.int 0)) (aCons (eC (.int 1)) aNil))))))) (mRet (mS0 [6] (qAnd (eOp eqD (eVar 5) (eFr (lLst (aCons (eC (.bl true)) (aCons (eC (.bl true)) aNil))))) (eOp eqD (eVar 6) (eFr (lLst (aCons (eC (.bl false)) (aCons (eC (.bl false)) (aCons (eC (.bl false)) aNil))))))))))))))))))
def M_law : List D → Mem → Option (Out × Mem) := fnSemM 1 17 B_law
theorem okM_law_fn (Z : Txt K mg) (Y : Txe K mg T) (hh : T.hd = none) (C_q_row : AllT T fun T => ClD P w K mg base (CXf P w) T "_law_row" ["_law_script", "_law_by_here", "_law_alike", "_law_most"] 2 m_q_row 10) (CF_q_row : AllT T fun T => Cl P w K mg base (CXf P w) T "_law_row" ["_law_script", "_law_by_here", "_law_alike", "_law_most"] 2 m_q_row) (C_q_sum : AllT T fun T => Cl P w K mg base (CXf P w) T "_law_sum" ["_law_one", "_law_other"] 2 m_q_sum) (C_q_number : AllT T fun T => Cl P w K mg base (CXf P w) T "_law_number" ["_law_cell", "_law_at", "_law_whole"] 1 m_q_number) (C_q_moment : AllT T fun T => Cl P w K mg base (CXf P w) T "_law_moment" ["_law_number_here"] 2 m_q_moment) (C_q_middles : AllT T fun T => Cl P w K mg base (CXf P w) T "_law_middles" ["_law_row_here", "_law_moment_here"] 4 m_q_middles) (C_q_right : AllT T fun T => Cl P w K mg base (CXf P w) T "_law_right" ["_law_row_here", "_law_middles_here", "_law_moment_here", "_law_one", "_law_other", "_law_numbers"] 10 m_q_right) (C_One___init__ : AllT T fun T => ClI P w K mg base (CXf P w) (oA T 1) ["self", "first", "last"] 1 ["first", "last"]) (C_One_shows : AllT T fun T => ClM P w K mg base (CXf P w) T (oA T 1) "shows" ["self", "row", "moment", "one", "other"] 9 m_One_shows) (C_Parted___init__ : AllT T fun T => ClI P w K mg base (CXf P w) (oA T 2) ["self", "cut"] 1 ["cut"]) (C_Parted_shows : AllT T fun T => ClM P w K mg base (CXf P w) T (oA T 2) "shows" ["self", "row", "moment", "one", "other"] 8 m_Parted_shows) {f : Addr} {fd : FuncData} (F : FunD K "law" "law" s_law .none f fd) : FnOk P w K mg base (CXf P w) 11 f fd ["_law_script"] (spM T K M_law) :=
  fnS_okJ (fb := B_law) (k := 10) F sc_law (by kernel_rfl) (by kernel_rfl) (fun cdv A outer s H E hr =>
    (jb_consM (js_setM (i := 1) sc_law.nd (by kernel_rfl) (Or.inl (by kernel_rfl)) (jm_lift Y.tab (fun φ => (je_callB (jc_sum (by kernel_rfl)) (by kernel_rfl) Z.n_sum (by decide +kernel) (ja_cons (je_fr (jf_slice (jv 0) jo_none (jo_some je_int))) ja_nil))))) (jb_consM (js_setM (i := 2) sc_law.nd (by kernel_rfl) (Or.inl (by kernel_rfl)) (jm_lift Y.tab (fun φ => (je_c (CF_q_row φ false) (hr.mono (by decide)) passF (by kernel_rfl) (ja_cons (jv 0) (ja_cons je_int (ja_cons je_bl (ja_cons (je_if (jt_cmp (jp_eq hr.units) (je_op jp_mod (jv 1) je_int) je_int (nobehind _ (by decide) (by decide))) je_int je_int) ja_nil)))))))) (jb_consM (js_ifM (jmt_see0 (is := []) (fun φ => (jt_cmp (jp_eq hr.units) (je_callB jc_len (by kernel_rfl) Z.n_len (by decide +kernel) (ja_cons (jv 2) ja_nil)) je_int (nobehind _ (by decide) (by decide))))) (jb_oneM (js_setM (i := 2) sc_law.nd (by kernel_rfl) (Or.inl (by kernel_rfl)) (jm_lift Y.tab (fun φ => (je_fr (jf_cat (jv 2) (je_fr (jf_lst (ja_cons (je_tup (ja_cons je_int (ja_cons (je_c (C_q_sum φ false) (hr.mono (by decide)) passF (by kernel_rfl) (ja_cons (je_ix (je_ix (jv 2) je_int) je_int) (ja_cons (je_tup (ja_cons je_int (ja_cons je_int ja_nil))) ja_nil))) (ja_cons (je_c (C_q_sum φ false) (hr.mono (by decide)) passF (by kernel_rfl) (ja_cons (je_ix (je_ix (jv 2) je_int) je_int) (ja_cons (je_tup (ja_cons (je_neg je_int) (ja_cons je_int ja_nil))) ja_nil))) ja_nil)))) ja_nil))))))))) jb_nilM) (jb_consM (js_setM (i := 3) sc_law.nd (by kernel_rfl) (Or.inr (by kernel_rfl)) (jm_lift Y.tab (fun φ => (je_callB jc_len (by kernel_rfl) Z.n_len (by decide +kernel) (ja_cons (jv 2) ja_nil))))) (jb_consM (js_forM Y.tab passL (by kernel_rfl) (mi_enum (by kernel_rfl) Z.n_enumerate (ja_consM (jm_lift Y.tab (fun φ => (je_fr (jf_cat (je_fr (jf_lst (ja_cons (jv 1) ja_nil))) (je_fr (jf_slice (jv 0) jo_none (jo_some je_int))))))) ja_nilM)) (fun φ => (jg_tup (by kernel_rfl) (jgs_cons (jg_name (i := 7) sc_law.nd (by kernel_rfl) (Or.inl (by kernel_rfl))) (jgs_cons (jg_name (i := 8) sc_law.nd (by kernel_rfl) (Or.inl (by kernel_rfl))) jgs_nil)) (gl_cons (gl_cons gl_nil)))) (jb_consM (js_setM (i := 9) sc_law.nd (by kernel_rfl) (Or.inr (by kernel_rfl)) (jm_lift Y.tab (fun φ => (je_c (C_q_number φ false) (hr.mono (by decide)) passF (by kernel_rfl) (ja_cons (jv 8) (ja_cons (je_op jp_add (jv 7) je_int) (ja_cons (jv 1) ja_nil))))))) (jb_consM (js_setM (i := 10) sc_law.nd (by kernel_rfl) (Or.inl (by kernel_rfl)) (jm_lift Y.tab (fun φ => (je_c (C_q_moment φ false) (hr.mono (by decide)) passF (by kernel_rfl) (ja_cons (jv 9 (hv := Or.inr (Or.inl (by kernel_rfl)))) ja_nil))))) (jb_consM (js_setM (i := 11) sc_law.nd (by kernel_rfl) (Or.inl (by kernel_rfl)) (jm_lift Y.tab (fun φ => (je_c (C_q_middles φ false) (hr.mono (by decide)) passF (by kernel_rfl) (ja_cons (jv 2) (ja_cons (jv 10) ja_nil)))))) (jb_consM (js_setM (i := 12) sc_law.nd (by kernel_rfl) (Or.inl (by kernel_rfl)) (jm_lift Y.tab (fun φ => (je_op jp_mod (je_op jp_div (jv 9 (hv := Or.inr (Or.inl (by kernel_rfl)))) je_int) (je_op jp_sub (jv 3 (hv := Or.inr (Or.inl (by kernel_rfl)))) je_int))))) (jb_consM (js_setM (i := 13) sc_law.nd (by kernel_rfl) (Or.inl (by kernel_rfl)) (jm_lift Y.tab (fun φ => (je_op jp_add (je_op jp_add (jv 12) je_int) (je_op jp_mod (je_op jp_div (jv 9 (hv := Or.inr (Or.inl (by kernel_rfl)))) je_int) (je_op jp_sub (je_op jp_sub (jv 3 (hv := Or.inr (Or.inl (by kernel_rfl)))) je_int) (jv 12))))))) (jb_consM (js_a1 (i := 14) Y.tab (fun φ => JAF.fr (ja_setLc (i := 14) (own := [("_law_by_here", 17)]) (by kernel_rfl) sc_law.nd (by kernel_rfl) (by kernel_rfl) (sw_true (by kernel_rfl) (by kernel_rfl) (by kernel_rfl) (by kernel_rfl)) (ji_list (je_fr (jf_lst (ja_cons je_int (ja_cons je_int (ja_cons je_int ja_nil)))))) (blkOk_by (by kernel_rfl)) (fun _ _ _ _ _ => (jg_name (i := 17) sc_law.nd (by kernel_rfl) (Or.inl (by kernel_rfl)) (hf := Or.inr (by kernel_rfl)))) (fun _ _ _ _ _ => jts_nil) (fun _ _ _ _ _ => (je_op jp_sub (je_op jp_mod (je_op jp_div (jv 9 (hv := Or.inr (Or.inl (by kernel_rfl)))) (jv 17)) (je_op jp_add (jv 3 (hv := Or.inr (Or.inl (by kernel_rfl)))) je_int)) je_int)) (by decide)))) (jb_consM (js_setM (i := 15) sc_law.nd (by kernel_rfl) (Or.inl (by kernel_rfl)) (jm_lift Y.tab (fun φ => (je_fr (jf_lst (ja_cons (je_fr (jf_lst (ja_cons je_int (ja_cons (je_op jp_sub (jv 3 (hv := Or.inr (Or.inl (by kernel_rfl)))) je_int) (ja_cons (jv 12) ja_nil))))) (ja_cons (je_fr (jf_lst (ja_cons (jv 12) (ja_cons (jv 13) (ja_cons (je_op jp_sub (jv 13) je_int) ja_nil))))) (ja_cons (jv 14) ja_nil)))))))) (jb_consM (js_setM (i := 15) sc_law.nd (by kernel_rfl) (Or.inl (by kernel_rfl)) (jm_lift Y.tab (fun φ => (je_fr (jf_cat (jv 15) (je_fr (jf_lst (ja_cons (je_fr (jf_lst (ja_cons (je_neg je_int) (ja_cons (jv 13) (ja_cons (je_neg je_int) ja_nil))))) (ja_cons (je_fr (jf_lst (ja_cons (jv 12) (ja_cons (jv 3 (hv := Or.inr (Or.inl (by kernel_rfl)))) (ja_cons (jv 3 (hv := Or.inr (Or.inl (by kernel_rfl)))) ja_nil))))) (ja_cons (je_fr (jf_lst (ja_cons je_int (ja_cons (jv 13) (ja_cons (je_ix (jv 14) je_int) ja_nil))))) (ja_cons (je_fr (jf_lst (ja_cons (jv 13) (ja_cons (jv 12) (ja_cons (je_op jp_add (jv 12) (je_op jp_pow je_int je_int)) ja_nil))))) ja_nil))))))))))) (jb_oneM (js_forM Y.tab passL (by kernel_rfl) (mi_list (jm_lift Y.tab (fun φ => (jv 15)))) (fun φ => (jg_name (i := 16) sc_law.nd (by kernel_rfl) (Or.inl (by kernel_rfl)))) (jb_oneM (js_ifM (jmt_see0 (is := []) (fun φ => (jt_not (jt_val (je_c (C_q_right φ true) (hr.mono (by decide)) passF (by kernel_rfl) (ja_cons (jv 2) (ja_cons (jv 11) (ja_cons (jv 10) (ja_cons (jv 12) (ja_cons (jv 13) (ja_cons (jv 16) ja_nil))))))))))) (jb_oneM (js_retM (jm_lift Y.tab (fun φ => je_bl)))) jb_nilM))))))))))))) (jb_consM (js_setM (i := 4) sc_law.nd (by kernel_rfl) (Or.inl (by kernel_rfl)) (jm_lift Y.tab (fun φ => (je_fr (jf_lst (ja_cons (je_tup (ja_cons je_int (ja_cons (je_tup (ja_cons je_int (ja_cons je_int ja_nil))) (ja_cons (je_tup (ja_cons je_int (ja_cons je_int ja_nil))) ja_nil)))) (ja_cons (je_tup (ja_cons je_int (ja_cons (je_tup (ja_cons je_int (ja_cons je_int ja_nil))) (ja_cons (je_tup (ja_cons (je_neg je_int) (ja_cons je_int ja_nil))) ja_nil)))) ja_nil))))))) (jb_consM (js_setM (i := 5) sc_law.nd (by kernel_rfl) (Or.inl (by kernel_rfl)) (jm_lift Y.tab (fun φ => (je_fr (jf_lst (ja_cons (je_meth (Y.tr φ false T.hd).o_One (je_mk (Y.tr φ false T.hd).o_One (C_One___init__ φ false) (hr.mono (by decide)) (by kernel_rfl) passF (ja_cons je_int (ja_cons je_int ja_nil))) (C_One_shows φ false) (hr.mono (by decide)) passF (by decide) (ja_cons (jv 4) (ja_cons (je_tup (ja_cons je_int (ja_cons je_int ja_nil))) (ja_cons je_int (ja_cons je_int ja_nil))))) (ja_cons (je_meth (Y.tr φ false T.hd).o_Parted (je_mk (Y.tr φ false T.hd).o_Parted (C_Parted___init__ φ false) (hr.mono (by decide)) (by kernel_rfl) passF (ja_cons je_int ja_nil)) (C_Parted_shows φ false) (hr.mono (by decide)) passF (by decide) (ja_cons (jv 4) (ja_cons (je_tup (ja_cons je_int (ja_cons je_int ja_nil))) (ja_cons je_int (ja_cons je_int ja_nil))))) ja_nil))))))) (jb_consM (js_setM (i := 6) sc_law.nd (by kernel_rfl) (Or.inl (by kernel_rfl)) (jm_new Y.tab (fun φ => (jf_lst (ja_cons (je_meth (Y.tr φ false T.hd).o_One (je_mk (Y.tr φ false T.hd).o_One (C_One___init__ φ false) (hr.mono (by decide)) (by kernel_rfl) passF (ja_cons je_int (ja_cons je_int ja_nil))) (C_One_shows φ false) (hr.mono (by decide)) passF (by decide) (ja_cons (jv 4) (ja_cons (je_tup (ja_cons je_int (ja_cons je_int ja_nil))) (ja_cons je_int (ja_cons je_int ja_nil))))) (ja_cons (je_meth (Y.tr φ false T.hd).o_Parted (je_mk (Y.tr φ false T.hd).o_Parted (C_Parted___init__ φ false) (hr.mono (by decide)) (by kernel_rfl) passF (ja_cons je_int ja_nil)) (C_Parted_shows φ false) (hr.mono (by decide)) passF (by decide) (ja_cons (jv 4) (ja_cons (je_tup (ja_cons je_int (ja_cons je_int ja_nil))) (ja_cons je_int (ja_cons je_int ja_nil))))) ja_nil)))))) (jb_consM (js_capp (jm_lift Y.tab (fun φ => (jv 6))) (jm_lift Y.tab (fun φ => (je_meth (Y.tr φ false T.hd).o_One (je_mk (Y.tr φ false T.hd).o_One (C_One___init__ φ false) (hr.mono (by decide)) (by kernel_rfl) passF (ja_cons je_int (ja_cons (je_op jp_pow je_int je_int) ja_nil))) (C_One_shows φ false) (hr.mono (by decide)) passF (by decide) (ja_cons (jv 4) (ja_cons (je_tup (ja_cons je_int (ja_cons je_int ja_nil))) (ja_cons je_int (ja_cons je_int ja_nil)))))))) (jb_oneM (js_retM (jm_see0 (is := [6]) Y.tab (fun φ => (je_and (je_cmp (jp_eq hr.units) (jv 5) (je_fr (jf_lst (ja_cons je_bl (ja_cons je_bl ja_nil)))) (nobehind _ (by decide) (by decide))) (je_one (je_cmp (jp_eq hr.units) (jv 6) (je_fr (jf_lst (ja_cons je_bl (ja_cons je_bl (ja_cons je_bl ja_nil))))) (nobehind _ (by decide) (by decide)))))))))))))))))))
end
end BD
namespace BD
open PySem L2
theorem fmod_pos {a b : Int} (h : 0 < b) : a.fmod b = a % b := Int.fmod_eq_emod_of_nonneg a (by omega)
theorem fdiv_pos {a b : Int} (h : 0 < b) : a.fdiv b = a / b := Int.fdiv_eq_ediv_of_nonneg a (by omega)
theorem gcd_step (a b : Int) (h : 0 < b) : Int.gcd b (a % b) = Int.gcd a b := by
  have e : a % b = a - b * (a / b) := Int.emod_def a b
  apply Nat.dvd_antisymm
  · refine Int.natCast_dvd_natCast.mp (Int.dvd_coe_gcd ?_ (Int.gcd_dvd_left ..))
    have h1 : (Int.gcd b (a % b) : Int) ∣ b := Int.gcd_dvd_left ..
    have h2 : (Int.gcd b (a % b) : Int) ∣ a % b := Int.gcd_dvd_right ..
    have h3 := Int.dvd_add h2 (Int.dvd_trans h1 (Int.dvd_mul_right b (a / b)))
    rwa [e, Int.sub_add_cancel, ← e] at h3
  · refine Int.natCast_dvd_natCast.mp (Int.dvd_coe_gcd (Int.gcd_dvd_right ..) ?_)
    rw [e]
    exact Int.dvd_sub (Int.gcd_dvd_left ..) (Int.dvd_trans (Int.gcd_dvd_right ..) (Int.dvd_mul_right b (a / b)))
theorem is_whole_int (a : Int) : m_is_whole [.int a] = some (.val (.bl true)) := by
  simp [m_is_whole, b_is_whole, fnSem, sRet, sbnd, qAnd, obnd, eIsi, eVar, ov, isiB, tyD, isiN, qNot]
theorem common_loop (n : Nat) : ∀ (a b : Int), 0 ≤ a → 0 ≤ b → b.natAbs < n →
    whileS (qV (eVar 1)) (sPar 0 1 (eVar 1) (eOp (i2 modI) (eVar 0) (eVar 1))) n [some (.sh (.int a)), some (.sh (.int b))] = some (.nx [some (.sh (.int (Int.gcd a b))), some (.sh (.int 0))]) := by
  induction n with
  | zero => intro a b _ _ h; omega
  | succ n ih =>
    intro a b ha hb hn
    by_cases h0 : b = 0
    · subst h0
      have : (a.natAbs : Int) = a := by omega
      simp [whileS, sbnd, qV, obnd, eVar, truthD, ov, this]
    · have hb' : 0 < b := by omega
      have h1 := Int.emod_nonneg a h0
      have h2 := Int.emod_lt_of_pos a hb'
      have e := ih b (a % b) hb h1 (by omega)
      rw [gcd_step a b hb'] at e
      have hne : (b != 0) = true := by simp [h0]
      simp [whileS, sbnd, qV, obnd, eVar, truthD, ov, h0, hne, sPar, eOp, i2, modI, fmod_pos hb']
      exact e
theorem common_pos (a b : Int) (h : 0 < b) : m_common [.int a, .int b] = some (.val (.int (Int.gcd a b))) := by
  have h0 : b ≠ 0 := by omega
  have h1 := Int.emod_nonneg a h0
  have h2 := Int.emod_lt_of_pos a h
  have e := common_loop (a.natAbs + (b.natAbs + 1)) b (a % b) (by omega) h1 (by omega)
  rw [gcd_step a b h] at e
  have hf : fuelR [some (.sh (.int a)), some (.sh (.int b))] = (a.natAbs + (b.natAbs + 1)) + 1 := by simp [fuelR]; omega
  have e2 : whileS (qV (eVar 1)) (sPar 0 1 (eVar 1) (eOp (i2 modI) (eVar 0) (eVar 1))) ((a.natAbs + (b.natAbs + 1)) + 1) [some (.sh (.int a)), some (.sh (.int b))] = some (.nx [some (.sh (.int (Int.gcd a b))), some (.sh (.int 0))]) := by
    rw [whileS]
    have hne : (b != 0) = true := by simp [h0]
    simp [sbnd, qV, obnd, eVar, truthD, ov, h0, hne, sPar, eOp, i2, modI, fmod_pos h]
    exact e
  simp [m_common, b_common, fnSem, sSeq, sWhile, hf, e2, sRet, sbnd, eVar]
theorem low_loop (t u : D) (n : Nat) : ∀ (a b : Int), 0 ≤ a → 0 ≤ b → b.natAbs < n →
    whileS (eOp (i2 gtI) (eVar 3) (eC (.int 0))) (sPar 2 3 (eVar 3) (eOp (i2 modI) (eVar 2) (eVar 3))) n [some (.sh t), some (.sh u), some (.sh (.int a)), some (.sh (.int b))] = some (.nx [some (.sh t), some (.sh u), some (.sh (.int (Int.gcd a b))), some (.sh (.int 0))]) := by
  induction n with
  | zero => intro a b _ _ h; omega
  | succ n ih =>
    intro a b ha hb hn
    by_cases h0 : b = 0
    · subst h0
      have : (a.natAbs : Int) = a := by omega
      simp [whileS, sbnd, eOp, obnd, eVar, eC, i2, gtI, ov, this]
    · have hb' : 0 < b := by omega
      have h1 := Int.emod_nonneg a h0
      have h2 := Int.emod_lt_of_pos a hb'
      have e := ih b (a % b) hb h1 (by omega)
      rw [gcd_step a b hb'] at e
      simp [whileS, sbnd, obnd, eVar, eC, gtI, ov, h0, hb', sPar, eOp, i2, modI, fmod_pos hb']
      exact e
def shr (a b : Int) : D := .tup [.int (a / Int.gcd a b), .int (b / Int.gcd a b)]
theorem gcd_pos {a b : Int} (h : 0 < b) : (0 : Int) < Int.gcd a b := by
  have : 0 < Int.gcd a b := Int.gcd_pos_of_ne_zero_right a (by omega)
  omega
theorem low_pos (a b : Int) (h : 0 < b) (hs : (Int.gcd a b).log2 < 9000) : m_q_low [.int a, .int b] = some (.val (shr a b)) := by
  have h0 : b ≠ 0 := by omega
  have ha : (if a < 0 then -a else a) = (a.natAbs : Int) := by split <;> omega
  have e := low_loop (.int a) (.int b) (fuelR [some (.sh (.int a)), some (.sh (.int b)), some (.sh (.int a.natAbs)), some (.sh (.int b))]) a.natAbs b (by omega) (by omega) (by simp [fuelR]; omega)
  have hg : Int.gcd a.natAbs b = Int.gcd a b := by simp [Int.gcd]
  rw [hg] at e
  have gp := gcd_pos (a := a) h
  have g0 : ¬ Int.gcd a b = 0 := by omega
  simp [m_q_low, b_q_low, fnSem, sSeq, sWhile, sPar, sbnd, eB, lbnd, aCons, aNil, obndL, lbndL, eVar, absB, ov, ha, e, sRet, eTup, eOp, obnd, i2, divI, g0, hs, smallL, shr, fdiv_pos gp]
end BD
namespace BD
open PySem L2
structure Sh (a b : Int) : Prop where
  pos : 0 < b
  one : Int.gcd a b = 1
def sh (a b : Int) : D := .tup [.int a, .int b]
theorem gcd_div {a b : Int} (h : 0 < b) : Int.gcd (a / Int.gcd a b) (b / Int.gcd a b) = 1 :=
  Int.gcd_ediv_gcd_ediv_gcd (Int.gcd_pos_of_ne_zero_right a (by omega))
theorem div_mul {a b : Int} : a / Int.gcd a b * Int.gcd a b = a := Int.ediv_mul_cancel (Int.gcd_dvd_left ..)
theorem div_mul' {a b : Int} : b / Int.gcd a b * Int.gcd a b = b := Int.ediv_mul_cancel (Int.gcd_dvd_right ..)
theorem shr_sh {a b : Int} (h : 0 < b) : ∃ p q k, shr a b = sh p q ∧ Sh p q ∧ 0 < k ∧ p * k = a ∧ q * k = b := by
  refine ⟨a / Int.gcd a b, b / Int.gcd a b, Int.gcd a b, rfl, ⟨?_, gcd_div h⟩, gcd_pos h, div_mul, div_mul'⟩
  have g := gcd_pos (a := a) h
  have e : b / Int.gcd a b * Int.gcd a b = b := div_mul'
  exact Int.pos_of_mul_pos_left (by rw [e]; exact h) g
end BD
namespace BD
open PySem L2
def Bd (n : Nat) (i : Int) : Prop := i.natAbs < 2 ^ n
theorem Bd.mono {m n : Nat} {i : Int} (h : Bd m i) (l : m ≤ n) : Bd n i := Nat.lt_of_lt_of_le h (Nat.pow_le_pow_right (by decide) l)
theorem Bd.mul {m n : Nat} {i j : Int} (h : Bd m i) (k : Bd n j) : Bd (m + n) (i * j) := by
  unfold Bd at *
  rw [Int.natAbs_mul, Nat.pow_add]
  exact Nat.mul_lt_mul'' h k
theorem Bd.add {n : Nat} {i j : Int} (h : Bd n i) (k : Bd n j) : Bd (n + 1) (i + j) := by
  unfold Bd at *
  rw [Nat.pow_succ]
  omega
theorem Bd.neg {n : Nat} {i : Int} (h : Bd n i) : Bd n (-i) := by unfold Bd at *; omega
theorem Bd.log {n : Nat} {i : Int} (h : Bd n i) (hn : 0 < n) : i.natAbs.log2 < n := by
  by_cases h0 : i.natAbs = 0
  · rw [h0]; have : Nat.log2 0 = 0 := by decide
    omega
  · exact (Nat.log2_lt h0).mpr h
theorem Bd.small {n : Nat} {i : Int} (h : Bd n i) (hn : n ≤ 50000000) : smallI i = true := by
  refine decide_eq_true ?_
  have := (h.mono (Nat.le_succ n)).log (Nat.succ_pos n)
  omega
theorem Bd.gcd {n : Nat} {a b : Int} (h : Bd n b) (hb : 0 < b) : Bd n (Int.gcd a b) := by
  unfold Bd at *
  have : Int.gcd a b ∣ b.natAbs := by
    have := Int.natAbs_dvd_natAbs.mpr (Int.gcd_dvd_right a b)
    simpa using this
  have := Nat.le_of_dvd (by omega) this
  omega
structure Shn (n : Nat) (a b : Int) : Prop where
  s : Sh a b
  ba : Bd n a
  bb : Bd n b
theorem Shn.mono {m n : Nat} {a b : Int} (h : Shn m a b) (l : m ≤ n) : Shn n a b := ⟨h.s, h.ba.mono l, h.bb.mono l⟩
theorem abs_le_of_mul {p k a : Int} (h : p * k = a) (hk : 0 < k) : p.natAbs ≤ a.natAbs := by
  rw [← h, Int.natAbs_mul]
  exact Nat.le_mul_of_pos_right _ (by omega)
theorem shr_shn {n : Nat} {a b : Int} (h : 0 < b) (ha : Bd n a) (hb : Bd n b) : ∃ p q k, shr a b = sh p q ∧ Shn n p q ∧ 0 < k ∧ p * k = a ∧ q * k = b := by
  obtain ⟨p, q, k, e, s, hk, e1, e2⟩ := shr_sh (a := a) h
  refine ⟨p, q, k, e, ⟨s, ?_, ?_⟩, hk, e1, e2⟩
  · exact Nat.lt_of_le_of_lt (abs_le_of_mul e1 hk) ha
  · exact Nat.lt_of_le_of_lt (abs_le_of_mul e2 hk) hb
theorem lowest_pos {n : Nat} {a b : Int} (hb : 0 < b) (h : Bd n b) (hn : n ≤ 8000) : m_lowest [.int a, .int b] = some (.val (shr a b)) := by
  have h0 : ¬ b < 0 := by omega
  have gp := gcd_pos (a := a) hb
  have g0 : ¬ Int.gcd a b = 0 := by omega
  have lg : (Int.gcd a b).log2 < 9000 := by
    have := ((Bd.gcd (a := a) h hb).mono (Nat.le_succ n)).log (Nat.succ_pos n)
    simp at this
    omega
  simp [m_lowest, b_lowest, fnSem, sSeq, sIf, sbnd, eOp, obnd, eVar, eC, i2, ltI, ov, h0, sNext, sAsg, eCall, lbnd, aCons, aNil, obndL, lbndL, common_pos a b hb, gNm, sRet, eTup, divI, g0, lg, smallL, shr, fdiv_pos gp]
end BD
namespace BD
open PySem L2
theorem q_number {n : Nat} {cell at' whole : Int} (hc : Bd n cell) (hw : Bd n whole) (h0 : 0 ≤ at') (h1 : at' ≤ 2000) (hn : n ≤ 20000000) (hn0 : 40 ≤ n) : ∃ N, m_q_number [.int cell, .int at', .int whole] = some (.val (.int N)) := by
  have b977 : Bd 10 977 := by unfold Bd; decide
  have bat : Bd 11 at' := by unfold Bd; omega
  have b31 : Bd 5 31 := by unfold Bd; decide
  have b7 : Bd 3 7 := by unfold Bd; decide
  have b48 : Bd 16 48271 := by unfold Bd; decide
  have k1 : Bd 21 (977 * at') := b977.mul bat
  have k2 : Bd (n + 1) (cell + 977 * at') := hc.add (k1.mono (by omega))
  have hm : 0 ≤ ((cell + 977 * at') * 48271 + whole).fmod 2147483647 ∧ ((cell + 977 * at') * 48271 + whole).fmod 2147483647 < 2147483647 := by
    rw [fmod_pos (by decide)]
    exact ⟨Int.emod_nonneg _ (by decide), Int.emod_lt_of_pos _ (by decide)⟩
  generalize hM : ((cell + 977 * at') * 48271 + whole).fmod 2147483647 = M at hm
  have bM : Bd 31 M := by unfold Bd; omega
  have k3 : Bd 32 (M + 31 * at' + 7) := by unfold Bd; omega
  have k4 : Bd 63 (M * (M + 31 * at' + 7)) := bM.mul k3
  have k5 : Bd (n + 2) (M + cell + 5) := ((bM.mono (by omega : 31 ≤ n)).add hc).add ((by unfold Bd; decide : Bd 3 5).mono (by omega))
  have k6 : Bd (63 + (n + 2)) (M * (M + 31 * at' + 7) * (M + cell + 5)) := k4.mul k5
  have k7 : Bd (63 + (n + 2) + 1) (M * (M + 31 * at' + 7) * (M + cell + 5) + 48271) := k6.add (b48.mono (by omega))
  have z1 := b977.small (by omega)
  have z2 := bat.small (by omega)
  have z3 := k2.small (by omega)
  have z4 := b48.small (by omega)
  have z5 := b31.small (by omega)
  have z6 := bM.small (by omega)
  have z7 := k3.small (by omega)
  have z8 := k4.small (by omega)
  have z9 := k5.small (by omega)
  have z10 := k6.small (by omega)
  have z11 := k7.small (by omega)
  have lg : Nat.log2 1009 < 9000 := by decide
  by_cases hb : (1000000000000000000 : Int) ≤ cell
  · exact ⟨cell, by simp [m_q_number, b_q_number, fnSem, sSeq, sIf, sbnd, eOp, obnd, eVar, eC, i2, geI, powI, ov, sRet, hb]⟩
  · refine ⟨(M * (M + 31 * at' + 7) * (M + cell + 5) * (M * (M + 31 * at' + 7) * (M + cell + 5) + 48271)).fdiv 1009, ?_⟩
    simp [m_q_number, b_q_number, fnSem, sSeq, sIf, sbnd, eOp, obnd, eVar, eC, i2, geI, powI, ov, sRet, hb, sNext, sAsg, gNm, mulI, addI, modI, divI, z1, z2, z3, z4, z5, hM, z6, z7, z8, z9, z10, z11, lg]
end BD
namespace BD
open PySem L2
theorem eqD_int (i j : Int) : eqD (.int i) (.int j) = some (.bl (i == j)) := by
  simp [eqD, eqvD, pyO, SeqAt.shaped, PyData.canLay0, PyData.depth, PyData.eqv]
theorem ix_ints {ns : List Int} {i : Int} (h0 : -(ns.length : Int) ≤ i) (h1 : i < ns.length) : ∃ c ∈ ns, ixD (.lst (ns.map .int)) (.int i) = some (.int c) := by
  have key : ∀ j : Nat, j < ns.length → ∃ c ∈ ns, (ns.map D.int)[j]? = some (.int c) := fun j hj => ⟨ns[j], List.getElem_mem hj, by simp [hj]⟩
  show ∃ c ∈ ns, atI (ns.map D.int) i = some (.int c)
  unfold atI ixN
  rw [List.length_map]
  by_cases h : 0 ≤ i
  · obtain ⟨c, hc, e⟩ := key i.toNat (by omega)
    exact ⟨c, hc, by rw [if_pos h, if_pos h1]; exact e⟩
  · obtain ⟨c, hc, e⟩ := key (i + ns.length).toNat (by omega)
    exact ⟨c, hc, by rw [if_neg h, if_pos h0]; exact e⟩
theorem mod4 (m : Int) : m.fmod 4 = 0 ∨ m.fmod 4 = 1 ∨ m.fmod 4 = 2 ∨ m.fmod 4 = 3 := by
  rw [fmod_pos (by decide)]; omega
theorem pick4 (a b c d m : Int) : ∃ x, (x = a ∨ x = b ∨ x = c ∨ x = d) ∧ ixD (.tup [.int a, .int b, .int c, .int d]) (.int (m.fmod 4)) = some (.int x) := by
  rcases mod4 m with h | h | h | h <;> rw [h]
  · exact ⟨a, .inl rfl, rfl⟩
  · exact ⟨b, .inr (.inl rfl), rfl⟩
  · exact ⟨c, .inr (.inr (.inl rfl)), rfl⟩
  · exact ⟨d, .inr (.inr (.inr rfl)), rfl⟩
theorem intsO_map : ∀ ns : List Int, intsO (ns.map D.int) = some ns
  | [] => rfl
  | n :: ns => by simp [intsO, intsO_map ns]
theorem Bd.sum {n : Nat} : ∀ {ns : List Int}, (∀ i ∈ ns, Bd n i) → ns.length ≤ 64 → Bd (n + ns.length) ns.sum
  | [], _, _ => by unfold Bd; simp [Nat.two_pow_pos]
  | a :: ns, h, hl => by
    have h1 := h a (List.mem_cons_self ..)
    have h2 := Bd.sum (ns := ns) (fun i hi => h i (List.mem_cons_of_mem _ hi)) (by simp at hl; omega)
    have := (h1.mono (by omega : n ≤ n + ns.length)).add h2
    simpa [Nat.add_assoc] using this
theorem cut63 {ns : List Int} (h : ns.length ≤ 63) : cutD (ns.map D.int) none (some 63) = ns.map D.int := by
  unfold cutD HT.sIx
  simp [h]
  exact List.take_of_length_le (by simp)
end BD
namespace BD
open PySem L2
theorem dvd_one {p q s : Int} (h : Int.gcd p q = 1) (d : q ∣ p * s) : q ∣ s := by
  have d' : q.natAbs ∣ p.natAbs * s.natAbs := by rw [← Int.natAbs_mul]; exact Int.natAbs_dvd_natAbs.mpr d
  have c : Nat.Coprime q.natAbs p.natAbs := by
    show Nat.gcd q.natAbs p.natAbs = 1
    rw [Nat.gcd_comm]; exact h
  exact Int.natAbs_dvd_natAbs.mp (c.dvd_of_dvd_mul_left d')
theorem uniq {p q r s : Int} (h : Sh p q) (h' : Sh r s) (e : p * s = r * q) : p = r ∧ q = s := by
  have d1 : q ∣ s := dvd_one h.one ⟨r, by rw [e, Int.mul_comm]⟩
  have d2 : s ∣ q := dvd_one h'.one ⟨p, by rw [← e, Int.mul_comm]⟩
  have hq : q = s := Int.dvd_antisymm (by have := h.pos; omega) (by have := h'.pos; omega) d1 d2
  subst hq
  exact ⟨Int.eq_of_mul_eq_mul_right (by have := h.pos; omega) e, rfl⟩
def Wo (n : Nat) (x : Option Out) (t b : Int) : Prop := ∃ p q, x = some (.val (sh p q)) ∧ Shn n p q ∧ p * b = q * t
theorem lowest_any {n : Nat} {t b : Int} (h0 : b ≠ 0) (ht : Bd n t) (hb : Bd n b) (hn : n ≤ 8000) : Wo n (m_lowest [.int t, .int b]) t b := by
  by_cases hp : 0 < b
  · obtain ⟨p, q, k, e, s, hk, e1, e2⟩ := shr_shn hp ht hb
    refine ⟨p, q, by rw [lowest_pos hp hb hn, e], s, ?_⟩
    rw [← e1, ← e2]; grind
  · have hp' : 0 < -b := by omega
    have hl : b < 0 := by omega
    obtain ⟨p, q, k, e, s, hk, e1, e2⟩ := shr_shn hp' ht.neg hb.neg
    have gp := gcd_pos (a := -t) hp'
    have g0 : ¬ Int.gcd (-t) (-b) = 0 := by omega
    have lg : (Int.gcd (-t) (-b)).log2 < 9000 := by
      have := ((Bd.gcd (a := -t) hb.neg hp').mono (Nat.le_succ n)).log (Nat.succ_pos n)
      simp only [Int.natAbs_natCast] at this
      omega
    have cm := common_pos (-t) (-b) hp'
    refine ⟨p, q, ?_, s, ?_⟩
    · rw [← e]
      generalize hG : Int.gcd (-t) (-b) = G at *
      have f1 := fdiv_pos (a := -t) gp
      have f2 := fdiv_pos (a := -b) gp
      have gg : ¬ (G : Int) = 0 := by omega
      simp [m_lowest, b_lowest, fnSem, sSeq, sIf, sbnd, eOp, obnd, eVar, eC, i2, ltI, ov, hl, sPar, eNeg, sNext, sAsg, eCall, lbnd, aCons, aNil, obndL, lbndL, cm, gNm, sRet, eTup, divI, g0, lg, smallL, shr, hG, f1, f2]
    · have e3 : t = -(p * k) := by omega
      have e4 : b = -(q * k) := by omega
      rw [e3, e4]; grind
theorem Wo.some {n : Nat} {x : Option Out} {t b : Int} (h : Wo n x t b) : ∃ p q, x = some (.val (sh p q)) ∧ Shn n p q ∧ p * b = q * t := h
end BD
namespace BD
open PySem L2
def shR (x : Rat) : D := sh x.num x.den
theorem shR_sh (x : Rat) : Sh x.num x.den := by
  refine ⟨?_, ?_⟩
  · have := x.den_nz; omega
  · have := x.reduced
    show Nat.gcd x.num.natAbs (x.den : Int).natAbs = 1
    rw [Int.natAbs_natCast]
    exact this
theorem rat_eq (x : Rat) : (x.num : Rat) / ((x.den : Int) : Rat) = x := by
  rw [← Rat.divInt_eq_div]
  exact Rat.num_divInt_den x
theorem den_ne (x : Rat) : ((x.den : Int) : Rat) ≠ 0 := by
  intro h
  have h2 : ((x.den : Int) : Rat) = ((0 : Int) : Rat) := h
  have := Rat.intCast_inj.mp h2
  have := x.den_nz
  omega
theorem cast_ne {b : Int} (h : b ≠ 0) : (b : Rat) ≠ 0 := by
  intro z
  have h2 : (b : Rat) = ((0 : Int) : Rat) := z
  exact h (Rat.intCast_inj.mp h2)
theorem rat_inj {p q : Int} {x : Rat} (hq : q ≠ 0) (h : (p : Rat) / q = x) : p * x.den = x.num * q := by
  have e := rat_eq x
  have d := den_ne x
  have d2 := cast_ne hq
  apply Rat.intCast_inj.mp
  rw [Rat.intCast_mul, Rat.intCast_mul]
  generalize ((x.den : Int) : Rat) = D at *
  generalize (x.num : Rat) = N at *
  generalize (p : Rat) = P at *
  generalize (q : Rat) = Q at *
  grind
theorem sh_shR {p q : Int} {x : Rat} (s : Sh p q) (h : (p : Rat) / q = x) : sh p q = shR x := by
  have hp := s.pos
  obtain ⟨h1, h2⟩ := uniq s (shR_sh x) (rat_inj (by omega) h)
  unfold shR
  rw [← h1, ← h2]
structure BdR (n : Nat) (x : Rat) : Prop where
  t : Bd n x.num
  b : Bd n x.den
theorem BdR.mono {m n : Nat} {x : Rat} (h : BdR m x) (l : m ≤ n) : BdR n x := ⟨h.t.mono l, h.b.mono l⟩
theorem bdR_of {n : Nat} {p q : Int} {x : Rat} (s : Shn n p q) (h : (p : Rat) / q = x) : BdR n x := by
  have hp := s.s.pos
  obtain ⟨h1, h2⟩ := uniq s.s (shR_sh x) (rat_inj (by omega) h)
  exact ⟨by rw [← h1]; exact s.ba, by rw [← h2]; exact s.bb⟩
theorem cross {p q t b : Int} (hq : q ≠ 0) (hb : b ≠ 0) (h : p * b = q * t) : (p : Rat) / q = (t : Rat) / b := by
  have d1 := cast_ne hq
  have d2 := cast_ne hb
  have e : (p : Rat) * b = q * t := by rw [← Rat.intCast_mul, ← Rat.intCast_mul, h]
  generalize (p : Rat) = P at *
  generalize (q : Rat) = Q at *
  generalize (t : Rat) = T at *
  generalize (b : Rat) = B at *
  grind
theorem BdR.div {n : Nat} {t b : Int} {x : Rat} (h0 : b ≠ 0) (ht : Bd n t) (hb : Bd n b) (e : (t : Rat) / b = x) : BdR n x := by
  by_cases hp : 0 < b
  · obtain ⟨p, q, k, _, s, hk, e1, e2⟩ := shr_shn hp ht hb
    have hq := s.s.pos
    refine bdR_of s ((cross (by omega) h0 ?_).trans e)
    rw [← e1, ← e2]; grind
  · obtain ⟨p, q, k, _, s, hk, e1, e2⟩ := shr_shn (show 0 < -b by omega) ht.neg hb.neg
    have hq := s.s.pos
    refine bdR_of s ((cross (by omega) h0 ?_).trans e)
    have e3 : t = -(p * k) := by omega
    have e4 : b = -(q * k) := by omega
    rw [e3, e4]; grind
theorem lowest_R {n : Nat} {t b : Int} {x : Rat} (h0 : b ≠ 0) (ht : Bd n t) (hb : Bd n b) (hn : n ≤ 8000) (e : (t : Rat) / b = x) : m_lowest [.int t, .int b] = some (.val (shR x)) := by
  obtain ⟨p, q, e1, s, k⟩ := lowest_any h0 ht hb hn
  have hq := s.s.pos
  rw [e1, sh_shR s.s ((cross (by omega) h0 k).trans e)]
theorem low_R {n : Nat} {t b : Int} {x : Rat} (h0 : 0 < b) (hb : Bd n b) (hn : n ≤ 8000) (e : (t : Rat) / b = x) : m_q_low [.int t, .int b] = some (.val (shR x)) := by
  have lg : (Int.gcd t b).log2 < 9000 := by
    have := ((Bd.gcd (a := t) hb h0).mono (Nat.le_succ n)).log (Nat.succ_pos n)
    simp only [Int.natAbs_natCast] at this
    omega
  obtain ⟨p, q, k, e1, s, hk, e2, e3⟩ := shr_sh (a := t) h0
  have hq := s.pos
  rw [low_pos t b h0 lg, e1, sh_shR s ((cross (by omega) (by omega) ?_).trans e)]
  rw [← e2, ← e3]; grind
theorem ix_R0 (x : Rat) : ixD (shR x) (.int 0) = some (.int x.num) := rfl
theorem ix_R1 (x : Rat) : ixD (shR x) (.int 1) = some (.int x.den) := rfl
section
variable {n m : Nat} {x y : Rat}
theorem add_val (x y : Rat) : ((x.num * y.den + y.num * x.den : Int) : Rat) / ((x.den * y.den : Int) : Rat) = x + y := by
  have ex := rat_eq x
  have ey := rat_eq y
  have dx := den_ne x
  have dy := den_ne y
  rw [Rat.intCast_add, Rat.intCast_mul, Rat.intCast_mul, Rat.intCast_mul]
  generalize ((x.den : Int) : Rat) = D at *
  generalize (x.num : Rat) = N at *
  generalize ((y.den : Int) : Rat) = D2 at *
  generalize (y.num : Rat) = N2 at *
  subst ex ey
  grind
theorem mul_val (x y : Rat) : ((x.num * y.num : Int) : Rat) / ((x.den * y.den : Int) : Rat) = x * y := by
  have ex := rat_eq x
  have ey := rat_eq y
  have dx := den_ne x
  have dy := den_ne y
  rw [Rat.intCast_mul, Rat.intCast_mul]
  generalize ((x.den : Int) : Rat) = D at *
  generalize (x.num : Rat) = N at *
  generalize ((y.den : Int) : Rat) = D2 at *
  generalize (y.num : Rat) = N2 at *
  subst ex ey
  grind
theorem div_val (x y : Rat) (hy : y.num ≠ 0) : ((x.num * y.den : Int) : Rat) / ((x.den * y.num : Int) : Rat) = x / y := by
  have ex := rat_eq x
  have ey := rat_eq y
  have dx := den_ne x
  have dy := den_ne y
  have ny := cast_ne hy
  rw [Rat.intCast_mul, Rat.intCast_mul]
  generalize ((x.den : Int) : Rat) = D at *
  generalize (x.num : Rat) = N at *
  generalize ((y.den : Int) : Rat) = D2 at *
  generalize (y.num : Rat) = N2 at *
  subst ex ey
  grind
theorem den_pos (x : Rat) : (0 : Int) < x.den := (shR_sh x).pos
theorem dd_pos (x y : Rat) : (0 : Int) < x.den * y.den := Int.mul_pos (den_pos x) (den_pos y)
theorem BdR.add (hx : BdR n x) (hy : BdR m y) : BdR (n + m + 1) (x + y) := by
  have := dd_pos x y
  exact BdR.div (by omega) ((hx.t.mul hy.b).add ((hy.t.mul hx.b).mono (by omega))) ((hx.b.mul hy.b).mono (by omega)) (add_val x y)
theorem BdR.mul (hx : BdR n x) (hy : BdR m y) : BdR (n + m) (x * y) := by
  have := dd_pos x y
  exact BdR.div (by omega) (hx.t.mul hy.t) (hx.b.mul hy.b) (mul_val x y)
theorem BdR.quot (hx : BdR n x) (hy : BdR m y) (h0 : y.num ≠ 0) : BdR (n + m) (x / y) := by
  have := den_pos x
  exact BdR.div (Int.mul_ne_zero (by omega) h0) (hx.t.mul hy.b) (hx.b.mul hy.t) (div_val x y h0)
theorem BdR.small (hx : BdR n x) (hn : n ≤ 8000) : smallI x.num = true ∧ smallI x.den = true := ⟨hx.t.small (by omega), hx.b.small (by omega)⟩
end
theorem shR_int (w : Int) : D.tup [.int w, .int 1] = shR w := rfl
theorem bdR_int {n : Nat} {w : Int} (h : Bd n w) (hn : 1 ≤ n) : BdR n (w : Rat) := ⟨h, by
  show Bd n ((1 : Nat) : Int)
  exact (by unfold Bd; decide : Bd 1 1).mono hn⟩
end BD
namespace BD
open PySem L2
section
variable {n m : Nat} {x y : Rat}
theorem added_R (hx : BdR n x) (hy : BdR m y) (h : n + m ≤ 7900) : m_added [shR x, shR y] = some (.val (shR (x + y))) := by
  obtain ⟨s1, s2⟩ := hx.small (by omega)
  obtain ⟨s3, s4⟩ := hy.small (by omega)
  have hp := dd_pos x y
  have e := lowest_R (by omega) ((hx.t.mul hy.b).add ((hy.t.mul hx.b).mono (by omega))) ((hx.b.mul hy.b).mono (by omega)) (by omega) (add_val x y)
  simp [m_added, b_added, fnSem, sRet, sbnd, eCall, lbnd, aCons, aNil, obndL, lbndL, eOp, obnd, eVar, eC, ix_R0, ix_R1, ov, i2, mulI, addI, s1, s2, s3, s4, e]
theorem multiplied_R (hx : BdR n x) (hy : BdR m y) (h : n + m ≤ 7900) : m_multiplied [shR x, shR y] = some (.val (shR (x * y))) := by
  obtain ⟨s1, s2⟩ := hx.small (by omega)
  obtain ⟨s3, s4⟩ := hy.small (by omega)
  have hp := dd_pos x y
  have e := lowest_R (by omega) (hx.t.mul hy.t) (hx.b.mul hy.b) (by omega) (mul_val x y)
  simp [m_multiplied, b_multiplied, fnSem, sRet, sbnd, eCall, lbnd, aCons, aNil, obndL, lbndL, eOp, obnd, eVar, eC, ix_R0, ix_R1, ov, i2, mulI, s1, s2, s3, s4, e]
theorem parted_R (hx : BdR n x) (hy : BdR m y) (h0 : y.num ≠ 0) (h : n + m ≤ 7900) : m_parted [shR x, shR y] = some (.val (shR (x / y))) := by
  obtain ⟨s1, s2⟩ := hx.small (by omega)
  obtain ⟨s3, s4⟩ := hy.small (by omega)
  have hp := den_pos x
  have e := lowest_R (Int.mul_ne_zero (by omega) h0) (hx.t.mul hy.b) (hx.b.mul hy.t) (by omega) (div_val x y h0)
  simp [m_parted, b_parted, fnSem, sRet, sbnd, eCall, lbnd, aCons, aNil, obndL, lbndL, eOp, obnd, eVar, eC, ix_R0, ix_R1, ov, i2, mulI, s1, s2, s3, s4, e]
theorem scaled_val (w : Int) (x : Rat) : ((w * x.num : Int) : Rat) / ((x.den : Int) : Rat) = (w : Rat) * x := by
  have ex := rat_eq x
  have dx := den_ne x
  rw [Rat.intCast_mul]
  generalize ((x.den : Int) : Rat) = D at *
  generalize (x.num : Rat) = N at *
  subst ex
  grind
theorem scaled_R {w : Int} (hw : Bd m w) (hx : BdR n x) (h : n + m ≤ 7900) : m_scaled [.int w, shR x] = some (.val (shR ((w : Rat) * x))) := by
  obtain ⟨s1, s2⟩ := hx.small (by omega)
  have s3 := hw.small (by omega)
  have hp := den_pos x
  have e := lowest_R (by omega) (hw.mul hx.t) (hx.b.mono (by omega)) (by omega) (scaled_val w x)
  simp [m_scaled, b_scaled, fnSem, sRet, sbnd, eCall, lbnd, aCons, aNil, obndL, lbndL, eOp, obnd, eVar, eC, ix_R0, ix_R1, ov, i2, mulI, s1, s2, s3, e]
theorem q_sum_R (hx : BdR n x) (hy : BdR m y) (h : n + m ≤ 7900) : m_q_sum [shR x, shR y] = some (.val (shR (x + y))) := by
  obtain ⟨s1, s2⟩ := hx.small (by omega)
  obtain ⟨s3, s4⟩ := hy.small (by omega)
  have e := low_R (dd_pos x y) (hx.b.mul hy.b) (by omega) (add_val x y)
  simp [m_q_sum, b_q_sum, fnSem, sRet, sbnd, eCall, lbnd, aCons, aNil, obndL, lbndL, eOp, obnd, eVar, eC, ix_R0, ix_R1, ov, i2, mulI, addI, s1, s2, s3, s4, e]
theorem q_by_R (hx : BdR n x) (hy : BdR m y) (h : n + m ≤ 7900) : m_q_by [shR x, shR y] = some (.val (shR (x * y))) := by
  obtain ⟨s1, s2⟩ := hx.small (by omega)
  obtain ⟨s3, s4⟩ := hy.small (by omega)
  have e := low_R (dd_pos x y) (hx.b.mul hy.b) (by omega) (mul_val x y)
  simp [m_q_by, b_q_by, fnSem, sRet, sbnd, eCall, lbnd, aCons, aNil, obndL, lbndL, eOp, obnd, eVar, eC, ix_R0, ix_R1, ov, i2, mulI, s1, s2, s3, s4, e]
end
end BD
namespace BD
open PySem L2
theorem blsO_true {α : Type} : ∀ (xs : List α), blsO (xs.map fun _ => D.bl true) = some (xs.map fun _ => true)
  | [] => rfl
  | x :: xs => by simp [blsO, blsO_true xs]
theorem all_true {α : Type} (xs : List α) : (xs.map fun _ => true).all id = true := by
  induction xs with
  | nil => rfl
  | cons x xs ih => simpa using ih
def wsum : List Int → List Rat → Rat → Rat
  | w :: ws, x :: xs, t => wsum ws xs (t + (w : Rat) * x)
  | _, _, t => t
theorem w_bd {w : Int} (h1 : 1 ≤ w) (h2 : w ≤ 60) : Bd 6 w := by unfold Bd; omega
theorem wsum_loop {n : Nat} (x0 x1 : Option Sl) : ∀ (ws : List Int) (xs : List Rat) (m : Nat) (t : Rat), (∀ w ∈ ws, 1 ≤ w ∧ w ≤ 60) → (∀ x ∈ xs, BdR n x) → BdR m t → 1 ≤ n → m + ws.length * (n + 7) ≤ 7900 → ∀ (x3 x4 : Option Sl),
    ∃ y3 y4, forS (gTp (gsCons (gNm 3) (gsCons (gNm 4) gsNil))) l1_weighed_sum (zipD (ws.map .int) (xs.map shR)) [x0, x1, some (.sh (shR t)), x3, x4] = some (.nx [x0, x1, some (.sh (shR (wsum ws xs t))), y3, y4]) ∧ BdR (m + ws.length * (n + 7)) (wsum ws xs t)
  | [], xs, m, t, _, _, ht, _, _, x3, x4 => ⟨x3, x4, by simp [zipD, forS, wsum], by simpa [wsum] using ht⟩
  | w :: ws, [], m, t, _, _, ht, _, _, x3, x4 => ⟨x3, x4, by simp [zipD, forS, wsum], by simp only [wsum]; exact ht.mono (by omega)⟩
  | w :: ws, x :: xs, m, t, hw, hx, ht, hn, hs, x3, x4 => by
    have h1 := hw w (List.mem_cons_self ..)
    have hx1 := hx x (List.mem_cons_self ..)
    have hl : (w :: ws).length * (n + 7) = ws.length * (n + 7) + (n + 7) := by rw [List.length_cons, Nat.succ_mul]
    rw [hl] at hs ⊢
    have hz : 0 ≤ ws.length * (n + 7) := Nat.zero_le _
    have bw := w_bd h1.1 h1.2
    have e1 := scaled_R bw hx1 (by omega)
    have b1 : BdR (6 + n) ((w : Rat) * x) := (bdR_int bw (by decide)).mul hx1
    have e2 := added_R ht b1 (by omega)
    have b2 : BdR (m + (n + 7)) (t + (w : Rat) * x) := (ht.add b1).mono (by omega)
    obtain ⟨y3, y4, f, bf⟩ := wsum_loop x0 x1 ws xs (m + (n + 7)) (t + (w : Rat) * x) (fun v hv => hw v (List.mem_cons_of_mem _ hv)) (fun v hv => hx v (List.mem_cons_of_mem _ hv)) b2 hn (by omega) (some (.sh (.int w))) (some (.sh (shR x)))
    refine ⟨y3, y4, ?_, ?_⟩
    · have : zipD ((w :: ws).map .int) ((x :: xs).map shR) = .tup [.int w, shR x] :: zipD (ws.map .int) (xs.map shR) := rfl
      rw [this]
      simp only [wsum]
      have step : l1_weighed_sum [x0, x1, some (.sh (shR t)), some (.sh (.int w)), some (.sh (shR x))] = some (.nx [x0, x1, some (.sh (shR (t + (w : Rat) * x))), some (.sh (.int w)), some (.sh (shR x))]) := by
        simp [l1_weighed_sum, sAsg, sbnd, eCall, lbnd, aCons, aNil, obndL, lbndL, eVar, e1, e2, gNm]
      simp [forS, gTp, gsCons, gNm, gsNil, step, f]
    · simp only [wsum]
      exact bf.mono (by omega)
theorem weighed_sum_R {n : Nat} {ws : List Int} {xs : List Rat} (hw : ∀ w ∈ ws, 1 ≤ w ∧ w ≤ 60) (hx : ∀ x ∈ xs, BdR n x) (hn : 1 ≤ n) (hs : 1 + ws.length * (n + 7) ≤ 7900) :
    m_weighed_sum [.lst (ws.map .int), .lst (xs.map shR)] = some (.val (shR (wsum ws xs 0))) ∧ BdR (1 + ws.length * (n + 7)) (wsum ws xs 0) := by
  have b0 : BdR 1 (0 : Rat) := bdR_int (w := 0) (by unfold Bd; decide) (by decide)
  obtain ⟨y3, y4, f, bf⟩ := wsum_loop (some (.sh (.lst (ws.map .int)))) (some (.sh (.lst (xs.map shR)))) ws xs 1 0 hw hx b0 hn hs none none
  refine ⟨?_, bf⟩
  have e0 : D.tup [.int 0, .int 1] = shR 0 := rfl
  simp [m_weighed_sum, b_weighed_sum, fnSem, sSeq, sAsg, sbnd, eC, gNm, sFor, wZip, aCons, aNil, obndL, lbndL, eVar, lbndS, e0, f, sRet]
theorem wsum_add : ∀ (ws : List Int) (xs : List Rat) (t : Rat), wsum ws xs t = t + wsum ws xs 0
  | [], xs, t => by simp only [wsum]; grind
  | w :: ws, [], t => by simp only [wsum]; grind
  | w :: ws, x :: xs, t => by
    simp only [wsum]
    rw [wsum_add ws xs (t + (w : Rat) * x), wsum_add ws xs (0 + (w : Rat) * x)]
    grind
theorem sum_pos : ∀ {ws : List Int}, (∀ w ∈ ws, 1 ≤ w ∧ w ≤ 60) → ws ≠ [] → 0 < ws.sum ∧ ws.sum ≤ 60 * ws.length
  | [], _, h => absurd rfl h
  | [w], h, _ => by have := h w (List.mem_cons_self ..); simp; omega
  | w :: v :: ws, h, _ => by
    have h1 := h w (List.mem_cons_self ..)
    have h2 := sum_pos (ws := v :: ws) (fun u hu => h u (List.mem_cons_of_mem _ hu)) (by simp)
    simp only [List.sum_cons, List.length_cons] at *
    omega
theorem stuck_speed_R {n : Nat} {ws : List Int} {xs : List Rat} (hw : ∀ w ∈ ws, 1 ≤ w ∧ w ≤ 60) (h0 : ws ≠ []) (hl : ws.length ≤ 100) (hx : ∀ x ∈ xs, BdR n x) (hn : 1 ≤ n) (hs : 1 + ws.length * (n + 7) ≤ 7800) :
    m_weighed_mean [.lst (ws.map .int), .lst (xs.map shR)] = some (.val (shR (wsum ws xs 0 / (ws.sum : Rat)))) ∧ BdR (1 + ws.length * (n + 7) + 13) (wsum ws xs 0 / (ws.sum : Rat)) := by
  obtain ⟨e1, b1⟩ := weighed_sum_R hw hx hn (by omega)
  obtain ⟨p1, p2⟩ := sum_pos hw h0
  have bs : Bd 13 ws.sum := by unfold Bd; omega
  have bS := bdR_int bs (by decide)
  have n0 : (ws.sum : Rat).num ≠ 0 := by show ws.sum ≠ 0; omega
  have e2 := parted_R b1 bS n0 (by omega)
  refine ⟨?_, b1.quot bS n0⟩
  simp [m_weighed_mean, b_weighed_mean, fnSem, sRet, sbnd, eCall, lbnd, aCons, aNil, obndL, lbndL, eVar, e1, eTup, eB, sumB, intsO_map, ov, eC, smallL, shR_int, e2]
end BD
namespace BD
open PySem L2
structure Bead where
  w : Int
  x : Rat
  v : Rat
def bD (b : Bead) : D := .tup [.int b.w, shR b.x, shR b.v]
structure RS (x : Rat) : Prop where
  lo : -1000000 ≤ x.num
  hi : x.num ≤ 1000000
  den : x.den ≤ 60
structure GB (b : Bead) : Prop where
  w1 : 1 ≤ b.w
  w2 : b.w ≤ 60
  x : RS b.x
  v : RS b.v
theorem RS.bd {x : Rat} (h : RS x) : BdR 20 x := by
  have h1 := h.lo
  have h2 := h.hi
  have h3 := h.den
  exact ⟨by unfold Bd; omega, by unfold Bd; omega⟩
theorem compS_map {α : Type} {f h : α → D} {g : Gv} {q e : Ev} {ρ : Rho} : ∀ {xs : List α}, (∀ x ∈ xs, ∃ ρ', g (f x) ρ = some ρ' ∧ q ρ' = some (.val (.bl true)) ∧ e ρ' = some (.val (h x))) → compS g q e ρ (xs.map f) = some (xs.map h)
  | [], _ => rfl
  | x :: xs, H => by
    obtain ⟨ρ', e1, e2, e3⟩ := H x (List.mem_cons_self ..)
    have ih := compS_map (xs := xs) fun y hy => H y (List.mem_cons_of_mem _ hy)
    simp [compS, e1, e2, e3, ih]
structure GR (r : List Bead) : Prop where
  one : 1 ≤ r.length
  ten : r.length ≤ 10
  good : ∀ b ∈ r, GB b
  rise : ∀ (i : Nat) (a b : Bead), r[i]? = some a → r[i + 1]? = some b → a.x < b.x
theorem ix_map {α : Type} {f : α → D} {xs : List α} {i : Nat} {x : α} (h : xs[i]? = some x) : ixD (.lst (xs.map f)) (.int (i : Int)) = some (f x) := by
  obtain ⟨hl, e⟩ := List.getElem?_eq_some_iff.mp h
  show atI (xs.map f) (i : Int) = some (f x)
  unfold atI ixN
  rw [List.length_map, if_pos (by omega), if_pos (by omega)]
  simp [hl, e]
theorem bD0 (b : Bead) : ixD (bD b) (.int 0) = some (.int b.w) := rfl
theorem bD1 (b : Bead) : ixD (bD b) (.int 1) = some (shR b.x) := rfl
theorem bD2 (b : Bead) : ixD (bD b) (.int 2) = some (shR b.v) := rfl
theorem get_lt {α : Type} {xs : List α} {i : Nat} (h : i < xs.length) : ∃ x, xs[i]? = some x ∧ x ∈ xs := ⟨xs[i], by simp [h], List.getElem_mem h⟩
theorem lComp_map {α : Type} {f : EvL} {g : Gv} {q e : Ev} {vs : List Nat} {ρ : Rho} {xs : List α} {F h : α → D} (hf : f ρ = some (.vals (xs.map F))) (hl : xs.length ≤ 1000)
    (H : ∀ x ∈ xs, ∃ ρ', g (F x) (wipeR ρ vs) = some ρ' ∧ q ρ' = some (.val (.bl true)) ∧ e ρ' = some (.val (h x))) : lComp f g q e vs ρ = some (.vals (xs.map h)) := by
  have sl : smallL (xs.map F) = true := decide_eq_true (by rw [List.length_map]; omega)
  unfold lComp lbndL
  rw [hf]
  dsimp only
  rw [if_pos sl, compS_map H]
  rfl
theorem eFr_of {f : EvL} {ρ : Rho} {ds : List D} (h : f ρ = some (.vals ds)) : eFr f ρ = some (.val (.lst ds)) := by
  unfold eFr lbnd
  rw [h]
theorem all_comp {α : Type} {f : EvL} {g : Gv} {q e : Ev} {vs : List Nat} {ρ : Rho} {xs : List α} {F : α → D} (hf : f ρ = some (.vals (xs.map F))) (hl : xs.length ≤ 1000)
    (H : ∀ x ∈ xs, ∃ ρ', g (F x) (wipeR ρ vs) = some ρ' ∧ q ρ' = some (.val (.bl true)) ∧ e ρ' = some (.val (.bl true))) : eB allB (aCons (eFr (lComp f g q e vs)) aNil) ρ = some (.val (.bl true)) := by
  have e1 := eFr_of (lComp_map (h := fun _ => D.bl true) hf hl H)
  have a : allB [.lst (xs.map fun _ => D.bl true)] = some (.bl true) := by
    simp only [allB, blsO_true, Option.map_some, all_true]
  unfold eB aCons lbnd obndL
  rw [e1]
  simp only [aNil, lbndL, a]
  rfl
theorem fn_rt {n m : Nat} {body : Sv} {ds : List D} {d : D} {ρ : Rho} (hl : ds.length = n) (hρ : ds.map (fun d => some (Sl.sh d)) ++ List.replicate m none = ρ) (h : body ρ = some (.rt d)) : fnSem n m body ds = some (.val d) := by
  subst hρ
  unfold fnSem
  rw [if_pos hl, h]
theorem ret_of {f : Ev} {ρ : Rho} {d : D} (h : f ρ = some (.val d)) : sRet f ρ = some (.rt d) := by
  unfold sRet sbnd
  rw [h]
theorem seq_nx {f g : Sv} {ρ ρ' : Rho} {x : Option Fl} (h : f ρ = some (.nx ρ')) (k : g ρ' = x) : sSeq f g ρ = x := by unfold sSeq; rw [h]; exact k
theorem if_no {q : Ev} {f : Sv} {ρ : Rho} (h : q ρ = some (.val (.bl false))) : sIf q f sNext ρ = some (.nx ρ) := by
  unfold sIf sbnd
  rw [h]
  rfl
theorem set_of {f : Ev} {ρ : Rho} {d : D} {i : Nat} (h : f ρ = some (.val d)) : sAsg f (gNm i) ρ = some (.nx (ρ.set i (some (.sh d)))) := by
  unfold sAsg sbnd
  rw [h]
  rfl
theorem call1 {g : List D → Option Out} {f : Ev} {ρ : Rho} {d : D} {o : Option Out} (h : f ρ = some (.val d)) (k : g [d] = o) : eCall g (aCons f aNil) ρ = o := by
  unfold eCall lbnd aCons obndL
  rw [h]
  exact k
theorem call2 {g : List D → Option Out} {f f2 : Ev} {ρ : Rho} {d d2 : D} {o : Option Out} (h : f ρ = some (.val d)) (h2 : f2 ρ = some (.val d2)) (k : g [d, d2] = o) : eCall g (aCons f (aCons f2 aNil)) ρ = o := by
  unfold eCall lbnd aCons obndL lbndL
  rw [h]
  dsimp only
  rw [h2]
  exact k
theorem call3 {g : List D → Option Out} {f f2 f3 : Ev} {ρ : Rho} {d d2 d3 : D} {o : Option Out} (h : f ρ = some (.val d)) (h2 : f2 ρ = some (.val d2)) (h3 : f3 ρ = some (.val d3)) (k : g [d, d2, d3] = o) : eCall g (aCons f (aCons f2 (aCons f3 aNil))) ρ = o := by
  unfold eCall lbnd aCons obndL lbndL
  rw [h]
  dsimp only
  rw [h2]
  dsimp only
  rw [h3]
  exact k
theorem call4 {g : List D → Option Out} {f f2 f3 f4 : Ev} {ρ : Rho} {d d2 d3 d4 : D} {o : Option Out} (h : f ρ = some (.val d)) (h2 : f2 ρ = some (.val d2)) (h3 : f3 ρ = some (.val d3)) (h4 : f4 ρ = some (.val d4)) (k : g [d, d2, d3, d4] = o) : eCall g (aCons f (aCons f2 (aCons f3 (aCons f4 aNil)))) ρ = o := by
  unfold eCall lbnd aCons obndL lbndL
  rw [h]
  dsimp only
  rw [h2]
  dsimp only
  rw [h3]
  dsimp only
  rw [h4]
  exact k
theorem and_of {f g : Ev} {ρ : Rho} {o : Option Out} (h : f ρ = some (.val (.bl true))) (k : g ρ = o) : qAnd f g ρ = o := by
  unfold qAnd obnd
  rw [h]
  exact k
theorem or_of {f g : Ev} {ρ : Rho} {o : Option Out} (h : f ρ = some (.val (.bl false))) (k : g ρ = o) : qOr f g ρ = o := by
  unfold qOr obnd
  rw [h]
  exact k
theorem not_of {f : Ev} {ρ : Rho} {b : Bool} (h : f ρ = some (.val (.bl b))) : qNot f ρ = some (.val (.bl (!b))) := by
  unfold qNot obnd
  rw [h]
theorem not_yes {f : Ev} {ρ : Rho} (h : f ρ = some (.val (.bl true))) : qNot (qV f) ρ = some (.val (.bl false)) := not_of (b := true) (by unfold qV obnd; rw [h]; rfl)
theorem op_of {g : D → D → Option D} {f f2 : Ev} {ρ : Rho} {d d2 d3 : D} (h : f ρ = some (.val d)) (h2 : f2 ρ = some (.val d2)) (k : g d d2 = some d3) : eOp g f f2 ρ = some (.val d3) := by
  unfold eOp obnd
  rw [h]
  dsimp only
  rw [h2]
  dsimp only
  rw [k]
  rfl
theorem wRng2_of {fa fb : Ev} {ρ : Rho} {i j : Int} (h1 : fa ρ = some (.val (.int i))) (h2 : fb ρ = some (.val (.int j))) (b1 : big62 i = true) (b2 : big62 j = true) : wRng2 (aCons fa (aCons fb aNil)) ρ = some (.vals (rngD i 1 (j - i).toNat)) := by
  simp only [wRng2, lbndL, aCons, aNil, obndL, h1, h2, b1, b2, Bool.and_self, if_true]
theorem len_of {f : Ev} {ρ : Rho} {ds : List D} (h : f ρ = some (.val (.lst ds))) : eB lenB (aCons f aNil) ρ = some (.val (.int (ds.length : Int))) := by
  unfold eB lbnd aCons obndL
  rw [h]
  rfl
theorem tup2_of {f f2 : Ev} {ρ : Rho} {d d2 : D} (h : f ρ = some (.val d)) (h2 : f2 ρ = some (.val d2)) : eTup (aCons f (aCons f2 aNil)) ρ = some (.val (.tup [d, d2])) := by
  simp [eTup, lbnd, aCons, aNil, obndL, lbndL, h, h2, smallL]
theorem big_few {n : Nat} (h : n ≤ 1000) : big62 (n : Int) = true := by simp [big62]; omega
theorem cut_mid {α : Type} {f : α → D} {xs : List α} {a b : Nat} (h : b < xs.length) (ha : a ≤ b) : cutD (xs.map f) (some (a : Int)) (some ((b : Int) + 1)) = ((xs.drop a).take (b + 1 - a)).map f := by
  have e : ((b : Int) + 1) = (((b + 1 : Nat)) : Int) := by omega
  unfold cutD
  rw [e, HT.sIx_nat, HT.sIx_nat, List.length_map, Nat.min_eq_left (by omega), Nat.min_eq_left (by omega)]
  simp [List.map_take, List.map_drop]
def str (r : List Bead) (a b : Nat) : List Bead := (r.drop a).take (b + 1 - a)
theorem str_mem {r : List Bead} {a b : Nat} {x : Bead} (h : x ∈ str r a b) : x ∈ r := List.mem_of_mem_drop (List.mem_of_mem_take h)
theorem str_len {r : List Bead} {a b : Nat} (h : b < r.length) (ha : a ≤ b) : (str r a b).length = b + 1 - a := by
  unfold str
  rw [List.length_take, List.length_drop]
  omega
theorem slice_ev {r : List Bead} {a b : Nat} (h : b < r.length) (ha : a ≤ b) {ρ : Rho} {i j k : Nat} (h0 : ρ[i]? = some (some (.sh (.lst (r.map bD))))) (h1 : ρ[j]? = some (some (.sh (.int (a : Int))))) (h2 : ρ[k]? = some (some (.sh (.int (b : Int))))) :
    wSeq (eFr (lSlice (eVar i) (oSome (eVar j)) (oSome (eOp (i2 addI) (eVar k) (eC (.int 1)))))) ρ = some (.vals ((str r a b).map bD)) := by
  have ct := cut_mid (f := bD) h ha
  rw [← str] at ct
  have v0 : eVar i ρ = some (.val (.lst (r.map bD))) := by unfold eVar; rw [h0]
  have v1 : oSome (eVar j) ρ = some (some (a : Int)) := by simp [oSome, eVar, h1]
  have v2 : oSome (eOp (i2 addI) (eVar k) (eC (.int 1))) ρ = some (some ((b : Int) + 1)) := by simp [oSome, eOp, obnd, eVar, h2, eC, ov, i2, addI]
  have s1 : lSlice (eVar i) (oSome (eVar j)) (oSome (eOp (i2 addI) (eVar k) (eC (.int 1)))) ρ = some (.vals ((str r a b).map bD)) := by
    unfold lSlice obndL
    rw [v0, v1, v2]
    dsimp only
    rw [ct]
  unfold wSeq obndL
  rw [eFr_of s1]
theorem stretch_weights_ok {r : List Bead} {a b : Nat} (h : b < r.length) (ha : a ≤ b) (hl : r.length ≤ 10) : m_stretch_weights [.lst (r.map bD), .int (a : Int), .int (b : Int)] = some (.val (.lst (((str r a b).map Bead.w).map .int))) := by
  have sl := str_len h ha
  have c := eFr_of (lComp_map (g := gTp (gsCons (gNm 3) (gsCons (gNm 4) (gsCons (gNm 5) gsNil)))) (q := qYes) (e := eVar 3) (vs := [3, 4, 5]) (h := fun x => D.int x.w) (slice_ev h ha (ρ := [some (.sh (.lst (r.map bD))), some (.sh (.int (a : Int))), some (.sh (.int (b : Int))), none, none, none]) (i := 0) (j := 1) (k := 2) rfl rfl rfl) (by omega) fun x hx => ⟨_, rfl, rfl, rfl⟩)
  rw [List.map_map]
  unfold m_stretch_weights fnSem b_stretch_weights sRet
  simp only [List.length_cons, List.length_nil, if_true, List.map_cons, List.map_nil, List.cons_append, List.nil_append, List.replicate, c, sbnd]
  rfl
end BD
namespace BD
open PySem L2
theorem own_of {f : EvL} {ρ : Rho} {ds : List D} {i : Nat} (h : f ρ = some (.vals ds)) : sOwn f i ρ = some (.nx (ρ.set i (some (.own ds)))) := by
  unfold sOwn lbndS
  rw [h]
theorem frz_of {g : Sv} {ρ : Rho} {ds : List D} {i : Nat} {o : Option Fl} (h : ρ[i]? = some (some (.own ds))) (k : g (ρ.set i (some (.sh (.lst ds)))) = o) : sFrz i g ρ = o := by
  unfold sFrz
  rw [h]
  exact k
theorem sum_of {f : Ev} {ρ : Rho} {ns : List Int} (h : f ρ = some (.val (.lst (ns.map .int)))) : eB sumB (aCons f aNil) ρ = some (.val (.int ns.sum)) := by
  unfold eB lbnd aCons obndL
  rw [h]
  simp [aNil, lbndL, sumB, intsO_map, ov]
theorem straight_place_ok {b : Bead} {m : Rat} (h : GB b) (hm : BdR 30 m) : m_straight_place [bD b, shR m] = some (.val (shR (b.x + b.v * m))) := by
  have e1 := multiplied_R h.v.bd hm (by decide)
  have e2 := added_R h.x.bd (h.v.bd.mul hm) (by decide)
  simp [m_straight_place, b_straight_place, fnSem, sSeq, sAsg, sbnd, eVar, bD, gTp, gsCons, gNm, gsNil, sRet, eCall, lbnd, aCons, aNil, obndL, lbndL, e1, e2]
def Bead.at (m : Rat) (b : Bead) : Rat := b.x + b.v * m
theorem at_bd {b : Bead} {m : Rat} (h : GB b) (hm : BdR 30 m) : BdR 71 (b.at m) := (h.x.bd.add (h.v.bd.mul hm)).mono (by decide)
theorem ws_ok {bs : List Bead} (h : ∀ b ∈ bs, GB b) : ∀ w ∈ bs.map Bead.w, 1 ≤ w ∧ w ≤ 60 := fun w hw => by
  obtain ⟨b, hb, rfl⟩ := List.mem_map.mp hw
  exact ⟨(h b hb).w1, (h b hb).w2⟩
theorem at_ok {bs : List Bead} {m : Rat} (hm : BdR 30 m) (h : ∀ b ∈ bs, GB b) : ∀ x ∈ bs.map (Bead.at m), BdR 71 x := fun w hw => by
  obtain ⟨b, hb, rfl⟩ := List.mem_map.mp hw
  exact at_bd (h b hb) hm
def tog (bs : List Bead) (f : Bead → Rat) : Rat := wsum (bs.map Bead.w) (bs.map f) 0
def wts (bs : List Bead) : Int := (bs.map Bead.w).sum
structure St (r : List Bead) (a b : Nat) : Prop where
  g : GR r
  lt : b < r.length
  le : a ≤ b
section
variable {r : List Bead} {a b : Nat} {m : Rat}
theorem St.good (h : St r a b) : ∀ x ∈ str r a b, GB x := fun x hx => h.g.good x (str_mem hx)
theorem St.len (h : St r a b) : (str r a b).length = b + 1 - a := str_len h.lt h.le
theorem St.few (h : St r a b) : (str r a b).length ≤ 10 := by
  have := h.len
  have := h.lt
  have := h.g.ten
  omega
theorem St.ne (h : St r a b) : (str r a b).map Bead.w ≠ [] := fun z => by
  have e := congrArg List.length z
  rw [List.length_map, h.len] at e
  have := h.le
  simp at e
  omega
theorem St.sz (h : St r a b) : 1 + ((str r a b).map Bead.w).length * (71 + 7) ≤ 781 := by
  have := h.few
  rw [List.length_map]
  omega
theorem St.sw (h : St r a b) : m_stretch_weights [.lst (r.map bD), .int (a : Int), .int (b : Int)] = some (.val (.lst (((str r a b).map Bead.w).map .int))) := stretch_weights_ok h.lt h.le h.g.ten
theorem St.wpos (h : St r a b) : 0 < wts (str r a b) ∧ wts (str r a b) ≤ 600 := by
  obtain ⟨p1, p2⟩ := sum_pos (ws_ok h.good) h.ne
  have := h.few
  rw [List.length_map] at p2
  unfold BD.wts
  omega
theorem St.mid (h : St r a b) (hm : BdR 30 m) : m_stretch_middle [.lst (r.map bD), .int (a : Int), .int (b : Int), shR m] = some (.val (shR (tog (str r a b) (Bead.at m) / (wts (str r a b) : Rat)))) ∧ BdR 800 (tog (str r a b) (Bead.at m) / (wts (str r a b) : Rat)) := by
  have hz := h.sz
  have h0 : (str r a b).map Bead.w ≠ [] := h.ne
  obtain ⟨e, bd⟩ := stuck_speed_R (ws_ok h.good) h0 (by have := h.few; simp; omega) (at_ok hm h.good) (by decide) (by omega)
  refine ⟨?_, bd.mono (by omega)⟩
  have c := lComp_map (g := gNm 5) (q := qYes) (e := eCall m_straight_place (aCons (eVar 5) (aCons (eVar 3) aNil))) (vs := [5]) (h := fun x => shR (x.at m)) (slice_ev h.lt h.le (ρ := [some (.sh (.lst (r.map bD))), some (.sh (.int (a : Int))), some (.sh (.int (b : Int))), some (.sh (shR m)), none, none]) (i := 0) (j := 1) (k := 2) rfl rfl rfl) (by have := h.few; omega) fun x hx => ⟨[some (.sh (.lst (r.map bD))), some (.sh (.int (a : Int))), some (.sh (.int (b : Int))), some (.sh (shR m)), none, some (.sh (bD x))], rfl, rfl, call2 rfl rfl (straight_place_ok (h.good x hx) hm)⟩
  have cm : (str r a b).map (fun x => shR (x.at m)) = ((str r a b).map (Bead.at m)).map shR := by rw [List.map_map]; rfl
  rw [cm] at c
  unfold m_stretch_middle b_stretch_middle
  exact fn_rt rfl rfl (seq_nx (own_of c) (frz_of rfl (ret_of (call2 (call3 rfl rfl rfl h.sw) rfl e))))
end
theorem tog_cat (f : Bead → Rat) : ∀ bs cs : List Bead, tog (bs ++ cs) f = tog bs f + tog cs f
  | [], cs => by
    show tog cs f = 0 + tog cs f
    grind
  | b :: bs, cs => by
    have ih := tog_cat f bs cs
    unfold tog at *
    simp only [List.cons_append, List.map_cons, wsum]
    rw [wsum_add ((bs ++ cs).map Bead.w), wsum_add (bs.map Bead.w), ih]
    grind
end BD
namespace BD
open PySem L2
theorem for_cons {g : Gv} {body : Sv} {d : D} {ds : List D} {ρ ρ1 ρ2 : Rho} {x : Option Fl} (h1 : g d ρ = some ρ1) (h2 : body ρ1 = some (.nx ρ2)) (h3 : forS g body ds ρ2 = x) : forS g body (d :: ds) ρ = x := by
  rw [forS, h1]
  simp only [Option.bind]
  rw [h2]
  exact h3
theorem for_of {f : EvL} {g : Gv} {body : Sv} {ρ : Rho} {ds : List D} {x : Option Fl} (h : f ρ = some (.vals ds)) (k : forS g body ds ρ = x) : sFor f g body ρ = x := by
  unfold sFor lbndS
  rw [h]
  exact k
theorem one_of {f : Ev} {ρ : Rho} {d : D} (h : f ρ = some (.val d)) : aCons f aNil ρ = some (.vals [d]) := by
  unfold aCons obndL
  rw [h]
  rfl
theorem wRng1_of {f : Ev} {ρ : Rho} {n : Nat} (h : f ρ = some (.val (.int (n : Int)))) (hn : n ≤ 1000) : wRng1 (aCons f aNil) ρ = some (.vals ((List.range' 0 n).map fun k : Nat => D.int ((k : Nat) : Int))) := by
  have b := big_few hn
  have r : rngD 0 1 n = (List.range' 0 n).map fun k : Nat => D.int ((k : Nat) : Int) := by
    simp [rngD, List.range_eq_range']
  unfold wRng1 lbndL
  rw [one_of h]
  dsimp only
  rw [if_pos b, Int.toNat_natCast, r]
theorem if_yes {q : Ev} {f g : Sv} {ρ : Rho} {x : Option Fl} (h : q ρ = some (.val (.bl true))) (k : f ρ = x) : sIf q f g ρ = x := by
  unfold sIf sbnd
  rw [h]
  exact k
theorem par_of {f g : Ev} {ρ : Rho} {x y : D} {i j : Nat} (h : f ρ = some (.val x)) (h2 : g ρ = some (.val y)) : sPar i j f g ρ = some (.nx ((ρ.set i (some (.sh x))).set j (some (.sh y)))) := by
  unfold sPar sbnd
  rw [h]
  dsimp only
  rw [h2]
theorem cat_of {fa fb : Ev} {ρ : Rho} {xs ys : List D} (h1 : fa ρ = some (.val (.lst xs))) (h2 : fb ρ = some (.val (.lst ys))) (l1 : xs.length ≤ 1000) (l2 : ys.length ≤ 1000) : lCat fa fb ρ = some (.vals (xs ++ ys)) := by
  have s1 : smallL xs = true := decide_eq_true (by omega)
  have s2 : smallL ys = true := decide_eq_true (by omega)
  simp [lCat, obndL, h1, h2, s1, s2]
theorem slice_of {f : Ev} {lo hi : EvO} {ρ : Rho} {ds : List D} {l h : Option Int} (h1 : f ρ = some (.val (.lst ds))) (h2 : lo ρ = some l) (h3 : hi ρ = some h) : lSlice f lo hi ρ = some (.vals (cutD ds l h)) := by
  simp [lSlice, obndL, h1, h2, h3]
theorem lst1_of {f : Ev} {ρ : Rho} {d : D} (h : f ρ = some (.val d)) : eFr (lLst (aCons f aNil)) ρ = some (.val (.lst [d])) := by
  simp [eFr, lLst, lbnd, aCons, aNil, obndL, lbndL, h, smallL]
theorem lst2_of {f f2 : Ev} {ρ : Rho} {d d2 : D} (h : f ρ = some (.val d)) (h2 : f2 ρ = some (.val d2)) : eFr (lLst (aCons f (aCons f2 aNil))) ρ = some (.val (.lst [d, d2])) := by
  simp [eFr, lLst, lbnd, aCons, aNil, obndL, lbndL, h, h2, smallL]
theorem seq_rt {f g : Sv} {ρ : Rho} {d : D} (h : f ρ = some (.rt d)) : sSeq f g ρ = some (.rt d) := by unfold sSeq; rw [h]
theorem eif_yes {q f g : Ev} {ρ : Rho} {x : Option Out} (h : q ρ = some (.val (.bl true))) (k : f ρ = x) : eIf q f g ρ = x := by
  unfold eIf obnd; rw [h]; exact k
theorem eif_no {q f g : Ev} {ρ : Rho} {x : Option Out} (h : q ρ = some (.val (.bl false))) (k : g ρ = x) : eIf q f g ρ = x := by
  unfold eIf obnd; rw [h]; exact k
theorem or_yes {f g : Ev} {ρ : Rho} (h : f ρ = some (.val (.bl true))) : qOr f g ρ = some (.val (.bl true)) := by
  unfold qOr obnd; rw [h]
theorem and_no {f g : Ev} {ρ : Rho} (h : f ρ = some (.val (.bl false))) : qAnd f g ρ = some (.val (.bl false)) := by
  unfold qAnd obnd; rw [h]
theorem not_no {f : Ev} {ρ : Rho} (h : f ρ = some (.val (.bl false))) : qNot (qV f) ρ = some (.val (.bl true)) := not_of (b := false) (by unfold qV obnd; rw [h]; rfl)
theorem two_of {f f2 : Ev} {ρ : Rho} {d d2 : D} (h : f ρ = some (.val d)) (h2 : f2 ρ = some (.val d2)) : aCons f (aCons f2 aNil) ρ = some (.vals [d, d2]) := by
  simp [aCons, aNil, obndL, lbndL, h, h2]
end BD
namespace BD
open PySem L2
theorem RS.of {t b : Int} {x : Rat} (h : 0 < b) (hb : b ≤ 60) (lo : -1000000 ≤ t) (hi : t ≤ 1000000) (e : (t : Rat) / b = x) : RS x := by
  obtain ⟨p, q, k, _, s, hk, e1, e2⟩ := shr_sh (a := t) h
  have hq := s.pos
  have hx : (p : Rat) / q = x := (cross (by omega) (by omega) (by rw [← e1, ← e2]; grind)).trans e
  obtain ⟨h1, h2⟩ := uniq s (shR_sh x) (rat_inj (by omega) hx)
  have a1 := abs_le_of_mul e1 hk
  have a2 := abs_le_of_mul e2 hk
  refine ⟨?_, ?_, ?_⟩ <;> omega
theorem pick6 (a b c d e f m : Int) : ∃ x, (x = a ∨ x = b ∨ x = c ∨ x = d ∨ x = e ∨ x = f) ∧ ixD (.tup [.int a, .int b, .int c, .int d, .int e, .int f]) (.int (m.fmod 6)) = some (.int x) := by
  have : m.fmod 6 = 0 ∨ m.fmod 6 = 1 ∨ m.fmod 6 = 2 ∨ m.fmod 6 = 3 ∨ m.fmod 6 = 4 ∨ m.fmod 6 = 5 := by rw [fmod_pos (by decide)]; omega
  rcases this with h | h | h | h | h | h <;> rw [h]
  · exact ⟨a, .inl rfl, rfl⟩
  · exact ⟨b, .inr (.inl rfl), rfl⟩
  · exact ⟨c, .inr (.inr (.inl rfl)), rfl⟩
  · exact ⟨d, .inr (.inr (.inr (.inl rfl))), rfl⟩
  · exact ⟨e, .inr (.inr (.inr (.inr (.inl rfl)))), rfl⟩
  · exact ⟨f, .inr (.inr (.inr (.inr (.inr rfl)))), rfl⟩
theorem pick3' (a b c m : Int) : ∃ x, (x = a ∨ x = b ∨ x = c) ∧ ixD (.tup [.int a, .int b, .int c]) (.int (m.fmod 3)) = some (.int x) := by
  have : m.fmod 3 = 0 ∨ m.fmod 3 = 1 ∨ m.fmod 3 = 2 := by rw [fmod_pos (by decide)]; omega
  rcases this with h | h | h <;> rw [h]
  · exact ⟨a, .inl rfl, rfl⟩
  · exact ⟨b, .inr (.inl rfl), rfl⟩
  · exact ⟨c, .inr (.inr rfl), rfl⟩
theorem pick2' (a b m : Int) : ∃ x, (x = a ∨ x = b) ∧ ixD (.tup [.int a, .int b]) (.int (m.fmod 2)) = some (.int x) := by
  have : m.fmod 2 = 0 ∨ m.fmod 2 = 1 := by rw [fmod_pos (by decide)]; omega
  rcases this with h | h <;> rw [h]
  · exact ⟨a, .inl rfl, rfl⟩
  · exact ⟨b, .inr rfl, rfl⟩
theorem modR {m : Int} (N : Int) (h : 0 < m) : 0 ≤ N.fmod m ∧ N.fmod m < m := by
  rw [fmod_pos h]
  exact ⟨Int.emod_nonneg _ (by omega), Int.emod_lt_of_pos _ h⟩
structure Cells (n : Nat) (cs : List Int) : Prop where
  ne : 0 < cs.length
  few : cs.length ≤ 63
  bits : ∀ i ∈ cs, Bd n i
structure Plan (B G K Lt : Int) : Prop where
  b1 : 0 < B
  b2 : B ≤ 60
  g1 : 0 < G
  g2 : G ≤ 90000
  k : ∃ m : Int, K = m.fmod 4
  l1 : 0 < Lt
  l2 : Lt ≤ 60
structure GX (r : List Bead) : Prop where
  gap : ∀ (i : Nat) (a b : Bead), r[i]? = some a → r[i + 1]? = some b → (1 : Rat) / 60 ≤ b.x - a.x
  slow : ∀ b ∈ r, -200000 ≤ b.v ∧ b.v ≤ 200000
  near : ∀ b ∈ r, RS (b.x + 1) ∧ RS (b.v - 1)
theorem one_more {t b : Int} (hb : 0 < b) : ((t + b : Int) : Rat) / (b : Rat) = (t : Rat) / (b : Rat) + 1 := by
  have : (b : Rat) ≠ 0 := cast_ne (by omega)
  push_cast
  grind
theorem one_less {t b : Int} (hb : 0 < b) : ((t - b : Int) : Rat) / (b : Rat) = (t : Rat) / (b : Rat) - 1 := by
  have : (b : Rat) ≠ 0 := cast_ne (by omega)
  push_cast
  grind
theorem gap60 {L L' B : Int} (h : L < L') (b1 : 0 < B) (b2 : B ≤ 60) : (1 : Rat) / 60 ≤ (L' : Rat) / (B : Rat) - (L : Rat) / (B : Rat) := by
  have bp : (0 : Rat) < (B : Rat) := Rat.intCast_pos.mpr b1
  have cp : (0 : Rat) < (B : Rat)⁻¹ := Rat.inv_pos.mpr bp
  have e : (B : Rat) * (B : Rat)⁻¹ = 1 := Rat.mul_inv_cancel _ (by grind)
  have h1 : (L : Rat) + 1 ≤ (L' : Rat) := by
    have : ((L + 1 : Int) : Rat) ≤ (L' : Rat) := Rat.intCast_le_intCast.mpr (by omega)
    rw [Rat.intCast_add] at this
    exact this
  have h2 : (B : Rat) ≤ 60 := by
    have : ((B : Int) : Rat) ≤ ((60 : Int) : Rat) := Rat.intCast_le_intCast.mpr b2
    exact this
  have m1 : 0 ≤ ((L' : Rat) - (L : Rat) - 1) * (B : Rat)⁻¹ := Rat.mul_nonneg (by grind) (by grind)
  have m2 : 0 ≤ (60 - (B : Rat)) * (B : Rat)⁻¹ := Rat.mul_nonneg (by grind) (by grind)
  rw [Rat.div_def (L' : Rat), Rat.div_def (L : Rat)]
  grind
theorem slow_of {t b : Int} (h1 : -200000 ≤ t) (h2 : t ≤ 200000) (hb : 0 < b) : -200000 ≤ (t : Rat) / (b : Rat) ∧ (t : Rat) / (b : Rat) ≤ 200000 := by
  have bp : (0 : Rat) < (b : Rat) := Rat.intCast_pos.mpr hb
  have cp : (0 : Rat) < (b : Rat)⁻¹ := Rat.inv_pos.mpr bp
  have e : (b : Rat) * (b : Rat)⁻¹ = 1 := Rat.mul_inv_cancel _ (by grind)
  have h0 : (1 : Rat) ≤ (b : Rat) := by
    have : ((1 : Int) : Rat) ≤ (b : Rat) := Rat.intCast_le_intCast.mpr (by omega)
    exact this
  have c1 : (b : Rat)⁻¹ ≤ 1 := by
    have m0 : 0 ≤ ((b : Rat) - 1) * (b : Rat)⁻¹ := Rat.mul_nonneg (by grind) (by grind)
    grind
  have g1 : (-200000 : Rat) ≤ (t : Rat) := by
    have : ((-200000 : Int) : Rat) ≤ (t : Rat) := Rat.intCast_le_intCast.mpr h1
    exact this
  have g2 : (t : Rat) ≤ 200000 := by
    have : (t : Rat) ≤ ((200000 : Int) : Rat) := Rat.intCast_le_intCast.mpr h2
    exact this
  rw [Rat.div_def]
  have m1 : 0 ≤ ((t : Rat) + 200000) * (b : Rat)⁻¹ := Rat.mul_nonneg (by grind) (by grind)
  have m2 : 0 ≤ (200000 - (t : Rat)) * (b : Rat)⁻¹ := Rat.mul_nonneg (by grind) (by grind)
  constructor <;> grind
theorem row_step {n : Nat} {cs : List Int} {W B G K L Lt Y Sm at' : Int} {al : Bool} {r : List Bead} (hY : 0 ≤ Y ∧ Y ≤ 20) (hSm : 1 ≤ Sm ∧ Sm ≤ 60) (hc : Cells n cs) (hW : Bd n W) (hn : n ≤ 20000000) (hn0 : 40 ≤ n) (p : Plan B G K Lt) (ha : 0 ≤ at' ∧ at' < 10) (hl : r.length ≤ 10) (hL : -450000 ≤ L ∧ L ≤ 90000 * at') (x0 x3 x6 x13 x16 x17 x18 x19 : Option Sl) :
    ∃ (b : Bead) (L' : Int) (y16 y17 y18 y19 : Option Sl), GB b ∧ ((-200000 ≤ b.v ∧ b.v ≤ 200000) ∧ RS (b.x + 1) ∧ RS (b.v - 1)) ∧ L < L' ∧ L' ≤ 90000 * (at' + 1) ∧ b.x = (L' : Rat) / (B : Rat) ∧
      l1_q_row [x0, some (.sh (.int Y)), some (.sh (.bl al)), x3, some (.sh (.lst (cs.map .int))), some (.sh (.int W)), x6, some (.sh (.int B)), some (.sh (.int G)), some (.sh (.int K)), some (.sh (.int L)), some (.sh (.int at')), some (.own (r.map bD)), x13, some (.sh (.int Sm)), some (.sh (.int Lt)), x16, x17, x18, x19] =
      some (.nx [x0, some (.sh (.int Y)), some (.sh (.bl al)), x3, some (.sh (.lst (cs.map .int))), some (.sh (.int W)), x6, some (.sh (.int B)), some (.sh (.int G)), some (.sh (.int K)), some (.sh (.int L')), some (.sh (.int at')), some (.own ((r ++ [b]).map bD)), x13, some (.sh (.int Sm)), some (.sh (.int Lt)), y16, y17, y18, y19]) := by
  obtain ⟨b1, b2, g1, g2, ⟨km, rfl⟩, l1, l2⟩ := p
  have ne := hc.ne
  have cne : ¬ cs.length = 0 := by omega
  have md := modR (at' + Y) (show (0 : Int) < cs.length by omega)
  obtain ⟨c, mc, ec⟩ := ix_ints (ns := cs) (i := (at' + Y).fmod (cs.length : Int)) (by omega) (by omega)
  obtain ⟨N, en⟩ := q_number (hc.bits c mc) hW (at' := at' + 11 * Y) (by omega) (by omega) hn hn0
  have hM : ∃ A M C : Int, 0 < A ∧ A ≤ 400001 ∧ 0 ≤ M ∧ M ≤ 200000 ∧ A ≤ 2 * M + 1 ∧ 0 < C ∧ C ≤ 60 ∧ ixD (.tup [.int 5, .int 11, .int 41, .int 400001]) (.int (km.fmod 4)) = some (.int A) ∧ ixD (.tup [.int 2, .int 5, .int 20, .int 200000]) (.int (km.fmod 4)) = some (.int M) ∧ ixD (.tup [.int 1, .int 1, .int 4, .int 60]) (.int (km.fmod 4)) = some (.int C) := by
    rcases mod4 km with h | h | h | h <;> rw [h]
    · exact ⟨5, 2, 1, by decide, by decide, by decide, by decide, by decide, by decide, by decide, rfl, rfl, rfl⟩
    · exact ⟨11, 5, 1, by decide, by decide, by decide, by decide, by decide, by decide, by decide, rfl, rfl, rfl⟩
    · exact ⟨41, 20, 4, by decide, by decide, by decide, by decide, by decide, by decide, by decide, rfl, rfl, rfl⟩
    · exact ⟨400001, 200000, 60, by decide, by decide, by decide, by decide, by decide, by decide, by decide, rfl, rfl, rfl⟩
  obtain ⟨A, M, C, a1, a2, m1, m2, m3, c1, c2, i1, i2', i3⟩ := hM
  have d1 := modR (N.fdiv 3) g1
  have d2 := modR (N.fdiv 270000) l1
  have d3 := modR (N.fdiv 16200000) a1
  have d4 := modR (N.fdiv 6480016200000) c1
  have gne : ¬ G = 0 := by omega
  have lne : ¬ Lt = 0 := by omega
  have ane : ¬ A = 0 := by omega
  have cne2 : ¬ C = 0 := by omega
  have q1 : Nat.log2 3 < 9000 := by decide
  have q2 : Nat.log2 270000 < 9000 := by decide
  have q3 : Nat.log2 16200000 < 9000 := by decide
  have q4 : Nat.log2 6480016200000 < 9000 := by decide
  have z1 : smallI 11 = true := by decide
  have z2 : smallI Y = true := (by unfold Bd; omega : Bd 20 Y).small (by decide)
  have sl : r.length ≤ 1000000 := by omega
  generalize hX1 : (N.fdiv 3).fmod G = X1 at *
  generalize hX2 : (N.fdiv 270000).fmod Lt = X2 at *
  generalize hX3 : (N.fdiv 16200000).fmod A = X3 at *
  generalize hX4 : (N.fdiv 6480016200000).fmod C = X4 at *
  have lo1 := low_R (t := X3 - M) (b := 1 + X4) (n := 20) (by omega) (by unfold Bd; omega) (by decide) rfl
  have lo2 := low_R (t := L + 1 + X1) (b := B) (n := 20) (by omega) (by unfold Bd; omega) (by decide) rfl
  obtain ⟨Wt, hWt, ew⟩ : ∃ Wt : Int, (1 ≤ Wt ∧ Wt ≤ 60) ∧ Wt = (if al = true then Sm else 1 + X2) := ⟨_, by split <;> omega, rfl⟩
  refine ⟨⟨Wt, ((L + 1 + X1 : Int) : Rat) / (B : Rat), ((X3 - M : Int) : Rat) / ((1 + X4 : Int) : Rat)⟩, L + 1 + X1, some (.sh (.int N)), some (.sh (.int Wt)), some (.sh (.int (X3 - M))), some (.sh (shR (((X3 - M : Int) : Rat) / ((1 + X4 : Int) : Rat)))), ⟨hWt.1, hWt.2, RS.of (by omega) (by omega) (by omega) (by omega) rfl, RS.of (by omega) (by omega) (by omega) (by omega) rfl⟩, ⟨slow_of (by omega) (by omega) (by omega), RS.of (t := L + 1 + X1 + B) (b := B) (by omega) (by omega) (by omega) (by omega) (one_more (by omega)), RS.of (t := X3 - M - (1 + X4)) (b := 1 + X4) (by omega) (by omega) (by omega) (by omega) (one_less (by omega))⟩, by omega, by omega, rfl, ?_⟩
  generalize ((X3 - M : Int) : Rat) / ((1 + X4 : Int) : Rat) = R1 at *
  generalize ((L + 1 + X1 : Int) : Rat) / (B : Rat) = R2 at *
  cases al <;> simp only [if_true, Bool.false_eq_true, if_false] at ew <;> subst ew <;> simp [l1_q_row, sSeq, sAsg, sbnd, eCall, lbnd, aCons, aNil, obndL, lbndL, eOp, obnd, eVar, i2, addI, modI, eB, lenB, ov, cne, ec, mulI, z1, z2, eC, en, gNm, divI, q1, q2, q3, q4, gne, hX1, eIf, qV, truthD, lne, hX2, eTup, smallL, i1, i2', i3, ane, cne2, hX3, hX4, subI, lo1, lo2, sApp, sl, bD]
theorem row_for {n : Nat} {cs : List Int} {W B G K Lt Y Sm : Int} {al : Bool} (hY : 0 ≤ Y ∧ Y ≤ 20) (hSm : 1 ≤ Sm ∧ Sm ≤ 60) (hc : Cells n cs) (hW : Bd n W) (hn : n ≤ 20000000) (hn0 : 40 ≤ n) (p : Plan B G K Lt) (x0 x3 x6 x13 : Option Sl) : ∀ (j i : Nat) (r : List Bead) (L : Int), i + j ≤ 10 → r.length = i → (∀ b ∈ r, GB b) → (∀ (i : Nat) (a b : Bead), r[i]? = some a → r[i + 1]? = some b → a.x < b.x) → GX r → (∀ b, r.getLast? = some b → b.x = (L : Rat) / (B : Rat)) → -450000 ≤ L → L ≤ 90000 * (i : Int) → ∀ (x11 x16 x17 x18 x19 : Option Sl),
    ∃ (r' : List Bead) (y10 y11 y16 y17 y18 y19 : Option Sl), r'.length = i + j ∧ (∀ b ∈ r', GB b) ∧ (∀ (i : Nat) (a b : Bead), r'[i]? = some a → r'[i + 1]? = some b → a.x < b.x) ∧ GX r' ∧
      forS (gNm 11) l1_q_row ((List.range' i j).map fun k : Nat => D.int ((k : Nat) : Int)) [x0, some (.sh (.int Y)), some (.sh (.bl al)), x3, some (.sh (.lst (cs.map .int))), some (.sh (.int W)), x6, some (.sh (.int B)), some (.sh (.int G)), some (.sh (.int K)), some (.sh (.int L)), x11, some (.own (r.map bD)), x13, some (.sh (.int Sm)), some (.sh (.int Lt)), x16, x17, x18, x19] =
      some (.nx [x0, some (.sh (.int Y)), some (.sh (.bl al)), x3, some (.sh (.lst (cs.map .int))), some (.sh (.int W)), x6, some (.sh (.int B)), some (.sh (.int G)), some (.sh (.int K)), y10, y11, some (.own (r'.map bD)), x13, some (.sh (.int Sm)), some (.sh (.int Lt)), y16, y17, y18, y19])
  | 0, i, r, L, _, hl, hg, hr, hX, _, _, _, x11, x16, x17, x18, x19 => ⟨r, _, x11, x16, x17, x18, x19, by omega, hg, hr, hX, rfl⟩
  | j + 1, i, r, L, hs, hl, hg, hr, hX, hla, hL1, hL2, x11, x16, x17, x18, x19 => by
    obtain ⟨b, L', y16, y17, y18, y19, gb, sl, lt, le, bx, e⟩ := row_step (al := al) (at' := (i : Int)) (r := r) (L := L) hY hSm hc hW hn hn0 p (by omega) (by omega) ⟨hL1, hL2⟩ x0 x3 x6 x13 x16 x17 x18 x19
    have bp : (0 : Rat) < (B : Rat) := Rat.intCast_pos.mpr p.b1
    have lt' : (L : Rat) / (B : Rat) < (L' : Rat) / (B : Rat) := by
      have h1 : (L : Rat) < (L' : Rat) := Rat.intCast_lt_intCast.mpr lt
      rw [Rat.div_def, Rat.div_def]
      exact Rat.mul_lt_mul_of_pos_right h1 (Rat.inv_pos.mpr bp)
    obtain ⟨r', y10, y11, z16, z17, z18, z19, q1, q2, q3, q4, e2⟩ := row_for (al := al) hY hSm hc hW hn hn0 p x0 x3 x6 x13 j (i + 1) (r ++ [b]) L' (by omega) (by simp [hl]) (fun c hc => by rcases List.mem_append.mp hc with h | h; exact hg c h; rw [List.mem_singleton.mp h]; exact gb)
      (fun k u v hu hv => by
        by_cases hk : k + 1 < r.length
        · rw [List.getElem?_append_left (by omega)] at hu
          rw [List.getElem?_append_left hk] at hv
          exact hr k u v hu hv
        · obtain ⟨hk2, _⟩ := List.getElem?_eq_some_iff.mp hv
          simp only [List.length_append, List.length_cons, List.length_nil] at hk2
          have hk3 : k + 1 = r.length := by omega
          rw [List.getElem?_append_left (by omega)] at hu
          rw [List.getElem?_append_right (by omega), hk3, Nat.sub_self] at hv
          have hv' : b = v := by simpa using hv
          have hla2 : r.getLast? = some u := by rw [List.getLast?_eq_getElem?, ← hk3]; exact hu
          rw [hla u hla2, ← hv', bx]
          exact lt')
      ⟨fun k u v hu hv => by
        by_cases hk : k + 1 < r.length
        · rw [List.getElem?_append_left (by omega)] at hu
          rw [List.getElem?_append_left hk] at hv
          exact hX.gap k u v hu hv
        · obtain ⟨hk2, _⟩ := List.getElem?_eq_some_iff.mp hv
          simp only [List.length_append, List.length_cons, List.length_nil] at hk2
          have hk3 : k + 1 = r.length := by omega
          rw [List.getElem?_append_left (by omega)] at hu
          rw [List.getElem?_append_right (by omega), hk3, Nat.sub_self] at hv
          have hv' : b = v := by simpa using hv
          have hla2 : r.getLast? = some u := by rw [List.getLast?_eq_getElem?, ← hk3]; exact hu
          rw [hla u hla2, ← hv', bx]
          exact gap60 lt p.b1 p.b2, fun c hc => by rcases List.mem_append.mp hc with h | h; exact hX.slow c h; rw [List.mem_singleton.mp h]; exact sl.1, fun c hc => by rcases List.mem_append.mp hc with h | h; exact hX.near c h; rw [List.mem_singleton.mp h]; exact sl.2⟩
      (fun c hc => by
        rw [List.getLast?_append] at hc
        have hc' : b = c := by simpa using hc
        rw [← hc', bx]) (by omega) (by omega) (some (.sh (.int (i : Int)))) y16 y17 y18 y19
    refine ⟨r', y10, y11, z16, z17, z18, z19, by omega, q2, q3, q4, ?_⟩
    rw [List.range'_succ, List.map_cons]
    exact for_cons rfl e e2
end BD
namespace BD
open PySem L2
structure Nice (k : Nat) (d : D) : Prop where
  ex : ∃ p, pyO d = some p ∧ p.canLay0 = true ∧ p.depth ≤ k
theorem nice_int (i : Int) : Nice 0 (.int i) := ⟨_, rfl, rfl, Nat.le_refl _⟩
theorem nice_list {k : Nat} : ∀ {ds : List D}, (∀ d ∈ ds, Nice k d) → ∃ ps, pyOs ds = some ps ∧ PyData.canLayAll0 ps = true ∧ PyData.depthAll ps ≤ k
  | [], _ => ⟨[], rfl, rfl, Nat.zero_le _⟩
  | d :: ds, h => by
    obtain ⟨p, e, c, l⟩ := (h d (List.mem_cons_self ..)).ex
    obtain ⟨ps, e2, c2, l2⟩ := nice_list (ds := ds) fun x hx => h x (List.mem_cons_of_mem _ hx)
    refine ⟨p :: ps, by simp only [pyOs, e, e2], by simp only [PyData.canLayAll0, c, c2, Bool.and_self], ?_⟩
    simp only [PyData.depthAll]
    omega
theorem nice_lst {k : Nat} {ds : List D} (h : ∀ d ∈ ds, Nice k d) : Nice (k + 1) (.lst ds) := by
  obtain ⟨ps, e, c, l⟩ := nice_list h
  exact ⟨.list ps, by simp only [pyO, e, Option.map_some], by simp only [PyData.canLay0, c], by simp only [PyData.depth]; omega⟩
theorem Nice.mono {k m : Nat} {d : D} (h : Nice k d) (l : k ≤ m) : Nice m d := by
  obtain ⟨p, e, c, x⟩ := h.ex
  exact ⟨p, e, c, by omega⟩
theorem nice_map {α : Type} {k : Nat} {f : α → D} {xs : List α} (h : ∀ x, Nice k (f x)) : Nice (k + 1) (.lst (xs.map f)) := nice_lst fun d hd => by
  obtain ⟨x, _, rfl⟩ := List.mem_map.mp hd
  exact h x
theorem eqvD_refl {k : Nat} {d : D} (h : Nice k d) (hk : k ≤ 64) : eqvD d d = some true := by
  obtain ⟨p, e, c, l⟩ := h.ex
  have s : SeqAt.shaped p = true := by
    unfold SeqAt.shaped
    rw [c, decide_eq_true (show p.depth ≤ 64 by omega)]
    rfl
  unfold eqvD
  rw [e]
  simp only [s, Bool.and_self, if_true]
  rw [SeqAt.eqv_refl p (by first | exact c | exact s)]
theorem neD_refl {k : Nat} {d : D} (h : Nice k d) (hk : k ≤ 64) : neD d d = some (.bl false) := by unfold neD; rw [eqvD_refl h hk]; rfl
theorem neD_cons_nil {k : Nat} {d : D} {ds : List D} (h : Nice k (.lst (d :: ds))) (hk : k ≤ 64) : neD (.lst (d :: ds)) (.lst []) = some (.bl true) := by
  obtain ⟨p, e, c, l⟩ := h.ex
  have s : SeqAt.shaped p = true := by
    unfold SeqAt.shaped
    rw [c, decide_eq_true (show p.depth ≤ 64 by omega)]
    rfl
  have s0 : SeqAt.shaped (.list []) = true := by simp [SeqAt.shaped, PyData.canLay0, PyData.canLayAll0, PyData.depth, PyData.depthAll]
  simp only [pyO, pyOs] at e
  cases q1 : pyO d with
  | none => rw [q1] at e; cases e
  | some p1 =>
    cases q2 : pyOs ds with
    | none => rw [q1, q2] at e; cases e
    | some ps =>
      rw [q1, q2] at e
      cases e
      simp [neD, eqvD, pyO, pyOs, q1, q2, s, s0, PyData.eqv, PyData.eqvAll]
end BD
namespace BD
open PySem L2
theorem parM_of {fs : EvL} {f : Ev} {ρ : Rho} {xs : List D} {y : D} {i j : Nat} (h : fs ρ = some (.vals xs)) (h2 : f ρ = some (.val y)) : sParM i j fs f ρ = some (.nx ((ρ.set i (some (.own xs))).set j (some (.sh y)))) := by
  unfold sParM lbndS sbnd
  rw [h]
  dsimp only
  rw [h2]
theorem bits {n : Nat} {cs : List Int} (hc : Cells n cs) : Bd (n + 64) cs.sum := (Bd.sum hc.bits (by have := hc.few; omega)).mono (by have := hc.few; omega)
theorem row_okM {ns : List Int} (hl : ns.length ≤ 63) (hb : ∀ i ∈ ns, Bd 1048576 i) {Y Mo : Int} (hY : 0 ≤ Y ∧ Y ≤ 20) (hMo : 1 ≤ Mo ∧ Mo ≤ 10) (al : Bool) : ∃ r, GR r ∧ GX r ∧ m_q_row [.lst (ns.map .int), .int Y, .bl al, .int Mo] = some (.val (.lst (r.map bD))) := by
  have hcs : ∃ cs, Cells 1048576 cs ∧ ∀ ρ : Rho, ρ[0]? = some (some (.sh (.lst (ns.map .int)))) → (eIf (eOp neD (eVar 0) (eFr (lLst aNil))) (eFr (lSlice (eVar 0) oNone (oSome (eC (.int 63))))) (eFr (lLst (aCons (eC (.int 2)) aNil)))) ρ = some (.val (.lst (cs.map .int))) := by
    cases hns : ns with
    | nil =>
      refine ⟨[2], ⟨by decide, by decide, fun i hi => ?_⟩, fun ρ hρ => ?_⟩
      · rw [List.mem_singleton.mp hi]
        exact (by unfold Bd; decide : Bd 2 2).mono (by decide)
      · have z : neD (.lst []) (.lst []) = some (.bl false) := by kernel_rfl
        rw [List.map_nil] at hρ
        simp [eIf, obnd, eOp, eVar, hρ, eFr, lLst, aNil, lbnd, lbndL, smallL, ov, z, aCons, eC, obndL]
    | cons a as =>
      refine ⟨a :: as, ⟨by simp, by rw [← hns]; exact hl, fun i hi => hb i (by rw [hns]; exact hi)⟩, fun ρ hρ => ?_⟩
      have z : neD (.lst (.int a :: as.map .int)) (.lst []) = some (.bl true) := neD_cons_nil (k := 1) (by have := nice_map (xs := a :: as) fun i => nice_int i; simpa using this) (by decide)
      have c : cutD (.int a :: as.map .int) none (some 63) = .int a :: as.map .int := by
        have := cut63 (ns := a :: as) (by rw [← hns]; exact hl)
        simpa using this
      rw [List.map_cons] at hρ
      simp [eIf, obnd, eOp, eVar, hρ, eFr, lLst, aNil, lbnd, lbndL, smallL, ov, z, lSlice, obndL, oNone, oSome, eC, c]
  obtain ⟨cs, hc, ec⟩ := hcs
  have hW : Bd 1048700 (cs.sum + Y) := ((bits hc).add ((by unfold Bd; omega : Bd 5 Y).mono (by decide))).mono (by decide)
  have hc2 : Cells 1048700 cs := ⟨hc.ne, hc.few, fun i hi => (hc.bits i hi).mono (by decide)⟩
  generalize hS : cs.sum + Y = W at *
  obtain ⟨B, hB, eB'⟩ := pick6 1 1 2 3 4 60 (W.fdiv 10)
  obtain ⟨G, hG, eG⟩ := pick3' 3 9 90000 (W.fdiv 60)
  obtain ⟨NB, nb⟩ := q_number (cell := W) (whole := 5) (at' := Y + 3) hW ((by unfold Bd; decide : Bd 3 5).mono (by decide)) (by omega) (by omega) (by decide : 1048700 ≤ 20000000) (by decide)
  obtain ⟨Lt, hLt, eLt⟩ := pick2' 3 60 (NB.fdiv 259200)
  have pl : Plan B G ((W.fdiv 180).fmod 4) Lt := ⟨by omega, by omega, by omega, by omega, ⟨_, rfl⟩, by omega, by omega⟩
  have mm := modR W (show (0 : Int) < Mo by omega)
  have m6 := modR (W.fdiv 720) (show (0 : Int) < 6 by decide)
  generalize hM6 : (W.fdiv 720).fmod 6 = M6 at *
  have lo : -450000 ≤ -G * M6 ∧ -G * M6 ≤ 0 := by
    have h6 : M6 = 0 ∨ M6 = 1 ∨ M6 = 2 ∨ M6 = 3 ∨ M6 = 4 ∨ M6 = 5 := by omega
    rcases h6 with h | h | h | h | h | h <;> subst h <;> rcases hG with h | h | h <;> subst h <;> decide
  obtain ⟨cn, hcn⟩ : ∃ cn : Nat, 1 + W.fmod Mo = (cn : Int) := ⟨(1 + W.fmod Mo).toNat, by omega⟩
  obtain ⟨r, y10, y11, y16, y17, y18, y19, q1, q2, q3, qx, f⟩ := row_for (al := al) (Sm := 1 + (NB.fdiv 4320).fmod 60) hY (by have := modR (NB.fdiv 4320) (show (0 : Int) < 60 by decide); omega) hc2 hW (by decide) (by decide) pl (some (.sh (.lst (ns.map .int)))) (some (.sh (.int Mo))) (some (.sh (.int (cn : Int)))) (some (.sh (.int NB))) cn 0 [] (-G * M6) (by omega) rfl (fun _ h => nomatch h) (fun _ _ _ h => nomatch h) ⟨(fun _ _ _ h => nomatch h), (fun _ h => nomatch h), (fun _ h => nomatch h)⟩ (fun _ h => nomatch h) lo.1 (by simpa using lo.2) none none none none none
  refine ⟨r, ⟨by omega, by omega, q2, q3⟩, qx, ?_⟩
  have z1 : smallI (-G) = true := (by unfold Bd; omega : Bd 20 (-G)).small (by decide)
  have z2 : smallI M6 = true := (by unfold Bd; omega : Bd 20 M6).small (by decide)
  have k10 : Nat.log2 10 < 9000 := by decide
  have k60 : Nat.log2 60 < 9000 := by decide
  have k180 : Nat.log2 180 < 9000 := by decide
  have k720 : Nat.log2 720 < 9000 := by decide
  have k4320 : Nat.log2 4320 < 9000 := by decide
  have k259 : Nat.log2 259200 < 9000 := by decide
  generalize hK : (W.fdiv 180).fmod 4 = K at *
  generalize hSm : 1 + (NB.fdiv 4320).fmod 60 = Sm at *
  have a0 := ec [some (.sh (.lst (ns.map .int))), some (.sh (.int Y)), some (.sh (.bl al)), some (.sh (.int Mo)), none, none, none, none, none, none, none, none, none, none, none, none, none, none, none, none] rfl
  have a1 : (eOp (i2 addI) (eB sumB (aCons (eVar 4) aNil)) (eVar 1)) [some (.sh (.lst (ns.map .int))), some (.sh (.int Y)), some (.sh (.bl al)), some (.sh (.int Mo)), some (.sh (.lst (cs.map .int))), none, none, none, none, none, none, none, none, none, none, none, none, none, none, none] = some (.val (.int W)) := op_of (sum_of (ns := cs) rfl) rfl (by simp [i2, addI, hS])
  have mo : Mo ≠ 0 := by omega
  unfold m_q_row b_q_row
  refine fn_rt rfl rfl (seq_nx (set_of a0) (seq_nx (set_of a1) ?_))
  refine seq_nx (set_of (d := .int (cn : Int)) (by simp [eOp, obnd, eC, eVar, ov, i2, modI, addI, hcn, mo])) ?_
  refine seq_nx (set_of (d := .int B) (by simp [eOp, obnd, eC, eVar, ov, i2, modI, divI, k10, eTup, lbnd, aCons, aNil, obndL, lbndL, smallL, eB'])) ?_
  refine seq_nx (set_of (d := .int G) (by simp [eOp, obnd, eC, eVar, ov, i2, modI, divI, k60, eTup, lbnd, aCons, aNil, obndL, lbndL, smallL, eG])) ?_
  refine seq_nx (set_of (d := .int K) (by simp [eOp, obnd, eC, eVar, ov, i2, modI, divI, k180, hK])) ?_
  refine seq_nx (set_of (d := .int (-G * M6)) (by simp [eOp, obnd, eC, eNeg, eVar, ov, i2, modI, divI, k720, hM6, mulI, z1, z2])) ?_
  refine seq_nx (parM_of (xs := []) (y := .int NB) rfl (call3 rfl (op_of rfl rfl rfl) rfl nb)) ?_
  refine seq_nx (par_of (x := .int Sm) (y := .int Lt) (by simp [eOp, obnd, eC, eVar, ov, i2, modI, divI, addI, k4320, hSm]) (by simp [eOp, obnd, eC, eVar, ov, i2, modI, divI, k259, eTup, lbnd, aCons, aNil, obndL, lbndL, smallL, eLt])) ?_
  refine seq_nx (for_of (wRng1_of (n := cn) rfl (by omega)) f) ?_
  exact frz_of rfl (ret_of rfl)
end BD
namespace BD
open PySem L2
def wholeD : D → Bool
  | .int _ => true
  | _ => false
def plainD : D → Bool
  | .fn _ => false
  | .exn _ => false
  | .obj _ _ => false
  | .cell _ => false
  | .dic _ _ => false
  | _ => true
inductive BadSh : D → Prop
  | kind {d : D} (h : plainD d = true) (n : ∀ ds, d ≠ .tup ds) : BadSh d
  | len {ds : List D} (h : ds.length ≠ 2) : BadSh (.tup ds)
  | top {a b : D} (h : plainD a = true) (w : wholeD a = false) : BadSh (.tup [a, b])
  | bot {a : Int} {b : D} (h : plainD b = true) (w : wholeD b = false) : BadSh (.tup [.int a, b])
  | low {a b : Int} (h : b < 1) : BadSh (.tup [.int a, .int b])
  | gcd {a b : Int} (h : 0 < b) (g : Int.gcd a b ≠ 1) : BadSh (.tup [.int a, .int b])
theorem isi_ev {c : String} {f : Ev} {ρ : Rho} {d d2 : D} (h : f ρ = some (.val d)) (k : isiB c d = some d2) : eIsi c f ρ = some (.val d2) := by
  unfold eIsi obnd; rw [h]; dsimp only; rw [k]; rfl
end BD
namespace BD
open PySem L2
theorem blsO_of {α : Type} {h : α → Bool} : ∀ (xs : List α), blsO (xs.map fun x => D.bl (h x)) = some (xs.map h)
  | [] => rfl
  | x :: xs => by simp [blsO, blsO_of xs]
theorem seq_of {f : Ev} {ρ : Rho} {ds : List D} (h : f ρ = some (.val (.lst ds))) : wSeq f ρ = some (.vals ds) := by
  simp [wSeq, obndL, h]
theorem fmod_pos_range {a : Int} {n : Int} (h : 0 < n) : 0 ≤ a.fmod n ∧ a.fmod n < n := by
  rw [fmod_pos h]
  exact ⟨Int.emod_nonneg a (by omega), Int.emod_lt_of_pos a h⟩
theorem mod_of {i j : Int} (h : 0 < j) : i2 modI (.int i) (.int j) = some (.int (i.fmod j)) := by
  have : j ≠ 0 := by omega
  simp [i2, modI, this]
theorem div_of {i j : Int} (h : 0 < j) (hs : j.natAbs.log2 < 9000) : i2 divI (.int i) (.int j) = some (.int (i.fdiv j)) := by
  have : j ≠ 0 := by omega
  simp [i2, divI, this, hs]
end BD
namespace BD
open PySem L2
section
variable {f g q : MEv} {ρ ρ' : Rho} {M M1 M2 : Mem} {d : D} {ds : List D}
theorem mfn_rt {n m : Nat} {body : MSv} {M' : Mem} (hl : ds.length = n) (hρ : ds.map (fun d => some (Sl.sh d)) ++ List.replicate m none = ρ) (h : body ρ M = some (.rt d, M')) : fnSemM n m body ds M = some (.val d, M') := by
  unfold fnSemM
  rw [if_pos hl, hρ, h]
theorem mseq_nx {f g : MSv} {x : Option (Fl × Mem)} (h : f ρ M = some (.nx ρ', M1)) (k : g ρ' M1 = x) : mSeq f g ρ M = x := by unfold mSeq; rw [h]; exact k
theorem mret_of (h : f ρ M = some (.val d, M1)) : mRet f ρ M = some (.rt d, M1) := by unfold mRet sbM; rw [h]
theorem mset_of {i : Nat} (h : f ρ M = some (.val d, M1)) : mSet f i ρ M = some (.nx (ρ.set i (some (.sh d))), M1) := by unfold mSet sbM; rw [h]
theorem mifS_no {s t : MSv} {x : Option (Fl × Mem)} (h : q ρ M = some (.val (.bl false), M1)) (k : t ρ M1 = x) : mIfS q s t ρ M = x := by unfold mIfS sbM; rw [h]; exact k
theorem mifS_yes {s t : MSv} {x : Option (Fl × Mem)} (h : q ρ M = some (.val (.bl true), M1)) (k : s ρ M1 = x) : mIfS q s t ρ M = x := by unfold mIfS sbM; rw [h]; exact k
theorem mifN {s : MSv} (h : q ρ M = some (.val (.bl false), M1)) : mIfS q s mNext ρ M = some (.nx ρ, M1) := mifS_no h rfl
theorem mL_of {f : Ev} {o : Out} (h : f ρ = some o) : mL f ρ M = some (o, M) := by unfold mL; rw [h]; rfl
theorem mS0_of {is : List Nat} {f : Ev} (hρ : seeR (see0 M 4) is 0 ρ = ρ') (h : f ρ' = some (.val d)) (k : flatD d = true) : mS0 is f ρ M = some (.val d, M) := by unfold mS0 chk; rw [hρ, h]; dsimp only; rw [if_pos k]
theorem mQ0_of {is : List Nat} {f : Ev} {o : Out} (hρ : seeR (see0 M 4) is 0 ρ = ρ') (h : f ρ' = some o) : mQ0 is f ρ M = some (o, M) := by unfold mQ0; rw [hρ, h]; rfl
theorem mnil_of : mNil ρ M = some (.vals [], M) := rfl
theorem mcons_of {gs : MEvL} (h : f ρ M = some (.val d, M1)) (k : gs ρ M1 = some (.vals ds, M2)) : mCons f gs ρ M = some (.vals (d :: ds), M2) := by unfold mCons mbndL; rw [h]; dsimp only; unfold lmbndL; rw [k]
theorem mnew_of {f : EvL} (h : f ρ = some (.vals ds)) : mNew f ρ M = some (.val (.cell M.length), M ++ [.lst ds]) := by unfold mNew; rw [h]
theorem mcapp_of {n : Nat} {fo fe : MEv} {es es' : List D} (h1 : fo ρ M = some (.val (.cell n), M1)) (h2 : M1[n]? = some (.lst es)) (h3 : fe ρ M1 = some (.val d, M2)) (h4 : M2[n]? = some (.lst es')) (s : smallL es' = true) : mCApp fo fe ρ M = some (.nx ρ, M2.set n (.lst (es' ++ [d]))) := by
  unfold mCApp sbM; rw [h1]; dsimp only; rw [h2]; dsimp only; rw [h3]; dsimp only; rw [h4]; dsimp only; rw [if_pos s]
theorem mwseq_of (h : f ρ M = some (.val (.lst ds), M1)) : wSeqM f ρ M = some (.vals ds, M1) := by unfold wSeqM mbndL; rw [h]
theorem mfor_of {fs : MEvL} {g : Gv} {body : MSv} {x : Option (Fl × Mem)} (h : fs ρ M = some (.vals ds, M1)) (k : forM g body ds ρ M1 = x) : mFor fs g body ρ M = x := by unfold mFor slM; rw [h]; exact k
theorem mfor_cons {g : Gv} {body : MSv} {ρ1 ρ2 : Rho} {x : Option (Fl × Mem)} (h1 : g d ρ = some ρ1) (n1 : noOwn ρ1 = true) (h2 : body ρ1 M = some (.nx ρ2, M2)) (h3 : forM g body ds ρ2 M2 = x) : forM g body (d :: ds) ρ M = x := by
  unfold forM; rw [h1]; dsimp only; rw [if_pos n1, h2]; exact h3
end
end BD
namespace BD
open PySem L2
section
variable {f g q : MEv} {ρ ρ' : Rho} {M M1 M2 : Mem} {d : D} {ds : List D} {n : Nat}
end
abbrev os (x : Option D) : Option Sl := x.map Sl.sh
end BD
namespace BD
open PySem L2 TL PySem.StrLaws
theorem eB_of {g : List D → Option D} {fs : EvL} {ρ : Rho} {ds : List D} {d : D} (h : fs ρ = some (.vals ds)) (k : g ds = some d) : eB g fs ρ = some (.val d) := by
  unfold eB lbnd
  rw [h]
  dsimp only
  rw [k]
  rfl
theorem tup3_of {f f2 f3 : Ev} {ρ : Rho} {d d2 d3 : D} (h : f ρ = some (.val d)) (h2 : f2 ρ = some (.val d2)) (h3 : f3 ρ = some (.val d3)) : eTup (aCons f (aCons f2 (aCons f3 aNil))) ρ = some (.val (.tup [d, d2, d3])) := by
  simp [eTup, lbnd, aCons, aNil, obndL, lbndL, h, h2, h3, smallL]
end BD
namespace BD
open PySem L2
theorem moment_ok (N : Int) : ∃ m : Rat, BdR 30 m ∧ 0 ≤ m.num ∧ m_q_moment [.int N] = some (.val (shR m)) := by
  obtain ⟨A, hA, eA⟩ := pick4 1 9 60 1000000000 (N.fdiv 5)
  obtain ⟨C, hC, eC'⟩ := pick3' 1 4 30 (N.fdiv 11)
  have ap : 0 < A ∧ A ≤ 1000000000 := by omega
  have cp : 0 < C ∧ C ≤ 30 := by omega
  clear hA hC
  have d1 := modR N ap.1
  have d2 := modR (N.fdiv 7) cp.1
  have ane : ¬ A = 0 := by omega
  have cne : ¬ C = 0 := by omega
  have k5 : Nat.log2 5 < 9000 := by decide
  have k7 : Nat.log2 7 < 9000 := by decide
  have k11 : Nat.log2 11 < 9000 := by decide
  generalize hX : N.fmod A = X at *
  generalize hY : (N.fdiv 7).fmod C = Y at *
  have lo := low_R (t := X) (b := 1 + Y) (n := 30) (by omega) (by unfold Bd; omega) (by decide) rfl
  refine ⟨_, BdR.div (n := 30) (t := X) (b := 1 + Y) (by omega) (by unfold Bd; omega) (by unfold Bd; omega) rfl, ?_, ?_⟩
  · obtain ⟨p, q, k, _, s, hk, e1, e2⟩ := shr_sh (a := X) (b := 1 + Y) (by omega)
    have hq := s.pos
    have hx : (p : Rat) / q = (X : Rat) / ((1 + Y : Int) : Rat) := cross (by omega) (by omega) (by rw [← e1, ← e2]; grind)
    obtain ⟨h1, h2⟩ := uniq s (shR_sh _) (rat_inj (by omega) hx)
    rw [← h1]
    have : 0 ≤ p * k := by omega
    exact Int.nonneg_of_mul_nonneg_left this hk
  · generalize (X : Rat) / ((1 + Y : Int) : Rat) = R at *
    simp [m_q_moment, b_q_moment, fnSem, sRet, sbnd, eCall, lbnd, aCons, aNil, obndL, lbndL, eOp, obnd, eVar, eC, ov, i2, modI, divI, addI, powI, eTup, smallL, k5, k7, k11, eA, eC', ane, cne, hX, hY, lo]
end BD
namespace BD
open PySem L2
section
variable {n m : Nat} {x y : Rat}
theorem BdR.neg (h : BdR n x) : BdR n (-x) := ⟨h.t.neg, h.b⟩
theorem far_w (hx : BdR n x) (hy : BdR m y) (hn : n ≤ 8000) (hm : m ≤ 8000) : m_q_far [shR x, shR y] = some (.val (.int (x.num * y.den - y.num * x.den))) := by
  obtain ⟨s1, s2⟩ := hx.small hn
  obtain ⟨s3, s4⟩ := hy.small hm
  simp [m_q_far, b_q_far, fnSem, sRet, sbnd, eOp, obnd, eVar, eC, ix_R0, ix_R1, ov, i2, mulI, subI, s1, s2, s3, s4]
theorem far_pos' {x y : Rat} : 0 < x.num * y.den - y.num * x.den ↔ y < x := by
  have := Rat.lt_iff y x
  constructor
  · intro h; exact this.mpr (by omega)
  · intro h; have := this.mp h; omega
theorem q_part_R (hx : BdR n x) (hy : BdR m y) (h0 : 0 < y.num) (h : n + m ≤ 7900) : m_q_part [shR x, shR y] = some (.val (shR (x / y))) := by
  obtain ⟨s1, s2⟩ := hx.small (by omega)
  obtain ⟨s3, s4⟩ := hy.small (by omega)
  have bb : Bd (n + m) ((x.den : Int) * y.num) := hx.b.mul hy.t
  have e := low_R (t := x.num * y.den) (b := x.den * y.num) (x := x / y) (Int.mul_pos (den_pos x) h0) bb (by omega) (div_val x y (by omega))
  simp [m_q_part, b_q_part, fnSem, sRet, sbnd, eOp, obnd, eVar, eC, ix_R0, ix_R1, ov, i2, mulI, s1, s2, s3, s4, eCall, lbnd, aCons, aNil, obndL, lbndL, e]
end
theorem there_ok {n m : Nat} {p v t : Rat} (h1 : BdR n p) (h2 : BdR n v) (ht : BdR m t) (hs : n + n + m ≤ 7900) : m_q_there [.tup [shR p, shR v], shR t] = some (.val (shR (p + v * t))) := by
  have e1 := q_by_R h2 ht (by omega)
  have e2 := q_sum_R h1 (h2.mul ht) (by omega)
  unfold m_q_there b_q_there
  exact fn_rt rfl rfl (ret_of (call2 (op_of rfl rfl rfl) (call2 (op_of rfl rfl rfl) rfl e1) e2))
def cmpI (x y : Rat) : Int := if y < x then 1 else if x < y then -1 else 0
theorem compared_ok {n m : Nat} {x y : Rat} (hx : BdR n x) (hy : BdR m y) (hn : n ≤ 8000) (hm : m ≤ 8000) : m_compared [shR x, shR y] = some (.val (.int (cmpI x y))) := by
  obtain ⟨s1, s2⟩ := hx.small hn
  obtain ⟨s3, s4⟩ := hy.small hm
  have h1 := Rat.lt_iff x y
  have h2 := Rat.lt_iff y x
  unfold cmpI
  by_cases g : y < x
  · rw [if_pos g]
    have g1 := h2.mp g
    simp [m_compared, b_compared, fnSem, sSeq, sAsg, sbnd, eOp, obnd, eVar, eC, ix_R0, ix_R1, ov, i2, mulI, s1, s2, s3, s4, gNm, sIf, gtI, ltI, g1, sNext, sRet, eNeg]
  · rw [if_neg g]
    have g1 : ¬ (y.num * x.den < x.num * y.den) := fun z => g (h2.mpr z)
    by_cases l : x < y
    · rw [if_pos l]
      have l1 := h1.mp l
      simp [m_compared, b_compared, fnSem, sSeq, sAsg, sbnd, eOp, obnd, eVar, eC, ix_R0, ix_R1, ov, i2, mulI, s1, s2, s3, s4, gNm, sIf, gtI, ltI, g1, l1, sNext, sRet, eNeg]
    · rw [if_neg l]
      have l1 : ¬ (x.num * y.den < y.num * x.den) := fun z => l (h1.mpr z)
      simp [m_compared, b_compared, fnSem, sSeq, sAsg, sbnd, eOp, obnd, eVar, eC, ix_R0, ix_R1, ov, i2, mulI, s1, s2, s3, s4, gNm, sIf, gtI, ltI, g1, l1, sNext, sRet, eNeg]
theorem cmp_lt {x y : Rat} : cmpI x y < 0 ↔ x < y := by
  unfold cmpI
  by_cases g : y < x
  · rw [if_pos g]
    exact ⟨fun h => by omega, fun h => by grind⟩
  · rw [if_neg g]
    by_cases l : x < y
    · rw [if_pos l]; simp [l]
    · rw [if_neg l]; simp [l]
end BD
namespace BD
open PySem L2
def kk (a b : Nat) : List Key := [.inl (a : Int), .inl (b : Int)]
theorem kk_inj {a b c d : Nat} (h : kk a b = kk c d) : a = c ∧ b = d := by
  unfold kk at h
  simp only [List.cons.injEq, Sum.inl.injEq, and_true] at h
  omega
def midB (bs : List Bead) (t : Rat) (a b : Nat) : Rat := tog (str bs a b) (Bead.at t) / (wts (str bs a b) : Rat)
theorem lookD_snoc_new {k : List Key} {d : D} : ∀ {ks : List (List Key)} {ds : List D}, ks.length = ds.length → k ∉ ks → lookD k (ks ++ [k]) (ds ++ [d]) = some d
  | [], [], _, _ => by simp [lookD]
  | [], _ :: _, h, _ => by simp at h
  | _ :: _, [], h, _ => by simp at h
  | k' :: ks, d' :: ds, h, n => by
    have h1 : k' ≠ k := fun z => n (by rw [z]; exact List.mem_cons_self ..)
    have ih := lookD_snoc_new (k := k) (d := d) (ks := ks) (ds := ds) (by simpa using h) (fun z => n (List.mem_cons_of_mem _ z))
    show lookD k (k' :: (ks ++ [k])) (d' :: (ds ++ [d])) = _
    rw [lookD, if_neg h1]
    exact ih
theorem lookD_snoc_old {k k2 : List Key} {d x : D} : ∀ {ks : List (List Key)} {ds : List D}, ks.length = ds.length → lookD k ks ds = some x → lookD k (ks ++ [k2]) (ds ++ [d]) = some x
  | [], [], _, h => by simp [lookD] at h
  | [], _ :: _, h, _ => by simp at h
  | _ :: _, [], h, _ => by simp at h
  | k' :: ks, d' :: ds, h, e => by
    show lookD k (k' :: (ks ++ [k2])) (d' :: (ds ++ [d])) = _
    rw [lookD] at e ⊢
    by_cases z : k' = k
    · rw [if_pos z] at e ⊢; exact e
    · rw [if_neg z] at e ⊢
      exact lookD_snoc_old (by simpa using h) e
structure Dc (S : Nat → Nat → Prop) (val : Nat → Nat → Rat) (N : Nat) (ks : List (List Key)) (ds : List D) : Prop where
  len : ks.length = ds.length
  few : ks.length ≤ N
  has : ∀ a b, S a b → lookD (kk a b) ks ds = some (shR (val a b))
  only : ∀ k ∈ ks, ∃ a b, S a b ∧ k = kk a b
theorem Dc.put {S S' : Nat → Nat → Prop} {val : Nat → Nat → Rat} {N : Nat} {ks : List (List Key)} {ds : List D} {a b : Nat} (c : Dc S val N ks ds) (new : ¬ S a b) (hS : ∀ x y, S' x y ↔ S x y ∨ (x = a ∧ y = b)) : Dc S' val (N + 1) (ks ++ [kk a b]) (ds ++ [shR (val a b)]) ∧ kk a b ∉ ks := by
  have nk : kk a b ∉ ks := fun z => by
    obtain ⟨x, y, h, e⟩ := c.only _ z
    obtain ⟨rfl, rfl⟩ := kk_inj e
    exact new h
  refine ⟨⟨by simp [c.len], by have := c.few; simp; omega, fun x y h => ?_, fun k hk => ?_⟩, nk⟩
  · rcases (hS x y).mp h with h | ⟨rfl, rfl⟩
    · exact lookD_snoc_old c.len (c.has x y h)
    · exact lookD_snoc_new c.len nk
  · rcases List.mem_append.mp hk with hk | hk
    · obtain ⟨x, y, h, e⟩ := c.only k hk
      exact ⟨x, y, (hS x y).mpr (.inl h), e⟩
    · exact ⟨a, b, (hS a b).mpr (.inr ⟨rfl, rfl⟩), List.mem_singleton.mp hk⟩
def rngI (i j : Nat) : List D := (List.range' i j).map fun k : Nat => D.int ((k : Nat) : Int)
theorem rngD_I {i n : Nat} : rngD (i : Int) 1 n = rngI i n := by
  unfold rngD rngI
  rw [List.range_eq_range', show List.range' i n = (List.range' 0 n).map (i + ·) from by rw [List.map_add_range', Nat.add_zero]]
  rw [List.map_map]
  exact List.map_congr_left fun k _ => by simp
theorem rngI_cons {i j : Nat} : rngI i (j + 1) = .int (i : Int) :: rngI (i + 1) j := by
  unfold rngI
  rw [List.range'_succ]
  rfl
theorem rng2_of {fa fb : Ev} {ρ : Rho} {i j : Nat} (h1 : fa ρ = some (.val (.int (i : Int)))) (h2 : fb ρ = some (.val (.int (j : Int)))) (b1 : i ≤ 1000) (b2 : j ≤ 1000) : wRng2 (aCons fa (aCons fb aNil)) ρ = some (.vals (rngI i (j - i))) := by
  rw [wRng2_of h1 h2 (big_few b1) (big_few b2), show ((j : Int) - (i : Int)).toNat = j - i by omega, rngD_I]
theorem rng1_of {f : Ev} {ρ : Rho} {n : Nat} (h : f ρ = some (.val (.int (n : Int)))) (hn : n ≤ 1000) : wRng1 (aCons f aNil) ρ = some (.vals (rngI 0 n)) := wRng1_of h hn
theorem len_map {α : Type} {f : Ev} {ρ : Rho} {F : α → D} {xs : List α} (h : f ρ = some (.val (.lst (xs.map F)))) : eB lenB (aCons f aNil) ρ = some (.val (.int (xs.length : Int))) := by
  have := len_of h
  rw [List.length_map] at this
  exact this
theorem slT1 {f : Ev} {ρ : Rho} {z : Bead} (h : f ρ = some (.val (bD z))) : eSlT f (oSome (eC (.int 1))) oNone ρ = some (.val (.tup [shR z.x, shR z.v])) := by
  unfold eSlT obnd
  rw [h]
  rfl
structure BB (n : Nat) (bs : List Bead) : Prop where
  ten : bs.length ≤ 10
  ok : ∀ b ∈ bs, 1 ≤ b.w ∧ b.w ≤ 60 ∧ BdR n b.x ∧ BdR n b.v
abbrev dρ (bs : List Bead) (t : Rat) (ks : List (List Key)) (ds : List D) (x3 x4 x5 x6 : Option D) : Rho := [some (.sh (.lst (bs.map bD))), some (.sh (shR t)), some (.mp ks ds), os x3, os x4, os x5, os x6]
section
variable {n m : Nat} {bs : List Bead} {t : Rat} (hb : BB n bs) (ht : BdR m t) (hn : 1 + 10 * (2 * n + m + 8) ≤ 7000)
include hb ht hn
theorem mid_in {f : Nat} (hf : f < bs.length) : ∀ (j c : Nat) (ks : List (List Key)) (ds : List D) (x4 : Option D), f + c + j = bs.length → BdR (1 + c * (2 * n + m + 8)) (tog ((bs.drop f).take c) (Bead.at t)) → 0 ≤ wts ((bs.drop f).take c) → wts ((bs.drop f).take c) ≤ 60 * c →
    Dc (fun a b => a ≤ b ∧ b < bs.length ∧ (a < f ∨ (a = f ∧ b < f + c))) (midB bs t) (10 * f + c) ks ds →
    ∃ ks' ds' y4 y5 y6, forS (gNm 4) l1_q_middles (rngI (f + c) j) (dρ bs t ks ds (some (.int (f : Int))) x4 (some (.int (wts ((bs.drop f).take c)))) (some (shR (tog ((bs.drop f).take c) (Bead.at t))))) = some (.nx (dρ bs t ks' ds' (some (.int (f : Int))) y4 y5 y6)) ∧
      Dc (fun a b => a ≤ b ∧ b < bs.length ∧ (a < f ∨ (a = f ∧ b < bs.length))) (midB bs t) (10 * f + (bs.length - f)) ks' ds'
  | 0, c, ks, ds, x4, hl, _, _, _, d => ⟨ks, ds, x4, _, _, rfl, by
      have e : f + c = bs.length := by omega
      have e2 : c = bs.length - f := by omega
      rw [e] at d
      rw [← e2]
      exact d⟩
  | j + 1, c, ks, ds, x4, hl, hbd, hw0, hw1, d => by
    have ten := hb.ten
    have lt : f + c < bs.length := by omega
    obtain ⟨z, hz, mz⟩ := get_lt lt
    obtain ⟨w1, w2, bx, bv⟩ := hb.ok z mz
    let cur := (bs.drop f).take c
    have snoc : (bs.drop f).take (c + 1) = cur ++ [z] := by
      rw [List.take_add_one, List.getElem?_drop, hz]
      rfl
    have estr : (bs.drop f).take (c + 1) = str bs f (f + c) := by unfold str; rw [show f + c + 1 - f = c + 1 by omega]
    have bat : BdR (2 * n + m + 1) (z.x + z.v * t) := (bx.add (bv.mul ht)).mono (by omega)
    have bw : BdR 6 ((z.w : Int) : Rat) := bdR_int (w_bd w1 w2) (by decide)
    have hc : c ≤ 9 := by omega
    have c8 : c * (2 * n + m + 8) ≤ 9 * (2 * n + m + 8) := Nat.mul_le_mul_right _ hc
    have th := there_ok bx bv ht (by omega)
    have e1 := q_by_R bw bat (by omega)
    have bt2 := bw.mul bat
    have e2 := q_sum_R hbd bt2 (by omega)
    have et : tog (cur ++ [z]) (Bead.at t) = tog cur (Bead.at t) + (z.w : Rat) * (z.x + z.v * t) := by
      rw [tog_cat]
      congr 1
      show (0 : Rat) + (z.w : Rat) * z.at t = _
      unfold Bead.at
      grind
    have ew : wts (cur ++ [z]) = wts cur + z.w := by unfold wts; simp
    have bd' : BdR (1 + (c + 1) * (2 * n + m + 8)) (tog (cur ++ [z]) (Bead.at t)) := by
      rw [et]
      exact (hbd.add bt2).mono (by rw [Nat.add_mul]; omega)
    have c9 : (c + 1) * (2 * n + m + 8) ≤ 10 * (2 * n + m + 8) := Nat.mul_le_mul_right _ (by omega)
    have hw0' : 0 ≤ wts cur := hw0
    have hw1' : wts cur ≤ 60 * c := hw1
    have wpos : 0 < wts (cur ++ [z]) := by rw [ew]; omega
    have wle : wts (cur ++ [z]) ≤ 60 * (c + 1 : Nat) := by rw [ew]; push_cast; omega
    have bW : BdR 13 ((wts (cur ++ [z]) : Int) : Rat) := bdR_int (by unfold Bd; omega) (by decide)
    have e3 := q_part_R bd' bW (show 0 < ((wts (cur ++ [z]) : Int) : Rat).num from wpos) (by omega)
    have em : tog (cur ++ [z]) (Bead.at t) / ((wts (cur ++ [z]) : Int) : Rat) = midB bs t f (f + c) := by unfold midB; rw [← estr, snoc]
    rw [em] at e3
    obtain ⟨d', nk⟩ := d.put (a := f) (b := f + c) (S' := fun a b => a ≤ b ∧ b < bs.length ∧ (a < f ∨ (a = f ∧ b < f + (c + 1)))) (by omega) (fun x y => by constructor <;> omega)
    have few := d.few
    rw [← snoc] at bd' wpos wle et ew e3
    obtain ⟨ks', ds', y4, y5, y6, ih, dd⟩ := mid_in hf j (c + 1) (ks ++ [kk f (f + c)]) (ds ++ [shR (midB bs t f (f + c))]) (some (.int ((f + c : Nat) : Int))) (by omega) bd' (by omega) wle d'
    refine ⟨ks', ds', y4, y5, y6, ?_, dd⟩
    rw [rngI_cons]
    have row : ∀ {a b : Option D}, eOp ixD (eVar 0) (eVar 4) (dρ bs t ks ds (some (.int (f : Int))) (some (.int ((f + c : Nat) : Int))) a b) = some (.val (bD z)) := fun {a b} => op_of rfl rfl (ix_map (f := bD) hz)
    refine for_cons (ρ1 := dρ bs t ks ds (some (.int (f : Int))) (some (.int ((f + c : Nat) : Int))) (some (.int (wts cur))) (some (shR (tog cur (Bead.at t))))) (ρ2 := dρ bs t (ks ++ [kk f (f + c)]) (ds ++ [shR (midB bs t f (f + c))]) (some (.int (f : Int))) (some (.int ((f + c : Nat) : Int))) (some (.int (wts ((bs.drop f).take (c + 1))))) (some (shR (tog ((bs.drop f).take (c + 1)) (Bead.at t))))) ?_ ?_ (by rw [show f + c + 1 = f + (c + 1) by omega]; exact ih)
    · cases x4 <;> rfl
    · unfold l1_q_middles
      refine seq_nx (ρ' := dρ bs t ks ds (some (.int (f : Int))) (some (.int ((f + c : Nat) : Int))) (some (.int (wts ((bs.drop f).take (c + 1))))) (some (shR (tog cur (Bead.at t))))) ((set_of (i := 5) (d := .int (wts cur + z.w)) (op_of rfl (op_of row rfl (bD0 z)) rfl)).trans (by rw [ew]; rfl)) ?_
      refine seq_nx (ρ' := dρ bs t ks ds (some (.int (f : Int))) (some (.int ((f + c : Nat) : Int))) (some (.int (wts ((bs.drop f).take (c + 1))))) (some (shR (tog ((bs.drop f).take (c + 1)) (Bead.at t))))) ((set_of (i := 6) (call2 rfl (call2 (d := shR ((z.w : Int) : Rat)) (tup2_of (op_of row rfl (bD0 z)) rfl) (call2 (slT1 row) rfl th) e1) e2)).trans (by rw [et]; rfl)) ?_
      unfold sMPut
      show sbnd _ _ = _
      rw [show eCall m_q_part (aCons (eVar 6) (aCons (eTup (aCons (eVar 5) (aCons (eC (.int 1)) aNil))) aNil)) (dρ bs t ks ds (some (.int (f : Int))) (some (.int ((f + c : Nat) : Int))) (some (.int (wts ((bs.drop f).take (c + 1))))) (some (shR (tog ((bs.drop f).take (c + 1)) (Bead.at t))))) = some (.val (shR (midB bs t f (f + c)))) from call2 (d2 := shR ((wts ((bs.drop f).take (c + 1)) : Int) : Rat)) rfl (tup2_of rfl rfl) e3]
      unfold sbnd
      dsimp only
      rw [two_of (d := .int (f : Int)) (d2 := .int ((f + c : Nat) : Int)) rfl rfl]
      unfold lbndS
      dsimp only
      have kI : keysI [.int (f : Int), .int ((f + c : Nat) : Int)] = some (kk f (f + c)) := rfl
      rw [kI]
      dsimp only
      have na : (ks.any fun k' => decide (k' = kk f (f + c))) = false := by
        cases q : ks.any fun k' => decide (k' = kk f (f + c)) with
        | false => rfl
        | true =>
          obtain ⟨x, hx, e⟩ := List.any_eq_true.mp q
          exact absurd (by rw [← of_decide_eq_true e]; exact hx) nk
      rw [na, if_pos (by rw [decide_eq_true (show ks.length ≤ 1000 by omega)]; rfl)]
      rfl
theorem mid_out : ∀ (j f : Nat) (ks : List (List Key)) (ds : List D) (x3 x4 x5 x6 : Option D), f + j = bs.length → Dc (fun a b => a ≤ b ∧ b < bs.length ∧ a < f) (midB bs t) (10 * f) ks ds →
    ∃ ks' ds' y3 y4 y5 y6, forS (gNm 3) l2_q_middles (rngI f j) (dρ bs t ks ds x3 x4 x5 x6) = some (.nx (dρ bs t ks' ds' y3 y4 y5 y6)) ∧ Dc (fun a b => a ≤ b ∧ b < bs.length ∧ a < bs.length) (midB bs t) (10 * bs.length) ks' ds'
  | 0, f, ks, ds, x3, x4, x5, x6, h, d => ⟨ks, ds, x3, x4, x5, x6, rfl, by
      have : f = bs.length := by omega
      subst this
      exact d⟩
  | j + 1, f, ks, ds, x3, x4, x5, x6, h, d => by
    have ten := hb.ten
    have hf : f < bs.length := by omega
    obtain ⟨ks1, ds1, y4, y5, y6, e1, d1⟩ := mid_in hb ht hn hf (bs.length - f) 0 ks ds x4 (by omega) (by
      rw [List.take_zero]
      exact (bdR_int (w := 0) (by unfold Bd; decide) (Nat.le_refl _)).mono (by omega)) (by rw [List.take_zero]; exact Int.le_refl _) (by rw [List.take_zero]; exact Int.le_refl _) ⟨d.len, d.few, fun a b h => d.has a b (by omega), fun k hk => let ⟨a, b, h, e⟩ := d.only k hk; ⟨a, b, by omega, e⟩⟩
    obtain ⟨ks', ds', w3, w4, w5, w6, e2, d2⟩ := mid_out j (f + 1) ks1 ds1 (some (.int (f : Int))) y4 y5 y6 (by omega) ⟨d1.len, by have := d1.few; omega, fun a b h => d1.has a b (by omega), fun k hk => let ⟨a, b, h, e⟩ := d1.only k hk; ⟨a, b, by omega, e⟩⟩
    refine ⟨ks', ds', w3, w4, w5, w6, ?_, d2⟩
    rw [rngI_cons]
    refine for_cons (ρ1 := dρ bs t ks ds (some (.int (f : Int))) x4 x5 x6) (ρ2 := dρ bs t ks1 ds1 (some (.int (f : Int))) y4 y5 y6) ?_ ?_ e2
    · cases x3 <;> rfl
    · unfold l2_q_middles
      refine seq_nx (ρ' := dρ bs t ks ds (some (.int (f : Int))) x4 (some (.int 0)) (some (shR 0))) ?_ ?_
      · cases x5 <;> cases x6 <;> rfl
      · refine for_of (rng2_of (i := f) (j := bs.length) rfl (len_map (F := bD) (xs := bs) rfl) (by omega) (by omega)) ?_
        have e1' := e1
        rw [List.take_zero, Nat.add_zero] at e1'
        exact e1'
theorem q_middles_ok : ∃ ks ds, m_q_middles [.lst (bs.map bD), shR t] = some (.val (.dic ks ds)) ∧ ∀ a b, a ≤ b → b < bs.length → lookD (kk a b) ks ds = some (shR (midB bs t a b)) := by
  have ten := hb.ten
  obtain ⟨ks, ds, y3, y4, y5, y6, e, d⟩ := mid_out hb ht hn bs.length 0 [] [] none none none none (by omega) ⟨rfl, Nat.zero_le _, fun a b h => by omega, fun k hk => by cases hk⟩
  refine ⟨ks, ds, ?_, fun a b h1 h2 => d.has a b (by omega)⟩
  unfold m_q_middles b_q_middles
  refine fn_rt rfl rfl (seq_nx (ρ' := dρ bs t [] [] none none none none) rfl (seq_nx (for_of (rng1_of (len_map (F := bD) (xs := bs) rfl) (by omega)) e) ?_))
  unfold sMFrz
  exact ret_of rfl
end
def Dd (d : D) (n : Nat) (mid : Nat → Nat → Rat) : Prop := ∃ ks ds, d = .dic ks ds ∧ ∀ a b, a ≤ b → b < n → lookD (kk a b) ks ds = some (shR (mid a b))
theorem mget_of {fo : Ev} {fa fb : Ev} {ρ : Rho} {d : D} {n a b : Nat} {mid : Nat → Nat → Rat} (hd : Dd d n mid) (h : fo ρ = some (.val d)) (ha : fa ρ = some (.val (.int (a : Int)))) (hb : fb ρ = some (.val (.int (b : Int)))) (ab : a ≤ b) (bn : b < n) : eMGet fo (eTup (aCons fa (aCons fb aNil))) ρ = some (.val (shR (mid a b))) := by
  obtain ⟨ks, ds, rfl, H⟩ := hd
  unfold eMGet obnd
  rw [h]
  dsimp only
  rw [tup2_of ha hb]
  dsimp only
  have kI : keysI [.int (a : Int), .int (b : Int)] = some (kk a b) := rfl
  rw [kI]
  dsimp only [Option.bind]
  rw [H a b ab bn]
  rfl
def isOne (mid : Nat → Nat → Rat) (f l : Nat) : Bool := (List.range' f (l - f)).all fun c => decide (mid (c + 1) l ≤ mid f c)
def isApart (mid : Nat → Nat → Rat) (n c : Nat) : Bool := (List.range' 0 (c + 1)).all fun f => (List.range' (c + 1) (n - (c + 1))).all fun l => decide (mid f c < mid (c + 1) l)
section
variable {d : D} {n N : Nat} {mid : Nat → Nat → Rat} (hd : Dd d n mid) (hB : ∀ a b, a ≤ b → b < n → BdR N (mid a b)) (hN : N ≤ 8000)
include hd hB hN
theorem one_for {f l : Nat} (fl : f ≤ l) (ln : l < n) : ∀ (j c : Nat) (x3 : Option D), c + j = l → f ≤ c → ∃ y3, forS (gNm 3) l1_q_is_one (rngI c j) [some (.sh d), some (.sh (.int (f : Int))), some (.sh (.int (l : Int))), os x3] = if ((List.range' c j).all fun c => decide (mid (c + 1) l ≤ mid f c)) = true then some (.nx [some (.sh d), some (.sh (.int (f : Int))), some (.sh (.int (l : Int))), os y3]) else some (.rt (.bl false))
  | 0, c, x3, _, _ => ⟨x3, rfl⟩
  | j + 1, c, x3, h1, h2 => by
    obtain ⟨y3, ih⟩ := one_for fl ln j (c + 1) (some (.int (c : Int))) (by omega) (by omega)
    have g1 := mget_of (fo := eVar 0) (fa := eVar 1) (fb := eVar 3) (ρ := [some (.sh d), some (.sh (.int (f : Int))), some (.sh (.int (l : Int))), some (.sh (.int (c : Int)))]) (a := f) (b := c) hd rfl rfl rfl h2 (by omega)
    have g2 := mget_of (fo := eVar 0) (fa := eOp (i2 addI) (eVar 3) (eC (.int 1))) (fb := eVar 2) (ρ := [some (.sh d), some (.sh (.int (f : Int))), some (.sh (.int (l : Int))), some (.sh (.int (c : Int)))]) (a := c + 1) (b := l) hd rfl (op_of rfl rfl rfl) rfl (by omega) ln
    have fr := far_w (hB f c h2 (by omega)) (hB (c + 1) l (by omega) ln) hN hN
    have gn : gNm 3 (.int (c : Int)) [some (.sh d), some (.sh (.int (f : Int))), some (.sh (.int (l : Int))), os x3] = some [some (.sh d), some (.sh (.int (f : Int))), some (.sh (.int (l : Int))), some (.sh (.int (c : Int)))] := by cases x3 <;> rfl
    refine ⟨y3, ?_⟩
    rw [rngI_cons, List.range'_succ, List.all_cons]
    have far : mid f c < mid (c + 1) l ↔ (mid f c).num * (mid (c + 1) l).den - (mid (c + 1) l).num * (mid f c).den < 0 := by
      have := far_pos' (x := mid (c + 1) l) (y := mid f c)
      constructor
      · intro z; have := this.mpr z; omega
      · intro z; exact this.mp (by omega)
    by_cases z : mid (c + 1) l ≤ mid f c
    · rw [decide_eq_true z, Bool.true_and, ← ih]
      refine for_cons gn ?_ rfl
      unfold l1_q_is_one
      exact if_no (op_of (call2 g1 g2 fr) rfl (by
        simp only [i2, ltI]
        congr 2
        rw [decide_eq_false_iff_not]
        intro w
        have := far.mpr w
        grind))
    · rw [decide_eq_false z, Bool.false_and, if_neg (by decide)]
      unfold forS
      rw [gn]
      have body : l1_q_is_one [some (.sh d), some (.sh (.int (f : Int))), some (.sh (.int (l : Int))), some (.sh (.int (c : Int)))] = some (.rt (.bl false)) := by
        unfold l1_q_is_one
        exact if_yes (op_of (call2 g1 g2 fr) rfl (by
          simp only [i2, ltI]
          congr 2
          rw [decide_eq_true_eq]
          exact far.mp (Rat.not_le.mp z))) (ret_of rfl)
      dsimp only [Option.bind]
      rw [body]
theorem q_is_one_ok {f l : Nat} (fl : f ≤ l) (ln : l < n) (l9 : l ≤ 1000) : m_q_is_one [d, .int (f : Int), .int (l : Int)] = some (.val (.bl (isOne mid f l))) := by
  obtain ⟨y3, e⟩ := one_for hd hB hN fl ln (l - f) f none (by omega) (Nat.le_refl _)
  unfold m_q_is_one b_q_is_one
  by_cases z : isOne mid f l = true
  · rw [z]
    unfold isOne at z
    rw [if_pos z] at e
    exact fn_rt rfl rfl (seq_nx (for_of (rng2_of rfl rfl (by omega) l9) e) (ret_of rfl))
  · have z2 : isOne mid f l = false := by cases h : isOne mid f l <;> simp_all
    rw [z2]
    unfold isOne at z
    rw [if_neg z] at e
    exact fn_rt rfl rfl (seq_rt (for_of (rng2_of rfl rfl (by omega) l9) e))
theorem apart_in {f c : Nat} (fc : f ≤ c) : ∀ (j l : Nat) (x4 : Option D), l + j = n → c + 1 ≤ l → ∃ y4, forS (gNm 4) l1_q_is_apart (rngI l j) [some (.sh d), some (.sh (.int (n : Int))), some (.sh (.int (c : Int))), some (.sh (.int (f : Int))), os x4] = if ((List.range' l j).all fun l => decide (mid f c < mid (c + 1) l)) = true then some (.nx [some (.sh d), some (.sh (.int (n : Int))), some (.sh (.int (c : Int))), some (.sh (.int (f : Int))), os y4]) else some (.rt (.bl false))
  | 0, l, x4, _, _ => ⟨x4, rfl⟩
  | j + 1, l, x4, h1, h2 => by
    obtain ⟨y4, ih⟩ := apart_in fc j (l + 1) (some (.int (l : Int))) (by omega) (by omega)
    have g1 := mget_of (fo := eVar 0) (fa := eVar 3) (fb := eVar 2) (ρ := [some (.sh d), some (.sh (.int (n : Int))), some (.sh (.int (c : Int))), some (.sh (.int (f : Int))), some (.sh (.int (l : Int)))]) (a := f) (b := c) hd rfl rfl rfl fc (by omega)
    have g2 := mget_of (fo := eVar 0) (fa := eOp (i2 addI) (eVar 2) (eC (.int 1))) (fb := eVar 4) (ρ := [some (.sh d), some (.sh (.int (n : Int))), some (.sh (.int (c : Int))), some (.sh (.int (f : Int))), some (.sh (.int (l : Int)))]) (a := c + 1) (b := l) hd rfl (op_of rfl rfl rfl) rfl h2 (by omega)
    have fr := far_w (hB f c fc (by omega)) (hB (c + 1) l h2 (by omega)) hN hN
    have gn : gNm 4 (.int (l : Int)) [some (.sh d), some (.sh (.int (n : Int))), some (.sh (.int (c : Int))), some (.sh (.int (f : Int))), os x4] = some [some (.sh d), some (.sh (.int (n : Int))), some (.sh (.int (c : Int))), some (.sh (.int (f : Int))), some (.sh (.int (l : Int)))] := by cases x4 <;> rfl
    refine ⟨y4, ?_⟩
    rw [rngI_cons, List.range'_succ, List.all_cons]
    have far : mid f c < mid (c + 1) l ↔ ¬ 0 ≤ (mid f c).num * (mid (c + 1) l).den - (mid (c + 1) l).num * (mid f c).den := by
      have := far_pos' (x := mid (c + 1) l) (y := mid f c)
      constructor
      · intro z; have := this.mpr z; omega
      · intro z; exact this.mp (by omega)
    by_cases z : mid f c < mid (c + 1) l
    · rw [decide_eq_true z, Bool.true_and, ← ih]
      refine for_cons gn ?_ rfl
      unfold l1_q_is_apart
      exact if_no (op_of (call2 g1 g2 fr) rfl (by
        simp only [i2, geI]
        congr 2
        rw [decide_eq_false_iff_not]
        exact far.mp z))
    · rw [decide_eq_false z, Bool.false_and, if_neg (by decide)]
      unfold forS
      rw [gn]
      have body : l1_q_is_apart [some (.sh d), some (.sh (.int (n : Int))), some (.sh (.int (c : Int))), some (.sh (.int (f : Int))), some (.sh (.int (l : Int)))] = some (.rt (.bl false)) := by
        unfold l1_q_is_apart
        exact if_yes (op_of (call2 g1 g2 fr) rfl (by
          simp only [i2, geI]
          congr 2
          rw [decide_eq_true_eq]
          apply Classical.byContradiction
          intro w
          exact z (far.mpr w))) (ret_of rfl)
      dsimp only [Option.bind]
      rw [body]
theorem apart_row {f c : Nat} (fc : f ≤ c) (cn : c + 1 ≤ n) (n9 : n ≤ 1000) (x4 : Option D) : ∃ y4, l2_q_is_apart [some (.sh d), some (.sh (.int (n : Int))), some (.sh (.int (c : Int))), some (.sh (.int (f : Int))), os x4] = if ((List.range' (c + 1) (n - (c + 1))).all fun l => decide (mid f c < mid (c + 1) l)) = true then some (.nx [some (.sh d), some (.sh (.int (n : Int))), some (.sh (.int (c : Int))), some (.sh (.int (f : Int))), os y4]) else some (.rt (.bl false)) := by
  obtain ⟨w4, e⟩ := apart_in hd hB hN (f := f) (c := c) fc (n - (c + 1)) (c + 1) x4 (by omega) (Nat.le_refl _)
  refine ⟨w4, ?_⟩
  rw [← e]
  have h : c + 1 ≤ 1000 := Nat.le_trans cn n9
  have q : eOp (i2 addI) (eVar 2) (eC (.int 1)) [some (.sh d), some (.sh (.int (n : Int))), some (.sh (.int (c : Int))), some (.sh (.int (f : Int))), os x4] = some (.val (.int ((c + 1 : Nat) : Int))) := op_of rfl rfl rfl
  have rg := rng2_of (fb := eVar 1) q rfl h n9
  unfold l2_q_is_apart
  exact for_of rg rfl
end
end BD
namespace BD
open PySem L2
theorem forS_go {g : Gv} {B : Sv} {x : D} {xs : List D} {ρ ρ1 ρ2 : Rho} (h : g x ρ = some ρ1) (e : B ρ1 = some (.nx ρ2)) : forS g B (x :: xs) ρ = forS g B xs ρ2 := for_cons h e rfl
theorem forS_rt {g : Gv} {B : Sv} {x d : D} {xs : List D} {ρ ρ1 : Rho} (h : g x ρ = some ρ1) (e : B ρ1 = some (.rt d)) : forS g B (x :: xs) ρ = some (.rt d) := by
  unfold forS
  rw [h]
  dsimp only [Option.bind]
  rw [e]
theorem apart_out {B : Sv} {d nd cd : D} {c : Nat} {p : Nat → Bool} (row : ∀ (f : Nat) (x4 : Option D), f ≤ c → ∃ y4, B [some (.sh d), some (.sh nd), some (.sh cd), some (.sh (.int (f : Int))), os x4] = if p f = true then some (.nx [some (.sh d), some (.sh nd), some (.sh cd), some (.sh (.int (f : Int))), os y4]) else some (.rt (.bl false))) : ∀ (j f : Nat) (x3 x4 : Option D), f + j = c + 1 → ∃ y3 y4, forS (gNm 3) B (rngI f j) [some (.sh d), some (.sh nd), some (.sh cd), os x3, os x4] = if ((List.range' f j).all p) = true then some (.nx [some (.sh d), some (.sh nd), some (.sh cd), os y3, os y4]) else some (.rt (.bl false)) := by
  intro j
  induction j with
  | zero => intro f x3 x4 _; exact ⟨x3, x4, rfl⟩
  | succ j ih =>
    intro f x3 x4 h1
    obtain ⟨w4, e⟩ := row f x4 (by omega)
    obtain ⟨y3, y4, ih⟩ := ih (f + 1) (some (.int (f : Int))) w4 (by omega)
    have gn : gNm 3 (.int (f : Int)) [some (.sh d), some (.sh nd), some (.sh cd), os x3, os x4] = some [some (.sh d), some (.sh nd), some (.sh cd), some (.sh (.int (f : Int))), os x4] := by cases x3 <;> rfl
    refine ⟨y3, y4, ?_⟩
    rw [rngI_cons, List.range'_succ, List.all_cons]
    cases w : p f with
    | true =>
      rw [w, if_pos rfl] at e
      rw [Bool.true_and, ← ih]
      exact forS_go gn e
    | false =>
      rw [w, if_neg (by decide)] at e
      rw [Bool.false_and, if_neg (by decide)]
      exact forS_rt gn e
section
variable {d : D} {n N : Nat} {mid : Nat → Nat → Rat} (hd : Dd d n mid) (hB : ∀ a b, a ≤ b → b < n → BdR N (mid a b)) (hN : N ≤ 8000)
include hd hB hN
theorem q_is_apart_ok {c : Nat} (cn : c + 1 ≤ n) (n9 : n ≤ 1000) : m_q_is_apart [d, .int (n : Int), .int (c : Int)] = some (.val (.bl (isApart mid n c))) := by
  obtain ⟨y3, y4, e⟩ := apart_out (B := l2_q_is_apart) (d := d) (nd := .int (n : Int)) (cd := .int (c : Int)) (c := c) (p := fun f => (List.range' (c + 1) (n - (c + 1))).all fun l => decide (mid f c < mid (c + 1) l)) (fun f x4 h => apart_row hd hB hN h cn n9 x4) (c + 1) 0 none none (by omega)
  have rg : wRng1 (aCons (eOp (i2 addI) (eVar 2) (eC (.int 1))) aNil) [some (.sh d), some (.sh (.int (n : Int))), some (.sh (.int (c : Int))), none, none] = some (.vals (rngI 0 (c + 1))) := rng1_of (op_of rfl rfl rfl) (by omega)
  unfold m_q_is_apart b_q_is_apart
  by_cases z : isApart mid n c = true
  · rw [z]
    unfold isApart at z
    rw [if_pos z] at e
    exact fn_rt rfl rfl (seq_nx (for_of rg e) (ret_of rfl))
  · have z2 : isApart mid n c = false := by cases h : isApart mid n c <;> simp_all
    rw [z2]
    unfold isApart at z
    rw [if_neg z] at e
    exact fn_rt rfl rfl (seq_rt (for_of rg e))
end
end BD
namespace BD
open PySem L2
theorem any_comp {α : Type} {f : EvL} {g : Gv} {q e : Ev} {vs : List Nat} {ρ : Rho} {xs : List α} {F : α → D} {h : α → Bool} (hf : f ρ = some (.vals (xs.map F))) (hl : xs.length ≤ 1000)
    (H : ∀ x ∈ xs, ∃ ρ', g (F x) (wipeR ρ vs) = some ρ' ∧ q ρ' = some (.val (.bl true)) ∧ e ρ' = some (.val (.bl (h x)))) : eB anyB (aCons (eFr (lComp f g q e vs)) aNil) ρ = some (.val (.bl (xs.any h))) := by
  have e1 := eFr_of (lComp_map (h := fun x => D.bl (h x)) hf hl H)
  have a : anyB [.lst (xs.map fun x => D.bl (h x))] = some (.bl (xs.any h)) := by
    simp only [anyB, blsO_of, Option.map_some]
    simp [List.any_map]
  unfold eB aCons lbnd obndL
  rw [e1]
  simp only [aNil, lbndL, a]
  rfl
theorem chain_of {g g' : D → D → Option D} {f f2 f3 : Ev} {ρ : Rho} {d d2 d3 : D} {b1 b2 : Bool} (h : f ρ = some (.val d)) (h2 : f2 ρ = some (.val d2)) (h3 : f3 ρ = some (.val d3)) (k1 : g d d2 = some (.bl b1)) (k2 : b1 = true → g' d2 d3 = some (.bl b2)) : eChain g g' f f2 f3 ρ = some (.val (.bl (b1 && b2))) := by
  cases b1 with
  | false => simp [eChain, obnd, h, h2, k1, ov]
  | true => simp [eChain, obnd, h, h2, h3, k1, ov, k2 rfl]
theorem lt_bl {x y : Rat} : i2 ltI (.int (cmpI x y)) (.int 0) = some (.bl (decide (x < y))) := by
  simp only [i2, ltI]
  rw [decide_eq_decide.mpr cmp_lt]
section
variable {r : List Bead} {t : Rat} (g : GR r) (ht : BdR 30 t)
include g ht
theorem sm_ok {a b : Nat} (ab : a ≤ b) (bn : b < r.length) : m_stretch_middle [.lst (r.map bD), .int (a : Int), .int (b : Int), shR t] = some (.val (shR (midB r t a b))) := (St.mid ⟨g, bn, ab⟩ ht).1
theorem mid_bd {a b : Nat} (ab : a ≤ b) (bn : b < r.length) : BdR 800 (midB r t a b) := (St.mid ⟨g, bn, ab⟩ ht).2
theorem behind_ok {f c l : Nat} (fc : f ≤ c) (cl : c < l) (ln : l < r.length) : m_is_behind [.lst (r.map bD), .int (f : Int), .int (c : Int), .int (l : Int), shR t] = some (.val (.bl (decide (midB r t f c < midB r t (c + 1) l)))) := by
  have s1 := sm_ok g ht fc (show c < r.length by omega)
  have s2 := sm_ok g ht (a := c + 1) (show c + 1 ≤ l by omega) ln
  have cm := compared_ok (mid_bd g ht fc (show c < r.length by omega)) (mid_bd g ht (a := c + 1) (show c + 1 ≤ l by omega) ln) (by decide) (by decide)
  unfold m_is_behind b_is_behind
  refine fn_rt rfl rfl (seq_nx (set_of (i := 5) (call4 rfl rfl rfl rfl s1)) (seq_nx (set_of (i := 6) (call4 rfl (op_of (d3 := .int ((c + 1 : Nat) : Int)) rfl rfl rfl) rfl rfl s2)) (ret_of (op_of (call2 rfl rfl cm) rfl lt_bl))))
theorem call5 {k : List D → Option Out} {f f2 f3 f4 f5 : Ev} {ρ : Rho} {d d2 d3 d4 d5 : D} {o : Option Out} (h : f ρ = some (.val d)) (h2 : f2 ρ = some (.val d2)) (h3 : f3 ρ = some (.val d3)) (h4 : f4 ρ = some (.val d4)) (h5 : f5 ρ = some (.val d5)) (e : k [d, d2, d3, d4, d5] = o) : eCall k (aCons f (aCons f2 (aCons f3 (aCons f4 (aCons f5 aNil))))) ρ = o := by
  simp [eCall, lbnd, aCons, aNil, obndL, lbndL, h, h2, h3, h4, h5, e]
theorem holds_ok {f l : Nat} (fl : f ≤ l) (ln : l < r.length) : m_holds [.lst (r.map bD), .int (f : Int), .int (l : Int), shR t] = some (.val (.bl (isOne (midB r t) f l))) := by
  have ten := g.ten
  have rg : wRng2 (aCons (eVar 1) (aCons (eVar 2) aNil)) [some (.sh (.lst (r.map bD))), some (.sh (.int (f : Int))), some (.sh (.int (l : Int))), some (.sh (shR t)), none] = some (.vals ((List.range' f (l - f)).map fun k : Nat => D.int ((k : Nat) : Int))) := rng2_of (i := f) (j := l) rfl rfl (Nat.le_trans (Nat.le_trans fl (Nat.le_of_lt ln)) (Nat.le_trans ten (by decide))) (Nat.le_trans (Nat.le_of_lt ln) (Nat.le_trans ten (by decide)))
  have H : ∀ c ∈ List.range' f (l - f), m_is_behind [.lst (r.map bD), .int (f : Int), .int (c : Int), .int (l : Int), shR t] = some (.val (.bl (decide (midB r t f c < midB r t (c + 1) l)))) := fun c hc => by
    have := List.mem_range'_1.mp hc
    exact behind_ok g ht (by omega) (by omega) ln
  have a := any_comp (g := gNm 4) (q := qYes) (e := eCall m_is_behind (aCons (eVar 0) (aCons (eVar 1) (aCons (eVar 4) (aCons (eVar 2) (aCons (eVar 3) aNil)))))) (vs := [4]) (F := fun k : Nat => D.int ((k : Nat) : Int)) (h := fun c => decide (midB r t f c < midB r t (c + 1) l)) rg (by rw [List.length_range']; omega) fun c hc => ⟨[some (.sh (.lst (r.map bD))), some (.sh (.int (f : Int))), some (.sh (.int (l : Int))), some (.sh (shR t)), some (.sh (.int (c : Int)))], rfl, rfl, call5 g ht rfl rfl rfl rfl rfl (H c hc)⟩
  have e : (!((List.range' f (l - f)).any fun c => decide (midB r t f c < midB r t (c + 1) l))) = isOne (midB r t) f l := by
    unfold isOne
    rw [List.not_any_eq_all_not]
    refine congrArg (fun p => (List.range' f (l - f)).all p) (funext fun c => ?_)
    by_cases z : midB r t (c + 1) l ≤ midB r t f c
    · rw [decide_eq_true z, decide_eq_false (by grind)]; rfl
    · rw [decide_eq_false z, decide_eq_true (Rat.not_le.mp z)]; rfl
  unfold m_holds b_holds
  refine fn_rt rfl rfl (ret_of ?_)
  rw [← e]
  exact not_of a
end
theorem comp2_list {α β : Type} {i0 i1 : Nat} {elt : Ev} {f1 : EvL} {ρ : Rho} {F : α → D} {G : β → D} {out : α → β → D} {ys : List β} :
    ∀ {xs : List α}, (∀ x ∈ xs, f1 (ρ.set i0 (some (.sh (F x)))) = some (.vals (ys.map G))) →
    (∀ x ∈ xs, ∀ y ∈ ys, ∃ ρ', gNm i1 (G y) (wipeR (ρ.set i0 (some (.sh (F x)))) [i1]) = some ρ' ∧ elt ρ' = some (.val (out x y))) →
    comp2S i0 qYes f1 (gNm i1) qYes elt [i1] ρ (xs.map F) = some ((xs.map fun x => ys.map (out x)).flatten)
  | [], _, _ => rfl
  | x :: xs, H1, H2 => by
    have ih := comp2_list (i0 := i0) (i1 := i1) (elt := elt) (f1 := f1) (ρ := ρ) (F := F) (G := G) (out := out) (ys := ys) (xs := xs) (fun x hx => H1 x (List.mem_cons_of_mem _ hx)) fun x hx => H2 x (List.mem_cons_of_mem _ hx)
    have c := compS_map (g := gNm i1) (q := qYes) (e := elt) (ρ := wipeR (ρ.set i0 (some (.sh (F x)))) [i1]) (f := G) (h := out x) (xs := ys) fun y hy => by
      obtain ⟨ρ', h1, h2⟩ := H2 x (List.mem_cons_self ..) y hy
      exact ⟨ρ', h1, rfl, h2⟩
    rw [List.map_cons]
    unfold comp2S
    show (match f1 (ρ.set i0 (some (.sh (F x)))) with | some (.vals es) => _ | _ => none) = _
    rw [H1 x (List.mem_cons_self ..)]
    dsimp only
    rw [c, ih]
    rfl
section
variable {r : List Bead} {t : Rat} (g : GR r) (ht : BdR 30 t)
include g ht
theorem parts_ok {c : Nat} (cn : c + 1 < r.length) : m_parts_at [.lst (r.map bD), .int (c : Int), shR t] = some (.val (.bl (isApart (midB r t) r.length c))) := by
  have ten := g.ten
  let L : List Nat := List.range' 0 (c + 1)
  let R : List Nat := List.range' (c + 1) (r.length - (c + 1))
  have q1 : ∀ ρ : Rho, ρ[1]? = some (some (.sh (.int (c : Int)))) → eOp (i2 addI) (eVar 1) (eC (.int 1)) ρ = some (.val (.int ((c + 1 : Nat) : Int))) := fun ρ h => op_of (d := .int (c : Int)) (by simp [eVar, h, ov]) rfl rfl
  have c1 : c + 1 ≤ 1000 := Nat.le_trans (Nat.le_of_lt cn) (Nat.le_trans ten (by decide))
  have n1 : r.length ≤ 1000 := Nat.le_trans ten (by decide)
  have r1 : wRng1 (aCons (eOp (i2 addI) (eVar 1) (eC (.int 1))) aNil) [some (.sh (.lst (r.map bD))), some (.sh (.int (c : Int))), some (.sh (shR t)), none, none, none, none, none, none] = some (.vals (L.map fun k : Nat => D.int ((k : Nat) : Int))) := rng1_of (n := c + 1) (q1 _ rfl) c1
  have H1 : ∀ f ∈ L, m_stretch_middle [.lst (r.map bD), .int (f : Int), .int (c : Int), shR t] = some (.val (shR (midB r t f c))) := fun f hf => by
    have := List.mem_range'_1.mp hf
    exact sm_ok g ht (by omega) (by omega)
  have H2 : ∀ l ∈ R, m_stretch_middle [.lst (r.map bD), .int ((c + 1 : Nat) : Int), .int (l : Int), shR t] = some (.val (shR (midB r t (c + 1) l))) := fun l hl => by
    have := List.mem_range'_1.mp hl
    exact sm_ok g ht (by omega) (by omega)
  have k1 := lComp_map (g := gNm 5) (q := qYes) (e := eCall m_stretch_middle (aCons (eVar 0) (aCons (eVar 5) (aCons (eVar 1) (aCons (eVar 2) aNil))))) (vs := [5]) (F := fun k : Nat => D.int ((k : Nat) : Int)) (h := fun f => shR (midB r t f c)) (xs := L) r1 (by simp only [L]; rw [List.length_range']; omega) fun f hf => ⟨[some (.sh (.lst (r.map bD))), some (.sh (.int (c : Int))), some (.sh (shR t)), none, none, some (.sh (.int (f : Int))), none, none, none], rfl, rfl, call4 rfl rfl rfl rfl (H1 f hf)⟩
  let LD : Option Sl := some (.sh (.lst (L.map fun f => shR (midB r t f c))))
  have r2 : wRng2 (aCons (eOp (i2 addI) (eVar 1) (eC (.int 1))) (aCons (eB lenB (aCons (eVar 0) aNil)) aNil)) [some (.sh (.lst (r.map bD))), some (.sh (.int (c : Int))), some (.sh (shR t)), LD, none, none, none, none, none] = some (.vals (R.map fun k : Nat => D.int ((k : Nat) : Int))) := rng2_of (i := c + 1) (j := r.length) (q1 _ rfl) (len_map (F := bD) (xs := r) rfl) c1 n1
  have k2 := lComp_map (g := gNm 6) (q := qYes) (e := eCall m_stretch_middle (aCons (eVar 0) (aCons (eOp (i2 addI) (eVar 1) (eC (.int 1))) (aCons (eVar 6) (aCons (eVar 2) aNil))))) (vs := [6]) (F := fun k : Nat => D.int ((k : Nat) : Int)) (h := fun l => shR (midB r t (c + 1) l)) (xs := R) r2 (by simp only [R]; rw [List.length_range']; omega) fun l hl => ⟨[some (.sh (.lst (r.map bD))), some (.sh (.int (c : Int))), some (.sh (shR t)), LD, none, none, some (.sh (.int (l : Int))), none, none], rfl, rfl, call4 rfl (q1 _ rfl) rfl rfl (H2 l hl)⟩
  let RD : Option Sl := some (.sh (.lst (R.map fun l => shR (midB r t (c + 1) l))))
  let ρ5 : Rho := [some (.sh (.lst (r.map bD))), some (.sh (.int (c : Int))), some (.sh (shR t)), LD, RD, none, none, none, none]
  have k3 := comp2_list (i0 := 7) (i1 := 8) (elt := eOp (i2 ltI) (eCall m_compared (aCons (eVar 7) (aCons (eVar 8) aNil))) (eC (.int 0))) (f1 := wSeq (eVar 4)) (ρ := ρ5) (F := fun f => shR (midB r t f c)) (G := fun l => shR (midB r t (c + 1) l)) (out := fun f l => D.bl (decide (midB r t f c < midB r t (c + 1) l))) (xs := L) (ys := R) (fun f _ => seq_of rfl) fun f hf l hl => by
    have := List.mem_range'_1.mp hf
    have := List.mem_range'_1.mp hl
    have cm := compared_ok (mid_bd g ht (a := f) (b := c) (by omega) (by omega)) (mid_bd g ht (a := c + 1) (b := l) (by omega) (by omega)) (by decide) (by decide)
    refine ⟨[some (.sh (.lst (r.map bD))), some (.sh (.int (c : Int))), some (.sh (shR t)), LD, RD, none, none, some (.sh (shR (midB r t f c))), some (.sh (shR (midB r t (c + 1) l)))], rfl, op_of (call2 rfl rfl cm) rfl lt_bl⟩
  have fl : (L.map fun f => R.map fun l => D.bl (decide (midB r t f c < midB r t (c + 1) l))).flatten = ((L.map fun f => R.map fun l => decide (midB r t f c < midB r t (c + 1) l)).flatten).map fun b => D.bl b := by
    rw [List.map_flatten, List.map_map]
    refine congrArg List.flatten (List.map_congr_left fun f _ => ?_)
    show _ = (R.map _).map _
    rw [List.map_map]
    rfl
  have ln : ((L.map fun f => R.map fun l => decide (midB r t f c < midB r t (c + 1) l)).flatten).length ≤ 1000 := by
    have h1 : ∀ l ∈ (L.map fun f => R.map fun l => decide (midB r t f c < midB r t (c + 1) l)), l.length ≤ 10 := fun l hl => by
      obtain ⟨f, _, rfl⟩ := List.mem_map.mp hl
      simp only [R, List.length_map, List.length_range']
      omega
    have h2 : ∀ (ls : List (List Bool)), (∀ l ∈ ls, l.length ≤ 10) → ls.flatten.length ≤ 10 * ls.length := fun ls => by
      induction ls with
      | nil => intro _; exact Nat.le_refl _
      | cons l ls ih =>
        intro h
        have a := h l (List.mem_cons_self ..)
        have b := ih fun x hx => h x (List.mem_cons_of_mem _ hx)
        simp only [List.flatten_cons, List.length_append, List.length_cons]
        omega
    have h3 := h2 _ h1
    have h4 : (L.map fun f => R.map fun l => decide (midB r t f c < midB r t (c + 1) l)).length ≤ 10 := by simp only [L, List.length_map, List.length_range']; omega
    omega
  have al : eB allB (aCons (eFr (lComp2 (wSeq (eVar 3)) 7 qYes (wSeq (eVar 4)) (gNm 8) qYes (eOp (i2 ltI) (eCall m_compared (aCons (eVar 7) (aCons (eVar 8) aNil))) (eC (.int 0))) [7, 8] [8])) aNil) ρ5 = some (.val (.bl (isApart (midB r t) r.length c))) := by
    have w : wSeq (eVar 3) ρ5 = some (.vals (L.map fun f => shR (midB r t f c))) := seq_of rfl
    have lc : lComp2 (wSeq (eVar 3)) 7 qYes (wSeq (eVar 4)) (gNm 8) qYes (eOp (i2 ltI) (eCall m_compared (aCons (eVar 7) (aCons (eVar 8) aNil))) (eC (.int 0))) [7, 8] [8] ρ5 = some (.vals (((L.map fun f => R.map fun l => decide (midB r t f c < midB r t (c + 1) l)).flatten).map fun b => D.bl b)) := by
      unfold lComp2 lbndL
      rw [w]
      dsimp only
      rw [show wipeR ρ5 [7, 8] = ρ5 from rfl, k3, fl]
      dsimp only [Option.bind]
      rw [if_pos (by unfold smallL; exact decide_eq_true (by rw [List.length_map]; exact Nat.le_trans ln (by decide)))]
    have ab : allB [.lst (((L.map fun f => R.map fun l => decide (midB r t f c < midB r t (c + 1) l)).flatten).map fun b => D.bl b)] = some (.bl (isApart (midB r t) r.length c)) := by
      have b1 := blsO_of (h := fun b : Bool => b) ((L.map fun f => R.map fun l => decide (midB r t f c < midB r t (c + 1) l)).flatten)
      simp only [allB, b1, Option.map_some]
      unfold isApart
      have : ∀ (A : List Nat) (B : List Nat) (p : Nat → Nat → Bool), (((A.map fun f => B.map fun l => p f l).flatten).map fun b => b).all id = A.all fun f => B.all fun l => p f l := fun A B p => by
        simp [List.all_flatten, List.all_map, Function.comp_def]
      rw [this]
    exact eB_of (one_of (eFr_of lc)) ab
  unfold m_parts_at b_parts_at
  refine fn_rt rfl rfl (seq_nx (own_of k1) (frz_of rfl (seq_nx (own_of k2) (frz_of rfl (ret_of ?_)))))
  exact al
theorem bead_of_ok (x : Int) : m_is_bead_of [.lst (r.map bD), .int x] = some (.val (.bl (decide (0 ≤ x) && decide (x < (r.length : Int))))) := by
  unfold m_is_bead_of b_is_bead_of
  exact fn_rt rfl rfl (ret_of (and_of (call1 rfl (is_whole_int x)) (chain_of rfl rfl (len_map (F := bD) (xs := r) rfl) rfl fun _ => rfl)))
end
end BD
namespace BD
open PySem L2
theorem and_bl {f g : Ev} {ρ : Rho} {b1 b2 : Bool} (h : f ρ = some (.val (.bl b1))) (k : b1 = true → g ρ = some (.val (.bl b2))) : qAnd f g ρ = some (.val (.bl (b1 && b2))) := by
  cases b1 with
  | false => exact and_no h
  | true => rw [Bool.true_and]; exact and_of h (k rfl)
theorem fld_of' {n i : Nat} {fo : Ev} {ρ : Rho} {ds : List D} {d : D} (h : fo ρ = some (.val (.obj n ds))) (k : ds[i]? = some d) : eFld n i fo ρ = some (.val d) := by
  unfold eFld obnd
  rw [h]
  dsimp only
  rw [if_pos rfl, k]
  rfl
theorem meth_of' {n : Nat} {g : List D → Option Out} {fo : Ev} {fs : EvL} {ρ : Rho} {ds as : List D} {o : Option Out} (h : fo ρ = some (.val (.obj n ds))) (ha : fs ρ = some (.vals as)) (k : g (.obj n ds :: as) = o) : eMeth n g fo fs ρ = o := by
  unfold eMeth obnd lbnd
  rw [h]
  dsimp only
  rw [if_pos rfl, ha]
  exact k
def oneI (mid : Nat → Nat → Rat) (n : Nat) (one other a b : Int) : Bool := (decide (0 ≤ a) && decide (a ≤ one) && (decide (other ≤ b) && decide (b < (n : Int)))) && isOne mid a.toNat b.toNat
def partI (mid : Nat → Nat → Rat) (n : Nat) (one other c : Int) : Bool := (decide (one ≤ c) && decide (c < other)) && isApart mid n c.toNat
section
variable {r : List Bead} {t : Rat} (g : GR r) (ht : BdR 30 t) {one other : Nat} (ho : one < other) (hn : other < r.length)
include g ht ho hn
theorem one_shows_ok (a b : Int) : m_One_shows [.obj 1 [.int a, .int b], .lst (r.map bD), shR t, .int (one : Int), .int (other : Int)] = some (.val (.bl (oneI (midB r t) r.length one other a b))) := by
  have ba := bead_of_ok g ht a
  have bb := bead_of_ok g ht b
  have e0 : ∀ {ρ : Rho}, eVar 0 ρ = some (.val (.obj 1 [.int a, .int b])) → eFld 1 0 (eVar 0) ρ = some (.val (.int a)) := fun h => fld_of' h rfl
  have e1 : ∀ {ρ : Rho}, eVar 0 ρ = some (.val (.obj 1 [.int a, .int b])) → eFld 1 1 (eVar 0) ρ = some (.val (.int b)) := fun h => fld_of' h rfl
  unfold m_One_shows b_One_shows
  by_cases h : (0 ≤ a ∧ a < (r.length : Int)) ∧ (0 ≤ b ∧ b < (r.length : Int))
  · obtain ⟨⟨h1, h2⟩, h3, h4⟩ := h
    have ba' : m_is_bead_of [.lst (r.map bD), .int a] = some (.val (.bl true)) := by rw [ba, decide_eq_true h1, decide_eq_true h2]; rfl
    have bb' : m_is_bead_of [.lst (r.map bD), .int b] = some (.val (.bl true)) := by rw [bb, decide_eq_true h3, decide_eq_true h4]; rfl
    refine fn_rt rfl rfl (seq_nx (if_no (or_of (not_yes (call2 rfl (e0 rfl) ba')) (not_yes (call2 rfl (e1 rfl) bb')))) (ret_of ?_))
    have ea : ((a.toNat : Nat) : Int) = a := by omega
    have eb : ((b.toNat : Nat) : Int) = b := by omega
    have q1 : eOp (i2 leI) (eFld 1 0 (eVar 0)) (eVar 3) [some (.sh (.obj 1 [.int a, .int b])), some (.sh (.lst (r.map bD))), some (.sh (shR t)), some (.sh (.int (one : Int))), some (.sh (.int (other : Int)))] = some (.val (.bl (decide (a ≤ (one : Int))))) := op_of (e0 rfl) rfl rfl
    have q2 : eOp (i2 leI) (eVar 4) (eFld 1 1 (eVar 0)) [some (.sh (.obj 1 [.int a, .int b])), some (.sh (.lst (r.map bD))), some (.sh (shR t)), some (.sh (.int (one : Int))), some (.sh (.int (other : Int)))] = some (.val (.bl (decide ((other : Int) ≤ b)))) := op_of rfl (e1 rfl) rfl
    refine (and_bl q1 fun z1 => and_bl q2 fun z2 => call4 (d := .lst (r.map bD)) (d2 := .int ((a.toNat : Nat) : Int)) (d3 := .int ((b.toNat : Nat) : Int)) (d4 := shR t) rfl (by rw [ea]; exact e0 rfl) (by rw [eb]; exact e1 rfl) rfl (holds_ok g ht ?_ ?_)).trans ?_
    · have := of_decide_eq_true z1; have := of_decide_eq_true z2; omega
    · omega
    · unfold oneI
      rw [decide_eq_true h1, decide_eq_true h4]
      simp only [Bool.true_and, Bool.and_true, Bool.and_assoc]
  · have f : oneI (midB r t) r.length one other a b = false := by
      unfold oneI
      rw [Bool.and_eq_false_iff]
      left
      cases q : (decide (0 ≤ a) && decide (a ≤ (one : Int)) && (decide ((other : Int) ≤ b) && decide (b < (r.length : Int)))) with
      | false => rfl
      | true =>
        simp only [Bool.and_eq_true, decide_eq_true_eq] at q
        exact absurd (by omega) h
    rw [f]
    refine fn_rt rfl rfl (seq_rt (if_yes ?_ (ret_of rfl)))
    by_cases h1 : 0 ≤ a ∧ a < (r.length : Int)
    · have ba' : m_is_bead_of [.lst (r.map bD), .int a] = some (.val (.bl true)) := by rw [ba, decide_eq_true h1.1, decide_eq_true h1.2]; rfl
      have bb' : m_is_bead_of [.lst (r.map bD), .int b] = some (.val (.bl false)) := by
        rw [bb]
        congr 3
        rw [Bool.and_eq_false_iff, decide_eq_false_iff_not, decide_eq_false_iff_not]
        omega
      exact or_of (not_yes (call2 rfl (e0 rfl) ba')) (not_no (call2 rfl (e1 rfl) bb'))
    · have ba' : m_is_bead_of [.lst (r.map bD), .int a] = some (.val (.bl false)) := by
        rw [ba]
        congr 3
        rw [Bool.and_eq_false_iff, decide_eq_false_iff_not, decide_eq_false_iff_not]
        omega
      exact or_yes (not_no (call2 rfl (e0 rfl) ba'))
theorem parted_shows_ok (c : Int) : m_Parted_shows [.obj 2 [.int c], .lst (r.map bD), shR t, .int (one : Int), .int (other : Int)] = some (.val (.bl (partI (midB r t) r.length one other c))) := by
  have e0 : ∀ {ρ : Rho}, eVar 0 ρ = some (.val (.obj 2 [.int c])) → eFld 2 0 (eVar 0) ρ = some (.val (.int c)) := fun h => fld_of' h rfl
  unfold m_Parted_shows b_Parted_shows
  refine fn_rt rfl rfl (ret_of (and_of (call1 (e0 rfl) (is_whole_int c)) (and_bl (chain_of rfl (e0 rfl) rfl rfl fun _ => rfl) fun z => ?_)))
  simp only [Bool.and_eq_true, decide_eq_true_eq] at z
  have ec : ((c.toNat : Nat) : Int) = c := by omega
  exact call3 (d := .lst (r.map bD)) (d2 := .int ((c.toNat : Nat) : Int)) (d3 := shR t) rfl (by rw [ec]; exact e0 rfl) rfl (parts_ok g ht (by omega))
variable {d : D} (hd : Dd d r.length (midB r t))
include hd
theorem q_right_ok (a b c : Int) : m_q_right [.lst (r.map bD), d, shR t, .int (one : Int), .int (other : Int), .lst [.int a, .int b, .int c]] = some (.val (.bl true)) := by
  have ten := g.ten
  have hB : ∀ a b, a ≤ b → b < r.length → BdR 800 (midB r t a b) := fun a b h1 h2 => mid_bd g ht h1 h2
  have os' := one_shows_ok g ht ho hn a b
  have ps' := parted_shows_ok g ht ho hn c
  let B1 : Bool := decide (0 ≤ a) && decide (a ≤ (one : Int)) && (decide ((other : Int) ≤ b) && decide (b < (r.length : Int)))
  let B2 : Bool := decide ((one : Int) ≤ c) && decide (c < (other : Int))
  let X : Bool := oneI (midB r t) r.length one other a b
  let Y : Bool := partI (midB r t) r.length one other c
  let S : Option Sl → Option Sl → Option Sl → Option Sl → Option Sl → Rho := fun x6 x7 x8 x12 x13 => [some (.sh (.lst (r.map bD))), some (.sh d), some (.sh (shR t)), some (.sh (.int (one : Int))), some (.sh (.int (other : Int))), some (.sh (.lst [.int a, .int b, .int c])), x6, x7, x8, some (.sh (.int a)), some (.sh (.int b)), some (.sh (.int c)), x12, x13, none]
  let A1 : Option Sl := some (.sh (.obj 1 [.int a, .int b]))
  let P1 : Option Sl := some (.sh (.obj 2 [.int c]))
  let SD : Option Sl := some (.sh (.lst [.bl X, .bl Y]))
  have h1 : (qAnd (eChain (i2 leI) (i2 leI) (eC (.int 0)) (eVar 9) (eVar 3)) (eChain (i2 leI) (i2 ltI) (eVar 4) (eVar 10) (eB lenB (aCons (eVar 0) aNil)))) (S none none none none none) = some (.val (.bl B1)) :=
    and_bl (chain_of rfl rfl rfl rfl fun _ => rfl) fun _ => chain_of rfl rfl (len_map (F := bD) (xs := r) rfl) rfl fun _ => rfl
  have h2 : (qAnd (eVar 6) (eCall m_q_is_one (aCons (eVar 1) (aCons (eVar 9) (aCons (eVar 10) aNil))))) (S (some (.sh (.bl B1))) none none none none) = some (.val (.bl X)) := by
    refine and_bl (b1 := B1) (b2 := isOne (midB r t) a.toNat b.toNat) rfl fun z => ?_
    simp only [B1, Bool.and_eq_true, decide_eq_true_eq] at z
    have ea : ((a.toNat : Nat) : Int) = a := by omega
    have eb : ((b.toNat : Nat) : Int) = b := by omega
    have k := q_is_one_ok hd hB (by decide) (f := a.toNat) (l := b.toNat) (by omega) (by omega) (by omega)
    rw [ea, eb] at k
    exact call3 rfl rfl rfl k
  have h3 : eFr (lLst (aCons (eMeth 1 m_One_shows (eVar 12) (aCons (eVar 0) (aCons (eVar 2) (aCons (eVar 3) (aCons (eVar 4) aNil))))) (aCons (eMeth 2 m_Parted_shows (eVar 13) (aCons (eVar 0) (aCons (eVar 2) (aCons (eVar 3) (aCons (eVar 4) aNil))))) aNil))) (S (some (.sh (.bl X))) none none A1 P1) = some (.val (.lst [.bl X, .bl Y])) :=
    lst2_of (meth_of' (n := 1) (ds := [.int a, .int b]) (as := [.lst (r.map bD), shR t, .int (one : Int), .int (other : Int)]) rfl rfl os') (meth_of' (n := 2) (ds := [.int c]) (as := [.lst (r.map bD), shR t, .int (one : Int), .int (other : Int)]) rfl rfl ps')
  have al : eB allB (aCons (eFr (lComp (wSeq (eVar 7)) (gNm 14) qYes (eIsi "bool" (eVar 14)) [14])) aNil) (S (some (.sh (.bl X))) SD none A1 P1) = some (.val (.bl true)) :=
    all_comp (xs := [X, Y]) (F := D.bl) (seq_of rfl) (by show 2 ≤ 1000; decide) fun x _ => ⟨_, rfl, rfl, isi_ev rfl rfl⟩
  have h4 : (eChain (i2 leI) (i2 ltI) (eVar 3) (eVar 11) (eVar 4)) (S (some (.sh (.bl X))) SD none A1 P1) = some (.val (.bl B2)) := chain_of rfl rfl rfl rfl fun _ => rfl
  have h5 : (qAnd (eVar 8) (eCall m_q_is_apart (aCons (eVar 1) (aCons (eB lenB (aCons (eVar 0) aNil)) (aCons (eVar 11) aNil))))) (S (some (.sh (.bl X))) SD (some (.sh (.bl B2))) A1 P1) = some (.val (.bl Y)) := by
    refine and_bl (b1 := B2) (b2 := isApart (midB r t) r.length c.toNat) rfl fun z => ?_
    simp only [B2, Bool.and_eq_true, decide_eq_true_eq] at z
    have ec : ((c.toNat : Nat) : Int) = c := by omega
    have k := q_is_apart_ok hd hB (by decide) (c := c.toNat) (by omega) (by omega)
    rw [ec] at k
    exact call3 rfl (len_map (F := bD) (xs := r) rfl) rfl k
  have nn : neD (.lst [.int a, .int b, .int c]) (.lst [.int a, .int b, .int c]) = some (.bl false) := neD_refl (nice_map (f := D.int) (xs := [a, b, c]) nice_int) (by decide)
  have ee : eqD (.lst [.bl X, .bl Y]) (.lst [.bl X, .bl Y]) = some (.bl true) := by
    generalize X = x
    generalize Y = y
    cases x <;> cases y <;> kernel_rfl
  have l3 : eFr (lLst (aCons (eFld 1 0 (eVar 12)) (aCons (eFld 1 1 (eVar 12)) (aCons (eFld 2 0 (eVar 13)) aNil)))) (S (some (.sh (.bl X))) SD none A1 P1) = some (.val (.lst [.int a, .int b, .int c])) := rfl
  unfold m_q_right b_q_right
  refine fn_rt rfl rfl (seq_nx (ρ' := S none none none none none) rfl ?_)
  refine seq_nx (ρ' := S (some (.sh (.bl B1))) none none none none) ((set_of (i := 6) h1).trans rfl) ?_
  refine seq_nx (ρ' := S (some (.sh (.bl X))) none none none none) ((set_of (i := 6) h2).trans rfl) ?_
  refine seq_nx (ρ' := S (some (.sh (.bl X))) none none A1 P1) ((par_of (i := 12) (j := 13) (x := .obj 1 [.int a, .int b]) (y := .obj 2 [.int c]) rfl rfl).trans rfl) ?_
  refine seq_nx (ρ' := S (some (.sh (.bl X))) SD none A1 P1) ((set_of (i := 7) h3).trans rfl) ?_
  refine seq_nx (if_no (or_of (op_of l3 rfl nn) (not_yes al))) ?_
  refine seq_nx (ρ' := S (some (.sh (.bl X))) SD (some (.sh (.bl B2))) A1 P1) ((set_of (i := 8) h4).trans rfl) ?_
  refine seq_nx (ρ' := S (some (.sh (.bl X))) SD (some (.sh (.bl Y))) A1 P1) ((set_of (i := 8) h5).trans rfl) ?_
  exact ret_of (op_of rfl (lst2_of rfl rfl) ee)
end
end BD
namespace BD
open PySem L2
theorem call6 {k : List D → Option Out} {f f2 f3 f4 f5 f6 : Ev} {ρ : Rho} {d d2 d3 d4 d5 d6 : D} {o : Option Out} (h : f ρ = some (.val d)) (h2 : f2 ρ = some (.val d2)) (h3 : f3 ρ = some (.val d3)) (h4 : f4 ρ = some (.val d4)) (h5 : f5 ρ = some (.val d5)) (h6 : f6 ρ = some (.val d6)) (e : k [d, d2, d3, d4, d5, d6] = o) : eCall k (aCons f (aCons f2 (aCons f3 (aCons f4 (aCons f5 (aCons f6 aNil)))))) ρ = o := by
  simp [eCall, lbnd, aCons, aNil, obndL, lbndL, h, h2, h3, h4, h5, h6, e]
theorem lstV2 {f f2 : Ev} {ρ : Rho} {d d2 : D} (h : f ρ = some (.val d)) (h2 : f2 ρ = some (.val d2)) : lLst (aCons f (aCons f2 aNil)) ρ = some (.vals [d, d2]) := by
  simp [lLst, aCons, aNil, obndL, lbndL, h, h2, smallL]
theorem make_of' {n k : Nat} {fs : EvL} {ρ : Rho} {ds : List D} (h : fs ρ = some (.vals ds)) (e : ds.length = k) : eMake n k fs ρ = some (.val (.obj n ds)) := by
  unfold eMake lbnd
  rw [h]
  dsimp only
  rw [if_pos e]
theorem lst3_of {f f2 f3 : Ev} {ρ : Rho} {d d2 d3 : D} (h : f ρ = some (.val d)) (h2 : f2 ρ = some (.val d2)) (h3 : f3 ρ = some (.val d3)) : eFr (lLst (aCons f (aCons f2 (aCons f3 aNil)))) ρ = some (.val (.lst [d, d2, d3])) := by
  simp [eFr, lLst, lbnd, aCons, aNil, obndL, lbndL, h, h2, h3, smallL]
theorem lst4_of {f f2 f3 f4 : Ev} {ρ : Rho} {d d2 d3 d4 : D} (h : f ρ = some (.val d)) (h2 : f2 ρ = some (.val d2)) (h3 : f3 ρ = some (.val d3)) (h4 : f4 ρ = some (.val d4)) : eFr (lLst (aCons f (aCons f2 (aCons f3 (aCons f4 aNil))))) ρ = some (.val (.lst [d, d2, d3, d4])) := by
  simp [eFr, lLst, lbnd, aCons, aNil, obndL, lbndL, h, h2, h3, h4, smallL]
theorem gb_bb {r : List Bead} (g : GR r) : BB 20 r := ⟨g.ten, fun b hb => ⟨(g.good b hb).w1, (g.good b hb).w2, (g.good b hb).x.bd, (g.good b hb).v.bd⟩⟩
abbrev vρ (s0 : D) (W : Int) (r : List Bead) (z7 z8 z9 z10 z11 z12 z13 z14 z15 z16 : Option D) : Rho := [some (.sh s0), some (.sh (.int W)), some (.sh (.lst (r.map bD))), some (.sh (.int (r.length : Int))), none, none, none, os z7, os z8, os z9, os z10, os z11, os z12, os z13, os z14, os z15, os z16, none]
theorem noOwn_v (s0 : D) (W : Int) (r : List Bead) (z7 z8 z9 z10 z11 z12 z13 z14 z15 z16 : Option D) : noOwn (vρ s0 W r z7 z8 z9 z10 z11 z12 z13 z14 z15 z16) = true := by
  cases z7 <;> cases z8 <;> cases z9 <;> cases z10 <;> cases z11 <;> cases z12 <;> cases z13 <;> cases z14 <;> cases z15 <;> cases z16 <;> rfl
def paper (z : Int × Int × Int) : D := .lst [.int z.1, .int z.2.1, .int z.2.2]
theorem papers_for {s0 : D} {W : Int} {r : List Bead} {t : Rat} {one other : Nat} {d : D} (g : GR r) (ht : BdR 30 t) (ho : one < other) (hn : other < r.length) (hd : Dd d r.length (midB r t)) (z7 z8 z9 z14 z15 : Option D) (M : Mem) :
    ∀ (L : List (Int × Int × Int)) (z16 : Option D), ∃ y16, forM (gNm 16) L1_law (L.map paper) (vρ s0 W r z7 z8 z9 (some (shR t)) (some d) (some (.int (one : Int))) (some (.int (other : Int))) z14 z15 z16) M = some (.nx (vρ s0 W r z7 z8 z9 (some (shR t)) (some d) (some (.int (one : Int))) (some (.int (other : Int))) z14 z15 y16), M)
  | [], z16 => ⟨z16, rfl⟩
  | z :: L, z16 => by
    obtain ⟨y16, ih⟩ := papers_for g ht ho hn hd z7 z8 z9 z14 z15 M L (some (paper z))
    have q := q_right_ok g ht ho hn hd z.1 z.2.1 z.2.2
    refine ⟨y16, mfor_cons (ρ1 := vρ s0 W r z7 z8 z9 (some (shR t)) (some d) (some (.int (one : Int))) (some (.int (other : Int))) z14 z15 (some (paper z))) (ρ2 := vρ s0 W r z7 z8 z9 (some (shR t)) (some d) (some (.int (one : Int))) (some (.int (other : Int))) z14 z15 (some (paper z))) ?_ (noOwn_v ..) ?_ ih⟩
    · cases z16 <;> rfl
    · unfold L1_law
      exact mifN (mQ0_of rfl (o := .val (.bl false)) (not_yes (call6 rfl rfl rfl rfl rfl rfl q)))
theorem turn_ok {s0 : D} {W c at' : Int} {r : List Bead} (g : GR r) (two : 2 ≤ r.length) {N : Int} (en : m_q_number [.int c, .int (at' + 5), .int W] = some (.val (.int N))) (z9 z10 z11 z12 z13 z14 z15 z16 : Option D) (M : Mem) :
    ∃ y9 y10 y11 y12 y13 y14 y15 y16, L2_law (vρ s0 W r (some (.int at')) (some (.int c)) z9 z10 z11 z12 z13 z14 z15 z16) M = some (.nx (vρ s0 W r (some (.int at')) (some (.int c)) y9 y10 y11 y12 y13 y14 y15 y16), M) := by
  have ten := g.ten
  obtain ⟨t, bt, t0, em⟩ := moment_ok N
  obtain ⟨ks, ds, emd, H⟩ := q_middles_ok (gb_bb g) bt (by decide)
  have hd : Dd (.dic ks ds) r.length (midB r t) := ⟨ks, ds, rfl, H⟩
  let n : Int := (r.length : Int)
  obtain ⟨o0, o1⟩ := fmod_pos_range (a := N.fdiv 3) (n := n - 1) (by omega)
  obtain ⟨one, eo⟩ := Int.eq_ofNat_of_zero_le o0
  obtain ⟨p0, p1⟩ := fmod_pos_range (a := N.fdiv 30) (n := n - 1 - (one : Int)) (by omega)
  obtain ⟨other, eq⟩ := Int.eq_ofNat_of_zero_le (a := (one : Int) + 1 + (N.fdiv 30).fmod (n - 1 - (one : Int))) (by omega)
  let A : Int → Int := fun k => (N.fdiv k).fmod (n + 2) - 1
  let S : Option D → Option D → Option D → Option D → Option D → Option D → Option D → Option D → Rho := vρ s0 W r (some (.int at')) (some (.int c))
  let L1 : List (Int × Int × Int) := [(0, n - 1, (one : Int)), ((one : Int), (other : Int), (other : Int) - 1), (A 1, A 7, A 11)]
  let L2 : List (Int × Int × Int) := [(-1, (other : Int), -1), ((one : Int), n, n), (0, (other : Int), A 1), ((other : Int), (one : Int), (one : Int) + 10 ^ 20)]
  obtain ⟨y16, pf⟩ := papers_for (s0 := s0) (W := W) g bt (one := one) (other := other) (by omega) (by omega) hd (some (.int at')) (some (.int c)) (some (.int N)) (some (.lst [.int (A 1), .int (A 7), .int (A 11)])) (some (.lst ((L1 ++ L2).map paper))) M (L1 ++ L2) z16
  refine ⟨some (.int N), some (shR t), some (.dic ks ds), some (.int (one : Int)), some (.int (other : Int)), some (.lst [.int (A 1), .int (A 7), .int (A 11)]), some (.lst ((L1 ++ L2).map paper)), y16, ?_⟩
  unfold L2_law
  refine mseq_nx (ρ' := S (some (.int N)) z10 z11 z12 z13 z14 z15 z16) (M1 := M) ((mset_of (i := 9) (mL_of (o := .val (.int N)) (call3 rfl (op_of rfl rfl rfl) rfl en))).trans rfl) ?_
  refine mseq_nx (ρ' := S (some (.int N)) (some (shR t)) z11 z12 z13 z14 z15 z16) (M1 := M) ((mset_of (i := 10) (mL_of (o := .val (shR t)) (call1 rfl em))).trans rfl) ?_
  refine mseq_nx (ρ' := S (some (.int N)) (some (shR t)) (some (.dic ks ds)) z12 z13 z14 z15 z16) (M1 := M) ((mset_of (i := 11) (mL_of (o := .val (.dic ks ds)) (call2 rfl rfl emd))).trans rfl) ?_
  refine mseq_nx (ρ' := S (some (.int N)) (some (shR t)) (some (.dic ks ds)) (some (.int (one : Int))) z13 z14 z15 z16) (M1 := M) ((mset_of (i := 12) (mL_of (o := .val (.int (one : Int))) ((op_of (op_of rfl rfl (div_of (by decide) (by decide))) (op_of (d3 := .int (n - 1)) rfl rfl rfl) (mod_of (by omega))).trans (by rw [eo])))).trans rfl) ?_
  refine mseq_nx (ρ' := S (some (.int N)) (some (shR t)) (some (.dic ks ds)) (some (.int (one : Int))) (some (.int (other : Int))) z14 z15 z16) (M1 := M) ((mset_of (i := 13) (mL_of (o := .val (.int (other : Int))) ((op_of (d := .int ((one : Int) + 1)) (op_of rfl rfl rfl) (op_of (op_of rfl rfl (div_of (by decide) (by decide))) (op_of (d3 := .int (n - 1 - (one : Int))) (op_of (d3 := .int (n - 1)) rfl rfl rfl) rfl rfl) (mod_of (by omega))) rfl).trans (by rw [eq])))).trans rfl) ?_
  have any : eFr (lComp (wSeq (eFr (lLst (aCons (eC (.int 1)) (aCons (eC (.int 7)) (aCons (eC (.int 11)) aNil)))))) (gNm 17) qYes (eOp (i2 subI) (eOp (i2 modI) (eOp (i2 divI) (eVar 9) (eVar 17)) (eOp (i2 addI) (eVar 3) (eC (.int 2)))) (eC (.int 1))) [17]) (S (some (.int N)) (some (shR t)) (some (.dic ks ds)) (some (.int (one : Int))) (some (.int (other : Int))) z14 z15 z16) = some (.val (.lst [.int (A 1), .int (A 7), .int (A 11)])) := by
    refine eFr_of (lComp_map (F := D.int) (xs := [1, 7, 11]) (h := fun k => .int (A k)) (seq_of (lst3_of rfl rfl rfl)) (by show 3 ≤ 1000; decide) fun k hk => ⟨_, rfl, rfl, ?_⟩)
    simp only [List.mem_cons, List.not_mem_nil, or_false] at hk
    have pk : 0 < k ∧ k.natAbs.log2 < 9000 := by rcases hk with rfl | rfl | rfl <;> exact ⟨by decide, by decide⟩
    exact op_of (op_of (op_of rfl rfl (div_of pk.1 pk.2)) (op_of (d3 := .int (n + 2)) rfl rfl rfl) (mod_of (by omega))) rfl rfl
  refine mseq_nx (ρ' := S (some (.int N)) (some (shR t)) (some (.dic ks ds)) (some (.int (one : Int))) (some (.int (other : Int))) (some (.lst [.int (A 1), .int (A 7), .int (A 11)])) z15 z16) (M1 := M) ((mset_of (i := 14) (mL_of (o := .val (.lst [.int (A 1), .int (A 7), .int (A 11)])) any)).trans rfl) ?_
  refine mseq_nx (ρ' := S (some (.int N)) (some (shR t)) (some (.dic ks ds)) (some (.int (one : Int))) (some (.int (other : Int))) (some (.lst [.int (A 1), .int (A 7), .int (A 11)])) (some (.lst (L1.map paper))) z16) (M1 := M) ((mset_of (i := 15) (mL_of (o := .val (.lst (L1.map paper))) (lst3_of (lst3_of rfl (op_of rfl rfl rfl) rfl) (lst3_of rfl rfl (op_of rfl rfl rfl)) rfl))).trans rfl) ?_
  have pw : i2 powI (.int 10) (.int 20) = some (.int (10 ^ 20)) := by kernel_rfl
  refine mseq_nx (ρ' := S (some (.int N)) (some (shR t)) (some (.dic ks ds)) (some (.int (one : Int))) (some (.int (other : Int))) (some (.lst [.int (A 1), .int (A 7), .int (A 11)])) (some (.lst ((L1 ++ L2).map paper))) z16) (M1 := M) ((mset_of (i := 15) (mL_of (o := .val (.lst ((L1 ++ L2).map paper))) (eFr_of ((cat_of rfl (lst4_of (lst3_of rfl rfl rfl) (lst3_of rfl rfl rfl) (lst3_of rfl rfl (op_of rfl rfl rfl)) (lst3_of rfl rfl (op_of (d2 := .int (10 ^ 20)) rfl (op_of rfl rfl pw) rfl))) (by show 3 ≤ 1000; decide) (by show 4 ≤ 1000; decide)).trans rfl)))).trans rfl) ?_
  exact mfor_of (mwseq_of (mL_of (o := .val (.lst ((L1 ++ L2).map paper))) rfl)) pf
theorem pureDs_ints : ∀ ns : List Int, pureDs (ns.map D.int) = true
  | [] => rfl
  | n :: ns => by simp [pureDs, pureD, pureDs_ints ns]
theorem enum_cells {ns : List Int} {W : Int} (hW : Bd 1048700 W) (hb : ∀ i ∈ ns, Bd 1048576 i) : ∃ L : List (Int × Int), enumD (.int W :: cutD (ns.map .int) none (some 1)) = L.map (fun z => D.tup [.int z.1, .int z.2]) ∧ L.length ≤ 2 ∧ ∀ z ∈ L, ∃ N, m_q_number [.int z.2, .int (z.1 + 5), .int W] = some (.val (.int N)) := by
  have one : ∀ (c at' : Int), Bd 1048700 c → 0 ≤ at' → at' ≤ 10 → ∃ N, m_q_number [.int c, .int (at' + 5), .int W] = some (.val (.int N)) := fun c at' hc h0 h1 =>
    q_number (n := 1048700) hc hW (at' := at' + 5) (by omega) (by omega) (by decide) (by decide)
  match ns, hb with
  | [], _ => exact ⟨[(0, W)], rfl, by show 1 ≤ 2; decide, fun z h => by rw [List.mem_singleton.mp h]; exact one W 0 hW (by decide) (by decide)⟩
  | a :: l, hb =>
    refine ⟨[(0, W), (1, a)], ?_, by show 2 ≤ 2; decide, fun z h => ?_⟩
    · have : cutD ((a :: l).map D.int) none (some 1) = [.int a] := by
        unfold cutD
        simp [HT.sIx]
      rw [this]
      rfl
    · simp only [List.mem_cons, List.not_mem_nil, or_false] at h
      rcases h with rfl | rfl
      · exact one W 0 hW (by decide) (by decide)
      · exact one a 1 ((hb a (by simp)).mono (by decide)) (by decide) (by decide)
theorem turns_for {s0 : D} {W : Int} {r : List Bead} (g : GR r) (two : 2 ≤ r.length) (M : Mem) : ∀ (L : List (Int × Int)), (∀ z ∈ L, ∃ N, m_q_number [.int z.2, .int (z.1 + 5), .int W] = some (.val (.int N))) → ∀ (z7 z8 z9 z10 z11 z12 z13 z14 z15 z16 : Option D),
    ∃ y7 y8 y9 y10 y11 y12 y13 y14 y15 y16, forM (gTp (gsCons (gNm 7) (gsCons (gNm 8) gsNil))) L2_law (L.map (fun z => D.tup [.int z.1, .int z.2])) (vρ s0 W r z7 z8 z9 z10 z11 z12 z13 z14 z15 z16) M = some (.nx (vρ s0 W r y7 y8 y9 y10 y11 y12 y13 y14 y15 y16), M)
  | [], _, z7, z8, z9, z10, z11, z12, z13, z14, z15, z16 => ⟨z7, z8, z9, z10, z11, z12, z13, z14, z15, z16, rfl⟩
  | z :: L, H, z7, z8, z9, z10, z11, z12, z13, z14, z15, z16 => by
    obtain ⟨N, en⟩ := H z (List.mem_cons_self ..)
    obtain ⟨w9, w10, w11, w12, w13, w14, w15, w16, e⟩ := turn_ok (s0 := s0) g two en z9 z10 z11 z12 z13 z14 z15 z16 M
    obtain ⟨y7, y8, y9, y10, y11, y12, y13, y14, y15, y16, f⟩ := turns_for g two M L (fun x hx => H x (List.mem_cons_of_mem _ hx)) (some (.int z.1)) (some (.int z.2)) w9 w10 w11 w12 w13 w14 w15 w16
    refine ⟨y7, y8, y9, y10, y11, y12, y13, y14, y15, y16, mfor_cons (ρ1 := vρ s0 W r (some (.int z.1)) (some (.int z.2)) z9 z10 z11 z12 z13 z14 z15 z16) ?_ (noOwn_v ..) e f⟩
    cases z7 <;> cases z8 <;> rfl
def two2 : List Bead := [⟨1, 0, 1⟩, ⟨3, 2, -1⟩]
theorem law_true : LawT 63 (pSem M_law) := fun ns hl hbits => by
  have hb : ∀ i ∈ ns, Bd 1048576 i := fun i hi => by
    have := hbits i hi
    unfold Bd
    by_cases z : i.natAbs = 0
    · rw [z]; exact Nat.pow_pos (by decide)
    · exact (Nat.log2_lt z).mp this
  have hW : Bd 1048700 ns.sum := (Bd.sum hb (by omega)).mono (by omega)
  let W := ns.sum
  obtain ⟨L, eL, lL, HL⟩ := enum_cells (W := W) hW hb
  let Mo : Int := if W.fmod 16 = 5 then 10 else 5
  obtain ⟨r0, g0, x0, er⟩ := row_okM hl hb (Y := 0) (Mo := Mo) (by decide) (by simp only [Mo]; split <;> omega) false
  have pu : pureDs [.lst (ns.map .int)] = true := by simp [pureDs, pureD, pureDs_ints]
  let s0 : D := .lst (ns.map .int)
  have wh : eB sumB (aCons (eFr (lSlice (eVar 0) oNone (oSome (eC (.int 63))))) aNil) ([some (.sh s0), none, none, none, none, none, none, none, none, none, none, none, none, none, none, none, none, none] : Rho) = some (.val (.int W)) :=
    sum_of (ns := ns) (eFr_of ((slice_of (f := eVar 0) (l := none) (h := some 63) rfl rfl rfl).trans (by rw [cut63 hl])))
  let S : Option Sl → Option Sl → Rho := fun x2 x3 => [some (.sh s0), some (.sh (.int W)), x2, x3, none, none, none, none, none, none, none, none, none, none, none, none, none, none]
  have mo : (eIf (eOp eqD (eOp (i2 modI) (eVar 1) (eC (.int 16))) (eC (.int 5))) (eC (.int 10)) (eC (.int 5))) (S none none) = some (.val (.int Mo)) := by
    have q := op_of (op_of (f := eVar 1) (f2 := eC (.int 16)) (ρ := S none none) rfl rfl (mod_of (by decide))) (f2 := eC (.int 5)) rfl (eqD_int _ _)
    by_cases z : W.fmod 16 = 5
    · rw [show (W.fmod 16 == 5) = true by simp [z]] at q
      simp only [Mo]
      rw [if_pos z]
      exact eif_yes q rfl
    · rw [show (W.fmod 16 == 5) = false by simp [z]] at q
      simp only [Mo]
      rw [if_neg z]
      exact eif_no q rfl
  obtain ⟨r, g, two, erow⟩ : ∃ r, GR r ∧ 2 ≤ r.length ∧ (mIfS (mQ0 [] (eOp eqD (eB lenB (aCons (eVar 2) aNil)) (eC (.int 1)))) (mSet (mL (eFr (lCat (eVar 2) (eFr (lLst (aCons (eTup (aCons (eC (.int 3)) (aCons (eCall m_q_sum (aCons (eOp ixD (eOp ixD (eVar 2) (eC (.int 0))) (eC (.int 1))) (aCons (eTup (aCons (eC (.int 1)) (aCons (eC (.int 1)) aNil))) aNil))) (aCons (eCall m_q_sum (aCons (eOp ixD (eOp ixD (eVar 2) (eC (.int 0))) (eC (.int 2))) (aCons (eTup (aCons (eNeg (eC (.int 1))) (aCons (eC (.int 1)) aNil))) aNil))) aNil)))) aNil)))))) 2) mNext) (S (some (.sh (.lst (r0.map bD)))) none) [] = some (.nx (S (some (.sh (.lst (r.map bD)))) none), []) := by
    have ql := op_of (len_map (f := eVar 2) (ρ := S (some (.sh (.lst (r0.map bD)))) none) (F := bD) (xs := r0) rfl) (f2 := eC (.int 1)) rfl (eqD_int _ _)
    have o1 := g0.one
    by_cases z : r0.length = 1
    · rw [show (((r0.length : Nat) : Int) == 1) = true by simp [z]] at ql
      obtain ⟨b, rfl⟩ := List.length_eq_one_iff.mp z
      have gb := g0.good b (by simp)
      obtain ⟨n1, n2⟩ := x0.near b (by simp)
      have b1 : BdR 2 (1 : Rat) := bdR_int (w := 1) (by unfold Bd; decide) (by decide)
      have bm1 : BdR 2 (-1 : Rat) := bdR_int (w := -1) (by unfold Bd; decide) (by decide)
      have e1 := q_sum_R gb.x.bd b1 (by decide)
      have e2 := q_sum_R gb.v.bd bm1 (by decide)
      rw [show b.v + -1 = b.v - 1 by grind] at e2
      refine ⟨[b, ⟨3, b.x + 1, b.v - 1⟩], ⟨by show 1 ≤ 2; decide, by show 2 ≤ 10; decide, fun c hc => ?_, fun i u v hu hv => ?_⟩, by show 2 ≤ 2; decide, ?_⟩
      · simp only [List.mem_cons, List.not_mem_nil, or_false] at hc
        rcases hc with rfl | rfl
        · exact gb
        · exact ⟨by show (1 : Int) ≤ 3; decide, by show (3 : Int) ≤ 60; decide, n1, n2⟩
      · match i, hu, hv with
        | 0, hu, hv => cases Option.some.inj hu; cases Option.some.inj hv; show b.x < b.x + 1; grind
        | i + 1, hu, hv => simp at hv
      · refine mifS_yes (mQ0_of rfl (o := .val (.bl true)) ql) ((mset_of (i := 2) (mL_of (o := .val (.lst ([b, ⟨3, b.x + 1, b.v - 1⟩].map bD))) (eFr_of ((cat_of (xs := [bD b]) (ys := [bD ⟨3, b.x + 1, b.v - 1⟩]) rfl (lst1_of (tup3_of rfl (call2 (d2 := shR 1) (op_of (op_of rfl rfl rfl) rfl (bD1 b)) rfl e1) (call2 (d2 := shR (-1)) (op_of (op_of rfl rfl rfl) rfl (bD2 b)) rfl e2))) (by show 1 ≤ 1000; decide) (by show 1 ≤ 1000; decide)).trans rfl)))).trans rfl)
    · rw [show (((r0.length : Nat) : Int) == 1) = false by simp; omega] at ql
      exact ⟨r0, g0, by omega, mifN (mQ0_of rfl (o := .val (.bl false)) ql)⟩
  obtain ⟨y7, y8, y9, y10, y11, y12, y13, y14, y15, y16, tf⟩ := turns_for (s0 := s0) (W := W) g two [] L HL none none none none none none none none none none
  let F : Option Sl → Option Sl → Option Sl → Rho := fun x4 x5 x6 => [some (.sh s0), some (.sh (.int W)), some (.sh (.lst (r.map bD))), some (.sh (.int (r.length : Int))), x4, x5, x6, os y7, os y8, os y9, os y10, os y11, os y12, os y13, os y14, os y15, os y16, none]
  let T2 : D := .lst (two2.map bD)
  have m1 : m_One_shows [.obj 1 [.int 0, .int 1], T2, shR 1, .int 0, .int 1] = some (.val (.bl true)) := by kernel_rfl
  have m2 : m_Parted_shows [.obj 2 [.int 0], T2, shR (1 / 2), .int 0, .int 1] = some (.val (.bl true)) := by kernel_rfl
  have m3 : m_One_shows [.obj 1 [.int 0, .int 1], T2, shR (1 / 2), .int 0, .int 1] = some (.val (.bl false)) := by kernel_rfl
  have m4 : m_Parted_shows [.obj 2 [.int 0], T2, shR 1, .int 0, .int 1] = some (.val (.bl false)) := by kernel_rfl
  have m5 : m_One_shows [.obj 1 [.int 0, .int (10 ^ 20)], T2, shR 1, .int 0, .int 1] = some (.val (.bl false)) := by kernel_rfl
  have pw : i2 powI (.int 10) (.int 20) = some (.int (10 ^ 20)) := by kernel_rfl
  have hf : eTup (aCons (eC (.int 1)) (aCons (eC (.int 2)) aNil)) = fun ρ : Rho => some (.val (shR (1 / 2))) := by funext ρ; kernel_rfl
  have en : wArgM kEnum (mCons (mL (eFr (lCat (eFr (lLst (aCons (eVar 1) aNil))) (eFr (lSlice (eVar 0) oNone (oSome (eC (.int 1)))))))) mNil) (vρ s0 W r none none none none none none none none none none) [] = some (.vals (L.map (fun z => D.tup [.int z.1, .int z.2])), []) := by
    rw [← eL]
    have s1 := slice_of (f := eVar 0) (lo := oNone) (hi := oSome (eC (.int 1))) (ρ := vρ s0 W r none none none none none none none none none none) (ds := ns.map .int) (l := none) (h := some 1) rfl rfl rfl
    have c1 := eFr_of (cat_of (fa := eFr (lLst (aCons (eVar 1) aNil))) (xs := [.int W]) (lst1_of rfl) (eFr_of s1) (by show 1 ≤ 1000; decide) (by
      have : (cutD (ns.map D.int) none (some 1)).length ≤ 63 := by
        unfold cutD
        rw [List.length_take, List.length_drop, List.length_map]
        omega
      omega))
    unfold wArgM lmbndL
    rw [mcons_of (mL_of (o := .val (.lst ([D.int W] ++ cutD (ns.map D.int) none (some 1)))) c1) mnil_of]
    rfl
  obtain ⟨M2, m⟩ : ∃ M2, M_law [.lst (ns.map .int)] [] = some (.val (.bl true), M2) := by
    refine ⟨[.lst [.bl false, .bl false, .bl false]], ?_⟩
    unfold M_law B_law
    refine mfn_rt rfl rfl (mseq_nx (ρ' := S none none) (M1 := []) ((mset_of (i := 1) (mL_of (o := .val (.int W)) wh)).trans rfl) ?_)
    refine mseq_nx (ρ' := S (some (.sh (.lst (r0.map bD)))) none) (M1 := []) ((mset_of (i := 2) (mL_of (o := .val (.lst (r0.map bD))) (call4 rfl rfl rfl mo er))).trans rfl) ?_
    refine mseq_nx erow ?_
    refine mseq_nx (ρ' := vρ s0 W r none none none none none none none none none none) (M1 := []) ((mset_of (i := 3) (mL_of (o := .val (.int (r.length : Int))) (len_map (F := bD) (xs := r) rfl))).trans rfl) ?_
    refine mseq_nx (mfor_of en tf) ?_
    refine mseq_nx (ρ' := F (some (.sh T2)) none none) (M1 := []) ((mset_of (i := 4) (mL_of (o := .val T2) rfl)).trans rfl) ?_
    refine mseq_nx (ρ' := F (some (.sh T2)) (some (.sh (.lst [.bl true, .bl true]))) none) (M1 := []) ((mset_of (i := 5) (mL_of (o := .val (.lst [.bl true, .bl true])) (lst2_of (meth_of' (n := 1) (ds := [.int 0, .int 1]) (as := [T2, shR 1, .int 0, .int 1]) rfl rfl m1) (meth_of' (n := 2) (ds := [.int 0]) (as := [T2, shR (1 / 2), .int 0, .int 1]) rfl (by rw [hf]; rfl) m2)))).trans rfl) ?_
    refine mseq_nx (ρ' := F (some (.sh T2)) (some (.sh (.lst [.bl true, .bl true]))) (some (.sh (.cell 0)))) (M1 := [.lst [.bl false, .bl false]]) ((mset_of (i := 6) (mnew_of (ds := [.bl false, .bl false]) (lstV2 (meth_of' (n := 1) (ds := [.int 0, .int 1]) (as := [T2, shR (1 / 2), .int 0, .int 1]) rfl (by rw [hf]; rfl) m3) (meth_of' (n := 2) (ds := [.int 0]) (as := [T2, shR 1, .int 0, .int 1]) rfl rfl m4)))).trans rfl) ?_
    refine mseq_nx (ρ' := F (some (.sh T2)) (some (.sh (.lst [.bl true, .bl true]))) (some (.sh (.cell 0)))) (M1 := [.lst [.bl false, .bl false, .bl false]]) ((mcapp_of (n := 0) (d := .bl false) (es := [.bl false, .bl false]) (es' := [.bl false, .bl false]) (mL_of (o := .val (.cell 0)) rfl) rfl (mL_of (o := .val (.bl false)) (meth_of' (n := 1) (ds := [.int 0, .int (10 ^ 20)]) (as := [T2, shR 1, .int 0, .int 1]) (make_of' (two_of rfl (op_of rfl rfl pw)) rfl) rfl m5)) rfl rfl).trans rfl) ?_
    refine mret_of (mS0_of (d := .bl true) (ρ' := F (some (.sh T2)) (some (.sh (.lst [.bl true, .bl true]))) (some (.sh (.lst [.bl false, .bl false, .bl false])))) rfl ?_ rfl)
    exact and_of (op_of rfl (lst2_of rfl rfl) (by kernel_rfl)) (op_of rfl (lst3_of rfl rfl rfl) (by kernel_rfl))
  unfold pSem
  rw [if_pos pu, m]
  rfl
end BD
def PySem.W.Fast.tw2872101639551411816 : Unit := ()
def PySem.W.Fast.tw7731826100557928232 : Unit := ()
def PySem.W.Fast.tw5348990752799506962 : Unit := ()
def PySem.W.Fast.tw9548018500714917018 : Unit := ()
def PySem.W.Fast.tw12404169430073230436 : Unit := ()
def PySem.W.Fast.tw1362585836024268725 : Unit := ()
def PySem.W.Fast.tw13480892432530653071 : Unit := ()
def PySem.W.Fast.tw10437322446786815001 : Unit := ()
def PySem.W.Fast.tw16226066576195555538 : Unit := ()
def PySem.W.Fast.tw5501100321035245335 : Unit := ()
def PySem.W.Fast.tw6842808454997725554 : Unit := ()
def PySem.W.Fast.tw3292389182909724035 : Unit := ()
def PySem.W.Fast.tw14094392333078323242 : Unit := ()
def PySem.W.Fast.tw959454081093122268 : Unit := ()
def PySem.W.Fast.tw11433095308104908261 : Unit := ()
def PySem.W.Fast.tw2923157623179816134 : Unit := ()
def PySem.W.Fast.tw13082100460652803532 : Unit := ()
def PySem.W.Fast.tw6749710938368871983 : Unit := ()
def PySem.W.Fast.tw15405478078744362121 : Unit := ()
def PySem.W.Fast.tw14741504433495340878 : Unit := ()
def PySem.W.Fast.tw15797429036584545377 : Unit := ()
def PySem.W.Fast.tw11141998207660526806 : Unit := ()
def PySem.W.Fast.tw16410606482307314033 : Unit := ()
def PySem.W.Fast.tw9029300395138657815 : Unit := ()
def PySem.W.Fast.tw15356577522890673801 : Unit := ()
def PySem.W.Fast.tw1251660424750134119 : Unit := ()
def PySem.W.Fast.tw10399900866797030929 : Unit := ()
def PySem.W.Fast.tw4142013143051161515 : Unit := ()
def PySem.W.Fast.tw5355833046266028784 : Unit := ()
def PySem.W.Fast.tw2673731149026198423 : Unit := ()
def PySem.W.Fast.tw5339563633920264882 : Unit := ()
def PySem.W.Fast.tw16323322236503547547 : Unit := ()
def PySem.W.Fast.tw12415041923854202104 : Unit := ()
def PySem.W.Fast.tw16264686826568896917 : Unit := ()
def PySem.W.Fast.tw18173421571401501918 : Unit := ()
def PySem.W.Fast.tw18158173304419148757 : Unit := ()
def PySem.W.Fast.tw1159920526681935477 : Unit := ()
def PySem.W.Fast.tw1324375939903225361 : Unit := ()
def PySem.W.Fast.tw4918511192804693500 : Unit := ()
def PySem.W.Fast.tw8931638098805237650 : Unit := ()
def PySem.W.Fast.tw14967999467579963511 : Unit := ()
def PySem.W.Fast.tw14045358475678977840 : Unit := ()
def PySem.W.Fast.tw17343433588988199465 : Unit := ()
def PySem.W.Fast.tw10266283492666068604 : Unit := ()
def PySem.W.Fast.tw4547132648678355470 : Unit := ()
def PySem.W.Fast.tw16266397417610092943 : Unit := ()
def PySem.W.Fast.tw15023606509798433959 : Unit := ()
def PySem.W.Fast.tw2905461428015008170 : Unit := ()
def PySem.W.Fast.tw5138439065033493308 : Unit := ()
def PySem.W.Fast.tw17135836254693898021 : Unit := ()
def PySem.W.Fast.tw9671091787948826805 : Unit := ()
def PySem.W.Fast.tw13628934692322905542 : Unit := ()
def PySem.W.Fast.tw4876131932776862766 : Unit := ()
def PySem.W.Fast.tw1721765194404314635 : Unit := ()
def PySem.W.Fast.tw5018425935305489172 : Unit := ()
def PySem.W.Fast.tw8717448526060371047 : Unit := ()
def PySem.W.Fast.tw14004292844227975476 : Unit := ()
def PySem.W.Fast.tw14727860671536128352 : Unit := ()
def PySem.W.Fast.tw10812311158689026554 : Unit := ()
def PySem.W.Fast.tw5465153542968473362 : Unit := ()
def PySem.W.Fast.tw14343018771121564870 : Unit := ()
def PySem.W.Fast.tw16220997064313747063 : Unit := ()
def PySem.W.Fast.tw17252911737519965487 : Unit := ()
def PySem.W.Fast.tw7381041157365012394 : Unit := ()
def PySem.W.Fast.tw11314148804629086100 : Unit := ()
def PySem.W.Fast.tw8748199020825316508 : Unit := ()
def PySem.W.Fast.tw16685966431894595578 : Unit := ()
def PySem.W.Fast.tw9336296452149290945 : Unit := ()
def PySem.W.Fast.tw9099430876562230403 : Unit := ()
def PySem.W.Fast.tw3532832546943678127 : Unit := ()
def PySem.W.Fast.tw16131743898117008975 : Unit := ()
def PySem.W.Fast.tw14824994718557251588 : Unit := ()
def PySem.W.Fast.tw15232353476338886993 : Unit := ()
def PySem.W.Fast.tw9791414084152548898 : Unit := ()
def PySem.W.Fast.tw6062772281343786634 : Unit := ()
def PySem.W.Fast.tw5349546974906393812 : Unit := ()
def PySem.W.Fast.tw4719013734198515547 : Unit := ()
def PySem.W.Fast.tw8228957374665735296 : Unit := ()
def PySem.W.Fast.tw4448734436587543488 : Unit := ()
def PySem.W.Fast.tw15586921814740376101 : Unit := ()
def PySem.W.Fast.tw16981688255889229920 : Unit := ()
def PySem.W.Fast.tw3918290738663427581 : Unit := ()
def PySem.W.Fast.tw19882872354030259 : Unit := ()
def PySem.W.Fast.tw12036454263871992333 : Unit := ()
def PySem.W.Fast.tw14956160504377236687 : Unit := ()
def PySem.W.Fast.tw18000379512409841567 : Unit := ()
def PySem.W.Fast.tw10976932745263161893 : Unit := ()
def PySem.W.Fast.tw14258521948187904312 : Unit := ()
def PySem.W.Fast.tw5769134097444194441 : Unit := ()
def PySem.W.Fast.tw12425795861282597417 : Unit := ()
def PySem.W.Fast.tw18325795173470775670 : Unit := ()
def PySem.W.Fast.tw8259224400489871520 : Unit := ()
def PySem.W.Fast.tw14375400176275382284 : Unit := ()
def PySem.W.Fast.tw10655974305250352160 : Unit := ()
def PySem.W.Fast.tw14906437642717437332 : Unit := ()
def PySem.W.Fast.tw10457986196274720045 : Unit := ()
def PySem.W.Fast.tw12011797799471279278 : Unit := ()
def PySem.W.Fast.tw15015186424439201706 : Unit := ()
def PySem.W.Fast.tw1975497363831059924 : Unit := ()
def PySem.W.Fast.tw17084358758916755428 : Unit := ()
def PySem.W.Fast.tw15571832317724254506 : Unit := ()
def PySem.W.Fast.tw7158918897511583248 : Unit := ()
def PySem.W.Fast.tw10438891049995930639 : Unit := ()
def PySem.W.Fast.tw17296853686662798184 : Unit := ()
def PySem.W.Fast.tw1750391516979610931 : Unit := ()
def PySem.W.Fast.tw1310931698864276162 : Unit := ()
def PySem.W.Fast.tw12204842630077645775 : Unit := ()
def PySem.W.Fast.tw7057007926114304025 : Unit := ()
def PySem.W.Fast.tw3924128937624319624 : Unit := ()
def PySem.W.Fast.tw2863993381065156497 : Unit := ()
def PySem.W.Fast.tw898498669047790764 : Unit := ()
def PySem.W.Fast.tw9472468053561673851 : Unit := ()
def PySem.W.Fast.tw2284097514915839667 : Unit := ()
def PySem.W.Fast.tw12641223385974252661 : Unit := ()
def PySem.W.Fast.tw8299200689750584277 : Unit := ()
def PySem.W.Fast.tw5904080387825325038 : Unit := ()
def PySem.W.Fast.tw16834446965607325617 : Unit := ()
def PySem.W.Fast.tw15288151141834321756 : Unit := ()
def PySem.W.Fast.tw10897869485312562982 : Unit := ()
def PySem.W.Fast.tw5570998424084255421 : Unit := ()
def PySem.W.Fast.tw14518840703052494641 : Unit := ()
def PySem.W.Fast.tw10119993143847755627 : Unit := ()
def PySem.W.Fast.tw854674000139394173 : Unit := ()
def PySem.W.Fast.tw7796851117100858574 : Unit := ()
def PySem.W.Fast.tw14162301077743538167 : Unit := ()
def PySem.W.Fast.tw8285558314658879062 : Unit := ()
def PySem.W.Fast.tw15519223524056217288 : Unit := ()
def PySem.W.Fast.tw3765555198098643838 : Unit := ()
def PySem.W.Fast.tw5665012218386027329 : Unit := ()
def PySem.W.Fast.tw14101537237618512573 : Unit := ()
def PySem.W.Fast.tw1695593394423116577 : Unit := ()
def PySem.W.Fast.tw17896103522831079232 : Unit := ()
def PySem.W.Fast.tw7320632921400259711 : Unit := ()
def PySem.W.Fast.tw894071922710335971 : Unit := ()
def PySem.W.Fast.tw17961372410533207058 : Unit := ()
def PySem.W.Fast.tw8170279036939241257 : Unit := ()
def PySem.W.Fast.tw9332015355565886641 : Unit := ()
def PySem.W.Fast.tw14815310419344933857 : Unit := ()
def PySem.W.Fast.tw17713681522393607691 : Unit := ()
def PySem.W.Fast.tw16870220511955046202 : Unit := ()
def PySem.W.Fast.tw9772482977727393017 : Unit := ()
def PySem.W.Fast.tw1104155362798701481 : Unit := ()
def PySem.W.Fast.tw16344839498201191465 : Unit := ()
def PySem.W.Fast.tw8536952635223983561 : Unit := ()
def PySem.W.Fast.tw15353970185232435752 : Unit := ()
def PySem.W.Fast.tw2869002633649648132 : Unit := ()
def PySem.W.Fast.tw643494981208437611 : Unit := ()
def PySem.W.Fast.tw4558665042721309716 : Unit := ()
def PySem.W.Fast.tw4224645728402419081 : Unit := ()
def PySem.W.Fast.tw9736971445960499451 : Unit := ()
def PySem.W.Fast.tw136875642372116399 : Unit := ()
def PySem.W.Fast.tw12270448518439807704 : Unit := ()
def PySem.W.Fast.tw17119975928788241035 : Unit := ()
def PySem.W.Fast.tw10979895211422664350 : Unit := ()
def PySem.W.Fast.tw13418948676263884886 : Unit := ()
def PySem.W.Fast.tw3212970040063397330 : Unit := ()
def PySem.W.Fast.tw4115659197324976544 : Unit := ()
def PySem.W.Fast.tw15401448980026169119 : Unit := ()
def PySem.W.Fast.tw3775409437137068874 : Unit := ()
def PySem.W.Fast.tw10028356275549359602 : Unit := ()
def PySem.W.Fast.tw14851497856810623574 : Unit := ()
def PySem.W.Fast.tw12271201340788579936 : Unit := ()
def PySem.W.Fast.tw7811438602527073737 : Unit := ()
def PySem.W.Fast.tw16185866459075289602 : Unit := ()
def PySem.W.Fast.tw1664938443161732334 : Unit := ()
def PySem.W.Fast.tw5295449932556472483 : Unit := ()
def PySem.W.Fast.tw6473134841818806704 : Unit := ()
def PySem.W.Fast.tw15409491419356248873 : Unit := ()
def PySem.W.Fast.tw10932523777319116072 : Unit := ()
def PySem.W.Fast.tw14209656128810598852 : Unit := ()
def PySem.W.Fast.tw17338035039335035481 : Unit := ()
def PySem.W.Fast.tw8379287808340879067 : Unit := ()
def PySem.W.Fast.tw4296895821115426966 : Unit := ()
def PySem.W.Fast.tw8901952207254238671 : Unit := ()
def PySem.W.Fast.tw16952233638629506636 : Unit := ()
def PySem.W.Fast.tw11797470748844905674 : Unit := ()
def PySem.W.Fast.tw5818529720676794359 : Unit := ()
def PySem.W.Fast.tw971137084467424820 : Unit := ()
def PySem.W.Fast.tw2381991747112159583 : Unit := ()
def PySem.W.Fast.tw10868041152514387460 : Unit := ()
def PySem.W.Fast.tw5587314251937276899 : Unit := ()
def PySem.W.Fast.tw1143463984812278933 : Unit := ()
def PySem.W.Fast.tw12209211301938240271 : Unit := ()
def PySem.W.Fast.tw4414555018156369233 : Unit := ()
def PySem.W.Fast.tw6132132141919491366 : Unit := ()
def PySem.W.Fast.tw10685617019357915474 : Unit := ()
def PySem.W.Fast.tw4856638798489302616 : Unit := ()
def PySem.W.Fast.tw15974061751565578313 : Unit := ()
def PySem.W.Fast.tw2473645075326215128 : Unit := ()
def PySem.W.Fast.tw15688791188678123087 : Unit := ()
def PySem.W.Fast.tw7551981202040197920 : Unit := ()
def PySem.W.Fast.tw14610461606672824218 : Unit := ()
def PySem.W.Fast.tw13194875161472147544 : Unit := ()
def PySem.W.Fast.tw4482261352275116033 : Unit := ()
def PySem.W.Fast.tw10784554184479478393 : Unit := ()
def PySem.W.Fast.tw10184978996409108301 : Unit := ()
def PySem.W.Fast.tw1533459893932813194 : Unit := ()
def PySem.W.Fast.tw4367695105854283208 : Unit := ()
def PySem.W.Fast.tw16680607082787035285 : Unit := ()
def PySem.W.Fast.tw2029366587222135204 : Unit := ()
def PySem.W.Fast.tw6323702948278584827 : Unit := ()
def PySem.W.Fast.tw3724558643344579198 : Unit := ()
def PySem.W.Fast.tw15545747364796080644 : Unit := ()
def PySem.W.Fast.tw5738273088810399074 : Unit := ()
def PySem.W.Fast.tw6843685453897424490 : Unit := ()
def PySem.W.Fast.tw6194260876247576405 : Unit := ()
def PySem.W.Fast.tw8097307970835676856 : Unit := ()
def PySem.W.Fast.tw15491661551947609591 : Unit := ()
def PySem.W.Fast.tw1624836654030573287 : Unit := ()
def PySem.W.Fast.tw6119656632176411460 : Unit := ()
def PySem.W.Fast.tw4468390825999320244 : Unit := ()
def PySem.W.Fast.tw1934420755392326853 : Unit := ()
def PySem.W.Fast.tw4489867937837826955 : Unit := ()
def PySem.W.Fast.tw5023188400555598826 : Unit := ()
def PySem.W.Fast.tw6350052422905509374 : Unit := ()
def PySem.W.Fast.tw11552356209507809859 : Unit := ()
def PySem.W.Fast.tw18278109210177050037 : Unit := ()
def PySem.W.Fast.tw16531688178482888705 : Unit := ()
def PySem.W.Fast.tw5193156741059310300 : Unit := ()
def PySem.W.Fast.tw17202654198839261447 : Unit := ()
def PySem.W.Fast.tw8585413030667419029 : Unit := ()
def PySem.W.Fast.tw4862439302913918915 : Unit := ()
def PySem.W.Fast.tw513038652817090186 : Unit := ()
def PySem.W.Fast.tw14124986559359931712 : Unit := ()
def PySem.W.Fast.tw12206971439730815833 : Unit := ()
def PySem.W.Fast.tw16426377227643815000 : Unit := ()
def PySem.W.Fast.tw11103933219286305293 : Unit := ()
def PySem.W.Fast.tw566067709920086358 : Unit := ()
def PySem.W.Fast.tw15093251635811334535 : Unit := ()
def PySem.W.Fast.tw2531289238423880700 : Unit := ()
def PySem.W.Fast.tw10141631739673560080 : Unit := ()
def PySem.W.Fast.tw521928088750053596 : Unit := ()
def PySem.W.Fast.tw679631081594846808 : Unit := ()
def PySem.W.Fast.tw9240753241838705869 : Unit := ()
def PySem.W.Fast.tw8458627839645654960 : Unit := ()
def PySem.W.Fast.tw18067949006121367928 : Unit := ()
def PySem.W.Fast.tw6336454989130920915 : Unit := ()
def PySem.W.Fast.tw8669376872363639784 : Unit := ()
def PySem.W.Fast.tw9281829894791933275 : Unit := ()
def PySem.W.Fast.tw221395734442238459 : Unit := ()
def PySem.W.Fast.tw2218614529867768798 : Unit := ()
def PySem.W.Fast.tw15844113721234267039 : Unit := ()
def PySem.W.Fast.tw16111530295038866224 : Unit := ()
def PySem.W.Fast.tw12383061243065051537 : Unit := ()
def PySem.W.Fast.tw9774102576166073315 : Unit := ()
def PySem.W.Fast.tw10009793676851648410 : Unit := ()
def PySem.W.Fast.tw4026113471955317897 : Unit := ()
def PySem.W.Fast.tw12994141528138209027 : Unit := ()
def PySem.W.Fast.tw12896053242209836047 : Unit := ()
def PySem.W.Fast.tw4234205560922814380 : Unit := ()
def PySem.W.Fast.tw4788849546803293389 : Unit := ()
def PySem.W.Fast.tw30270994846445071 : Unit := ()
def PySem.W.Fast.tw17250315099615571812 : Unit := ()
def PySem.W.Fast.tw16969111591641298 : Unit := ()
def PySem.W.Fast.tw5929089444999721505 : Unit := ()
def PySem.W.Fast.tw3544012239043383479 : Unit := ()
def PySem.W.Fast.tw774778632851800777 : Unit := ()
def PySem.W.Fast.tw7483301961388030836 : Unit := ()
def PySem.W.Fast.tw4741493192696985247 : Unit := ()
def PySem.W.Fast.tw1418811942395525602 : Unit := ()
def PySem.W.Fast.tw8813691382855934530 : Unit := ()
def PySem.W.Fast.tw3576806025782210250 : Unit := ()
def PySem.W.Fast.tw6653147401163523664 : Unit := ()
namespace BD
open PySem L2
abbrev Tl (O_One O_Parted : Addr) : Tab := TabL [] [] [(1, O_One, ["first", "last"]), (2, O_Parted, ["cut"])]
theorem all_mk {l : PySem.W.OpenLaw} {w : World} {K : PySem.W.Frag} {h : Heap} {mg : Str → Option Value} {fa : Addr} (X : K.In h) (G : h.Ns mainGlobals mg) (hfa : mg "law" = some (.ref fa)) {f_q_number : Addr} {f_q_low : Addr} {f_q_row : Addr} {f_q_sum : Addr} {f_q_moment : Addr} {f_q_by : Addr} {f_q_there : Addr} {f_q_part : Addr} {f_q_middles : Addr} {f_q_far : Addr} {f_q_is_one : Addr} {f_One___init__ : Addr} {f_Parted___init__ : Addr} {f_is_whole : Addr} {f_is_bead_of : Addr} {f_common : Addr} {f_lowest : Addr} {f_added : Addr} {f_multiplied : Addr} {f_straight_place : Addr} {f_parted : Addr} {f_scaled : Addr} {f_weighed_sum : Addr} {f_weighed_mean : Addr} {f_stretch_weights : Addr} {f_stretch_middle : Addr} {f_compared : Addr} {f_is_behind : Addr} {f_holds : Addr} {f_One_shows : Addr} {f_parts_at : Addr} {f_Parted_shows : Addr} {f_q_is_apart : Addr} {f_q_right : Addr} {f_law : Addr} {O_One : Addr} {O_Parted : Addr} {dv_q_row : Addr} {dt_q_row : Tok} {dn_q_row : Nat} {dd_q_row : Option Addr} {ds_q_row : Array (Option Value)} {f_NOUGHT : Addr} {t0_NOUGHT t1_NOUGHT : Tok} {n_NOUGHT : Nat} {d_NOUGHT : Option Addr} {sl_NOUGHT : Array (Option Value)}
    {od_q_number an_q_number : Option Addr} {sl_q_number : Array (Option Value)} {oc_q_number kV_q_number dc_q_number pm_q_number cd_q_number ct_q_number : Value} {od_q_low an_q_low : Option Addr} {sl_q_low : Array (Option Value)} {oc_q_low kV_q_low dc_q_low pm_q_low cd_q_low ct_q_low : Value} {od_q_row an_q_row : Option Addr} {sl_q_row : Array (Option Value)} {oc_q_row kV_q_row dc_q_row pm_q_row cd_q_row ct_q_row : Value} {od_q_sum an_q_sum : Option Addr} {sl_q_sum : Array (Option Value)} {oc_q_sum kV_q_sum dc_q_sum pm_q_sum cd_q_sum ct_q_sum : Value} {od_q_moment an_q_moment : Option Addr} {sl_q_moment : Array (Option Value)} {oc_q_moment kV_q_moment dc_q_moment pm_q_moment cd_q_moment ct_q_moment : Value} {od_q_by an_q_by : Option Addr} {sl_q_by : Array (Option Value)} {oc_q_by kV_q_by dc_q_by pm_q_by cd_q_by ct_q_by : Value} {od_q_there an_q_there : Option Addr} {sl_q_there : Array (Option Value)} {oc_q_there kV_q_there dc_q_there pm_q_there cd_q_there ct_q_there : Value} {od_q_part an_q_part : Option Addr} {sl_q_part : Array (Option Value)} {oc_q_part kV_q_part dc_q_part pm_q_part cd_q_part ct_q_part : Value} {od_q_middles an_q_middles : Option Addr} {sl_q_middles : Array (Option Value)} {oc_q_middles kV_q_middles dc_q_middles pm_q_middles cd_q_middles ct_q_middles : Value} {od_q_far an_q_far : Option Addr} {sl_q_far : Array (Option Value)} {oc_q_far kV_q_far dc_q_far pm_q_far cd_q_far ct_q_far : Value} {od_q_is_one an_q_is_one : Option Addr} {sl_q_is_one : Array (Option Value)} {oc_q_is_one kV_q_is_one dc_q_is_one pm_q_is_one cd_q_is_one ct_q_is_one : Value} {od_One___init__ an_One___init__ : Option Addr} {sl_One___init__ : Array (Option Value)} {oc_One___init__ kV_One___init__ dc_One___init__ pm_One___init__ cd_One___init__ ct_One___init__ : Value} {od_Parted___init__ an_Parted___init__ : Option Addr} {sl_Parted___init__ : Array (Option Value)} {oc_Parted___init__ kV_Parted___init__ dc_Parted___init__ pm_Parted___init__ cd_Parted___init__ ct_Parted___init__ : Value} {od_is_whole an_is_whole : Option Addr} {sl_is_whole : Array (Option Value)} {oc_is_whole kV_is_whole dc_is_whole pm_is_whole cd_is_whole ct_is_whole : Value} {od_is_bead_of an_is_bead_of : Option Addr} {sl_is_bead_of : Array (Option Value)} {oc_is_bead_of kV_is_bead_of dc_is_bead_of pm_is_bead_of cd_is_bead_of ct_is_bead_of : Value} {od_common an_common : Option Addr} {sl_common : Array (Option Value)} {oc_common kV_common dc_common pm_common cd_common ct_common : Value} {od_lowest an_lowest : Option Addr} {sl_lowest : Array (Option Value)} {oc_lowest kV_lowest dc_lowest pm_lowest cd_lowest ct_lowest : Value} {od_added an_added : Option Addr} {sl_added : Array (Option Value)} {oc_added kV_added dc_added pm_added cd_added ct_added : Value} {od_multiplied an_multiplied : Option Addr} {sl_multiplied : Array (Option Value)} {oc_multiplied kV_multiplied dc_multiplied pm_multiplied cd_multiplied ct_multiplied : Value} {od_straight_place an_straight_place : Option Addr} {sl_straight_place : Array (Option Value)} {oc_straight_place kV_straight_place dc_straight_place pm_straight_place cd_straight_place ct_straight_place : Value} {od_parted an_parted : Option Addr} {sl_parted : Array (Option Value)} {oc_parted kV_parted dc_parted pm_parted cd_parted ct_parted : Value} {od_scaled an_scaled : Option Addr} {sl_scaled : Array (Option Value)} {oc_scaled kV_scaled dc_scaled pm_scaled cd_scaled ct_scaled : Value} {od_weighed_sum an_weighed_sum : Option Addr} {sl_weighed_sum : Array (Option Value)} {oc_weighed_sum kV_weighed_sum dc_weighed_sum pm_weighed_sum cd_weighed_sum ct_weighed_sum : Value} {od_weighed_mean an_weighed_mean : Option Addr} {sl_weighed_mean : Array (Option Value)} {oc_weighed_mean kV_weighed_mean dc_weighed_mean pm_weighed_mean cd_weighed_mean ct_weighed_mean : Value} {od_stretch_weights an_stretch_weights : Option Addr} {sl_stretch_weights : Array (Option Value)} {oc_stretch_weights kV_stretch_weights dc_stretch_weights pm_stretch_weights cd_stretch_weights ct_stretch_weights : Value} {od_stretch_middle an_stretch_middle : Option Addr} {sl_stretch_middle : Array (Option Value)} {oc_stretch_middle kV_stretch_middle dc_stretch_middle pm_stretch_middle cd_stretch_middle ct_stretch_middle : Value} {od_compared an_compared : Option Addr} {sl_compared : Array (Option Value)} {oc_compared kV_compared dc_compared pm_compared cd_compared ct_compared : Value} {od_is_behind an_is_behind : Option Addr} {sl_is_behind : Array (Option Value)} {oc_is_behind kV_is_behind dc_is_behind pm_is_behind cd_is_behind ct_is_behind : Value} {od_holds an_holds : Option Addr} {sl_holds : Array (Option Value)} {oc_holds kV_holds dc_holds pm_holds cd_holds ct_holds : Value} {od_One_shows an_One_shows : Option Addr} {sl_One_shows : Array (Option Value)} {oc_One_shows kV_One_shows dc_One_shows pm_One_shows cd_One_shows ct_One_shows : Value} {od_parts_at an_parts_at : Option Addr} {sl_parts_at : Array (Option Value)} {oc_parts_at kV_parts_at dc_parts_at pm_parts_at cd_parts_at ct_parts_at : Value} {od_Parted_shows an_Parted_shows : Option Addr} {sl_Parted_shows : Array (Option Value)} {oc_Parted_shows kV_Parted_shows dc_Parted_shows pm_Parted_shows cd_Parted_shows ct_Parted_shows : Value} {od_q_is_apart an_q_is_apart : Option Addr} {sl_q_is_apart : Array (Option Value)} {oc_q_is_apart kV_q_is_apart dc_q_is_apart pm_q_is_apart cd_q_is_apart ct_q_is_apart : Value} {od_q_right an_q_right : Option Addr} {sl_q_right : Array (Option Value)} {oc_q_right kV_q_right dc_q_right pm_q_right cd_q_right ct_q_right : Value} {od_law an_law : Option Addr} {sl_law : Array (Option Value)} {oc_law kV_law dc_law pm_law cd_law ct_law : Value}
    (a_q_number : PySem.W.nsIn K mainGlobals "_law_number" = some (some (.ref f_q_number))) (l_q_number : K.lookup f_q_number = some ⟨oc_q_number, od_q_number, .func (PySem.W.fnOf "_law_number" "_law_number" (defArgs s_q_number) (defBody s_q_number) (defScope s_q_number) .none kV_q_number dc_q_number pm_q_number an_q_number cd_q_number ct_q_number), sl_q_number⟩) (c_q_number : PySem.W.codeIn K cd_q_number "_law_number" = true) (k_q_number : PySem.W.keepIn K (.ref f_q_number) = true)
    (a_q_low : PySem.W.nsIn K mainGlobals "_law_low" = some (some (.ref f_q_low))) (l_q_low : K.lookup f_q_low = some ⟨oc_q_low, od_q_low, .func (PySem.W.fnOf "_law_low" "_law_low" (defArgs s_q_low) (defBody s_q_low) (defScope s_q_low) .none kV_q_low dc_q_low pm_q_low an_q_low cd_q_low ct_q_low), sl_q_low⟩) (c_q_low : PySem.W.codeIn K cd_q_low "_law_low" = true) (k_q_low : PySem.W.keepIn K (.ref f_q_low) = true)
    (a_q_row : PySem.W.nsIn K mainGlobals "_law_row" = some (some (.ref f_q_row))) (l_q_row : K.lookup f_q_row = some ⟨oc_q_row, od_q_row, .func (PySem.W.fnOf "_law_row" "_law_row" (defArgs s_q_row) (defBody s_q_row) (defScope s_q_row) (.ref dv_q_row) kV_q_row dc_q_row pm_q_row an_q_row cd_q_row ct_q_row), sl_q_row⟩) (c_q_row : PySem.W.codeIn K cd_q_row "_law_row" = true) (k_q_row : PySem.W.keepIn K (.ref f_q_row) = true)
    (e_q_row : K.lookup dv_q_row = some ⟨.type "tuple", dd_q_row, .seq #[.int 10 dt_q_row] dn_q_row, ds_q_row⟩)
    (a_q_sum : PySem.W.nsIn K mainGlobals "_law_sum" = some (some (.ref f_q_sum))) (l_q_sum : K.lookup f_q_sum = some ⟨oc_q_sum, od_q_sum, .func (PySem.W.fnOf "_law_sum" "_law_sum" (defArgs s_q_sum) (defBody s_q_sum) (defScope s_q_sum) .none kV_q_sum dc_q_sum pm_q_sum an_q_sum cd_q_sum ct_q_sum), sl_q_sum⟩) (c_q_sum : PySem.W.codeIn K cd_q_sum "_law_sum" = true) (k_q_sum : PySem.W.keepIn K (.ref f_q_sum) = true)
    (a_q_moment : PySem.W.nsIn K mainGlobals "_law_moment" = some (some (.ref f_q_moment))) (l_q_moment : K.lookup f_q_moment = some ⟨oc_q_moment, od_q_moment, .func (PySem.W.fnOf "_law_moment" "_law_moment" (defArgs s_q_moment) (defBody s_q_moment) (defScope s_q_moment) .none kV_q_moment dc_q_moment pm_q_moment an_q_moment cd_q_moment ct_q_moment), sl_q_moment⟩) (c_q_moment : PySem.W.codeIn K cd_q_moment "_law_moment" = true) (k_q_moment : PySem.W.keepIn K (.ref f_q_moment) = true)
    (a_q_by : PySem.W.nsIn K mainGlobals "_law_by" = some (some (.ref f_q_by))) (l_q_by : K.lookup f_q_by = some ⟨oc_q_by, od_q_by, .func (PySem.W.fnOf "_law_by" "_law_by" (defArgs s_q_by) (defBody s_q_by) (defScope s_q_by) .none kV_q_by dc_q_by pm_q_by an_q_by cd_q_by ct_q_by), sl_q_by⟩) (c_q_by : PySem.W.codeIn K cd_q_by "_law_by" = true) (k_q_by : PySem.W.keepIn K (.ref f_q_by) = true)
    (a_q_there : PySem.W.nsIn K mainGlobals "_law_there" = some (some (.ref f_q_there))) (l_q_there : K.lookup f_q_there = some ⟨oc_q_there, od_q_there, .func (PySem.W.fnOf "_law_there" "_law_there" (defArgs s_q_there) (defBody s_q_there) (defScope s_q_there) .none kV_q_there dc_q_there pm_q_there an_q_there cd_q_there ct_q_there), sl_q_there⟩) (c_q_there : PySem.W.codeIn K cd_q_there "_law_there" = true) (k_q_there : PySem.W.keepIn K (.ref f_q_there) = true)
    (a_q_part : PySem.W.nsIn K mainGlobals "_law_part" = some (some (.ref f_q_part))) (l_q_part : K.lookup f_q_part = some ⟨oc_q_part, od_q_part, .func (PySem.W.fnOf "_law_part" "_law_part" (defArgs s_q_part) (defBody s_q_part) (defScope s_q_part) .none kV_q_part dc_q_part pm_q_part an_q_part cd_q_part ct_q_part), sl_q_part⟩) (c_q_part : PySem.W.codeIn K cd_q_part "_law_part" = true) (k_q_part : PySem.W.keepIn K (.ref f_q_part) = true)
    (a_q_middles : PySem.W.nsIn K mainGlobals "_law_middles" = some (some (.ref f_q_middles))) (l_q_middles : K.lookup f_q_middles = some ⟨oc_q_middles, od_q_middles, .func (PySem.W.fnOf "_law_middles" "_law_middles" (defArgs s_q_middles) (defBody s_q_middles) (defScope s_q_middles) .none kV_q_middles dc_q_middles pm_q_middles an_q_middles cd_q_middles ct_q_middles), sl_q_middles⟩) (c_q_middles : PySem.W.codeIn K cd_q_middles "_law_middles" = true) (k_q_middles : PySem.W.keepIn K (.ref f_q_middles) = true)
    (a_q_far : PySem.W.nsIn K mainGlobals "_law_far" = some (some (.ref f_q_far))) (l_q_far : K.lookup f_q_far = some ⟨oc_q_far, od_q_far, .func (PySem.W.fnOf "_law_far" "_law_far" (defArgs s_q_far) (defBody s_q_far) (defScope s_q_far) .none kV_q_far dc_q_far pm_q_far an_q_far cd_q_far ct_q_far), sl_q_far⟩) (c_q_far : PySem.W.codeIn K cd_q_far "_law_far" = true) (k_q_far : PySem.W.keepIn K (.ref f_q_far) = true)
    (a_q_is_one : PySem.W.nsIn K mainGlobals "_law_is_one" = some (some (.ref f_q_is_one))) (l_q_is_one : K.lookup f_q_is_one = some ⟨oc_q_is_one, od_q_is_one, .func (PySem.W.fnOf "_law_is_one" "_law_is_one" (defArgs s_q_is_one) (defBody s_q_is_one) (defScope s_q_is_one) .none kV_q_is_one dc_q_is_one pm_q_is_one an_q_is_one cd_q_is_one ct_q_is_one), sl_q_is_one⟩) (c_q_is_one : PySem.W.codeIn K cd_q_is_one "_law_is_one" = true) (k_q_is_one : PySem.W.keepIn K (.ref f_q_is_one) = true)
    (a_One___init__ : PySem.W.findIn K (.ref O_One) "__init__" = some (some (.ref f_One___init__))) (l_One___init__ : K.lookup f_One___init__ = some ⟨oc_One___init__, od_One___init__, .func (PySem.W.fnOf "__init__" "One.__init__" (defArgs s_One___init__) (defBody s_One___init__) (defScope s_One___init__) .none kV_One___init__ dc_One___init__ pm_One___init__ an_One___init__ cd_One___init__ ct_One___init__), sl_One___init__⟩) (c_One___init__ : PySem.W.codeIn K cd_One___init__ "One.__init__" = true) (k_One___init__ : PySem.W.keepIn K (.ref f_One___init__) = true) (i_One___init__ : PySem.W.isFn K (.ref f_One___init__) = true)
    (a_Parted___init__ : PySem.W.findIn K (.ref O_Parted) "__init__" = some (some (.ref f_Parted___init__))) (l_Parted___init__ : K.lookup f_Parted___init__ = some ⟨oc_Parted___init__, od_Parted___init__, .func (PySem.W.fnOf "__init__" "Parted.__init__" (defArgs s_Parted___init__) (defBody s_Parted___init__) (defScope s_Parted___init__) .none kV_Parted___init__ dc_Parted___init__ pm_Parted___init__ an_Parted___init__ cd_Parted___init__ ct_Parted___init__), sl_Parted___init__⟩) (c_Parted___init__ : PySem.W.codeIn K cd_Parted___init__ "Parted.__init__" = true) (k_Parted___init__ : PySem.W.keepIn K (.ref f_Parted___init__) = true) (i_Parted___init__ : PySem.W.isFn K (.ref f_Parted___init__) = true)
    (a_is_whole : PySem.W.nsIn K mainGlobals "is_whole" = some (some (.ref f_is_whole))) (l_is_whole : K.lookup f_is_whole = some ⟨oc_is_whole, od_is_whole, .func (PySem.W.fnOf "is_whole" "is_whole" (defArgs s_is_whole) (defBody s_is_whole) (defScope s_is_whole) .none kV_is_whole dc_is_whole pm_is_whole an_is_whole cd_is_whole ct_is_whole), sl_is_whole⟩) (c_is_whole : PySem.W.codeIn K cd_is_whole "is_whole" = true) (k_is_whole : PySem.W.keepIn K (.ref f_is_whole) = true)
    (a_is_bead_of : PySem.W.nsIn K mainGlobals "is_bead_of" = some (some (.ref f_is_bead_of))) (l_is_bead_of : K.lookup f_is_bead_of = some ⟨oc_is_bead_of, od_is_bead_of, .func (PySem.W.fnOf "is_bead_of" "is_bead_of" (defArgs s_is_bead_of) (defBody s_is_bead_of) (defScope s_is_bead_of) .none kV_is_bead_of dc_is_bead_of pm_is_bead_of an_is_bead_of cd_is_bead_of ct_is_bead_of), sl_is_bead_of⟩) (c_is_bead_of : PySem.W.codeIn K cd_is_bead_of "is_bead_of" = true) (k_is_bead_of : PySem.W.keepIn K (.ref f_is_bead_of) = true)
    (a_common : PySem.W.nsIn K mainGlobals "common" = some (some (.ref f_common))) (l_common : K.lookup f_common = some ⟨oc_common, od_common, .func (PySem.W.fnOf "common" "common" (defArgs s_common) (defBody s_common) (defScope s_common) .none kV_common dc_common pm_common an_common cd_common ct_common), sl_common⟩) (c_common : PySem.W.codeIn K cd_common "common" = true) (k_common : PySem.W.keepIn K (.ref f_common) = true)
    (a_lowest : PySem.W.nsIn K mainGlobals "lowest" = some (some (.ref f_lowest))) (l_lowest : K.lookup f_lowest = some ⟨oc_lowest, od_lowest, .func (PySem.W.fnOf "lowest" "lowest" (defArgs s_lowest) (defBody s_lowest) (defScope s_lowest) .none kV_lowest dc_lowest pm_lowest an_lowest cd_lowest ct_lowest), sl_lowest⟩) (c_lowest : PySem.W.codeIn K cd_lowest "lowest" = true) (k_lowest : PySem.W.keepIn K (.ref f_lowest) = true)
    (a_added : PySem.W.nsIn K mainGlobals "added" = some (some (.ref f_added))) (l_added : K.lookup f_added = some ⟨oc_added, od_added, .func (PySem.W.fnOf "added" "added" (defArgs s_added) (defBody s_added) (defScope s_added) .none kV_added dc_added pm_added an_added cd_added ct_added), sl_added⟩) (c_added : PySem.W.codeIn K cd_added "added" = true) (k_added : PySem.W.keepIn K (.ref f_added) = true)
    (a_multiplied : PySem.W.nsIn K mainGlobals "multiplied" = some (some (.ref f_multiplied))) (l_multiplied : K.lookup f_multiplied = some ⟨oc_multiplied, od_multiplied, .func (PySem.W.fnOf "multiplied" "multiplied" (defArgs s_multiplied) (defBody s_multiplied) (defScope s_multiplied) .none kV_multiplied dc_multiplied pm_multiplied an_multiplied cd_multiplied ct_multiplied), sl_multiplied⟩) (c_multiplied : PySem.W.codeIn K cd_multiplied "multiplied" = true) (k_multiplied : PySem.W.keepIn K (.ref f_multiplied) = true)
    (a_straight_place : PySem.W.nsIn K mainGlobals "straight_place" = some (some (.ref f_straight_place))) (l_straight_place : K.lookup f_straight_place = some ⟨oc_straight_place, od_straight_place, .func (PySem.W.fnOf "straight_place" "straight_place" (defArgs s_straight_place) (defBody s_straight_place) (defScope s_straight_place) .none kV_straight_place dc_straight_place pm_straight_place an_straight_place cd_straight_place ct_straight_place), sl_straight_place⟩) (c_straight_place : PySem.W.codeIn K cd_straight_place "straight_place" = true) (k_straight_place : PySem.W.keepIn K (.ref f_straight_place) = true)
    (a_parted : PySem.W.nsIn K mainGlobals "parted" = some (some (.ref f_parted))) (l_parted : K.lookup f_parted = some ⟨oc_parted, od_parted, .func (PySem.W.fnOf "parted" "parted" (defArgs s_parted) (defBody s_parted) (defScope s_parted) .none kV_parted dc_parted pm_parted an_parted cd_parted ct_parted), sl_parted⟩) (c_parted : PySem.W.codeIn K cd_parted "parted" = true) (k_parted : PySem.W.keepIn K (.ref f_parted) = true)
    (a_scaled : PySem.W.nsIn K mainGlobals "scaled" = some (some (.ref f_scaled))) (l_scaled : K.lookup f_scaled = some ⟨oc_scaled, od_scaled, .func (PySem.W.fnOf "scaled" "scaled" (defArgs s_scaled) (defBody s_scaled) (defScope s_scaled) .none kV_scaled dc_scaled pm_scaled an_scaled cd_scaled ct_scaled), sl_scaled⟩) (c_scaled : PySem.W.codeIn K cd_scaled "scaled" = true) (k_scaled : PySem.W.keepIn K (.ref f_scaled) = true)
    (a_weighed_sum : PySem.W.nsIn K mainGlobals "weighed_sum" = some (some (.ref f_weighed_sum))) (l_weighed_sum : K.lookup f_weighed_sum = some ⟨oc_weighed_sum, od_weighed_sum, .func (PySem.W.fnOf "weighed_sum" "weighed_sum" (defArgs s_weighed_sum) (defBody s_weighed_sum) (defScope s_weighed_sum) .none kV_weighed_sum dc_weighed_sum pm_weighed_sum an_weighed_sum cd_weighed_sum ct_weighed_sum), sl_weighed_sum⟩) (c_weighed_sum : PySem.W.codeIn K cd_weighed_sum "weighed_sum" = true) (k_weighed_sum : PySem.W.keepIn K (.ref f_weighed_sum) = true)
    (a_weighed_mean : PySem.W.nsIn K mainGlobals "weighed_mean" = some (some (.ref f_weighed_mean))) (l_weighed_mean : K.lookup f_weighed_mean = some ⟨oc_weighed_mean, od_weighed_mean, .func (PySem.W.fnOf "weighed_mean" "weighed_mean" (defArgs s_weighed_mean) (defBody s_weighed_mean) (defScope s_weighed_mean) .none kV_weighed_mean dc_weighed_mean pm_weighed_mean an_weighed_mean cd_weighed_mean ct_weighed_mean), sl_weighed_mean⟩) (c_weighed_mean : PySem.W.codeIn K cd_weighed_mean "weighed_mean" = true) (k_weighed_mean : PySem.W.keepIn K (.ref f_weighed_mean) = true)
    (a_stretch_weights : PySem.W.nsIn K mainGlobals "stretch_weights" = some (some (.ref f_stretch_weights))) (l_stretch_weights : K.lookup f_stretch_weights = some ⟨oc_stretch_weights, od_stretch_weights, .func (PySem.W.fnOf "stretch_weights" "stretch_weights" (defArgs s_stretch_weights) (defBody s_stretch_weights) (defScope s_stretch_weights) .none kV_stretch_weights dc_stretch_weights pm_stretch_weights an_stretch_weights cd_stretch_weights ct_stretch_weights), sl_stretch_weights⟩) (c_stretch_weights : PySem.W.codeIn K cd_stretch_weights "stretch_weights" = true) (k_stretch_weights : PySem.W.keepIn K (.ref f_stretch_weights) = true)
    (a_stretch_middle : PySem.W.nsIn K mainGlobals "stretch_middle" = some (some (.ref f_stretch_middle))) (l_stretch_middle : K.lookup f_stretch_middle = some ⟨oc_stretch_middle, od_stretch_middle, .func (PySem.W.fnOf "stretch_middle" "stretch_middle" (defArgs s_stretch_middle) (defBody s_stretch_middle) (defScope s_stretch_middle) .none kV_stretch_middle dc_stretch_middle pm_stretch_middle an_stretch_middle cd_stretch_middle ct_stretch_middle), sl_stretch_middle⟩) (c_stretch_middle : PySem.W.codeIn K cd_stretch_middle "stretch_middle" = true) (k_stretch_middle : PySem.W.keepIn K (.ref f_stretch_middle) = true)
    (a_compared : PySem.W.nsIn K mainGlobals "compared" = some (some (.ref f_compared))) (l_compared : K.lookup f_compared = some ⟨oc_compared, od_compared, .func (PySem.W.fnOf "compared" "compared" (defArgs s_compared) (defBody s_compared) (defScope s_compared) .none kV_compared dc_compared pm_compared an_compared cd_compared ct_compared), sl_compared⟩) (c_compared : PySem.W.codeIn K cd_compared "compared" = true) (k_compared : PySem.W.keepIn K (.ref f_compared) = true)
    (a_is_behind : PySem.W.nsIn K mainGlobals "is_behind" = some (some (.ref f_is_behind))) (l_is_behind : K.lookup f_is_behind = some ⟨oc_is_behind, od_is_behind, .func (PySem.W.fnOf "is_behind" "is_behind" (defArgs s_is_behind) (defBody s_is_behind) (defScope s_is_behind) .none kV_is_behind dc_is_behind pm_is_behind an_is_behind cd_is_behind ct_is_behind), sl_is_behind⟩) (c_is_behind : PySem.W.codeIn K cd_is_behind "is_behind" = true) (k_is_behind : PySem.W.keepIn K (.ref f_is_behind) = true)
    (a_holds : PySem.W.nsIn K mainGlobals "holds" = some (some (.ref f_holds))) (l_holds : K.lookup f_holds = some ⟨oc_holds, od_holds, .func (PySem.W.fnOf "holds" "holds" (defArgs s_holds) (defBody s_holds) (defScope s_holds) .none kV_holds dc_holds pm_holds an_holds cd_holds ct_holds), sl_holds⟩) (c_holds : PySem.W.codeIn K cd_holds "holds" = true) (k_holds : PySem.W.keepIn K (.ref f_holds) = true)
    (a_One_shows : PySem.W.findIn K (.ref O_One) "shows" = some (some (.ref f_One_shows))) (l_One_shows : K.lookup f_One_shows = some ⟨oc_One_shows, od_One_shows, .func (PySem.W.fnOf "shows" "One.shows" (defArgs s_One_shows) (defBody s_One_shows) (defScope s_One_shows) .none kV_One_shows dc_One_shows pm_One_shows an_One_shows cd_One_shows ct_One_shows), sl_One_shows⟩) (c_One_shows : PySem.W.codeIn K cd_One_shows "One.shows" = true) (k_One_shows : PySem.W.keepIn K (.ref f_One_shows) = true) (i_One_shows : PySem.W.isFn K (.ref f_One_shows) = true)
    (a_parts_at : PySem.W.nsIn K mainGlobals "parts_at" = some (some (.ref f_parts_at))) (l_parts_at : K.lookup f_parts_at = some ⟨oc_parts_at, od_parts_at, .func (PySem.W.fnOf "parts_at" "parts_at" (defArgs s_parts_at) (defBody s_parts_at) (defScope s_parts_at) .none kV_parts_at dc_parts_at pm_parts_at an_parts_at cd_parts_at ct_parts_at), sl_parts_at⟩) (c_parts_at : PySem.W.codeIn K cd_parts_at "parts_at" = true) (k_parts_at : PySem.W.keepIn K (.ref f_parts_at) = true)
    (a_Parted_shows : PySem.W.findIn K (.ref O_Parted) "shows" = some (some (.ref f_Parted_shows))) (l_Parted_shows : K.lookup f_Parted_shows = some ⟨oc_Parted_shows, od_Parted_shows, .func (PySem.W.fnOf "shows" "Parted.shows" (defArgs s_Parted_shows) (defBody s_Parted_shows) (defScope s_Parted_shows) .none kV_Parted_shows dc_Parted_shows pm_Parted_shows an_Parted_shows cd_Parted_shows ct_Parted_shows), sl_Parted_shows⟩) (c_Parted_shows : PySem.W.codeIn K cd_Parted_shows "Parted.shows" = true) (k_Parted_shows : PySem.W.keepIn K (.ref f_Parted_shows) = true) (i_Parted_shows : PySem.W.isFn K (.ref f_Parted_shows) = true)
    (a_q_is_apart : PySem.W.nsIn K mainGlobals "_law_is_apart" = some (some (.ref f_q_is_apart))) (l_q_is_apart : K.lookup f_q_is_apart = some ⟨oc_q_is_apart, od_q_is_apart, .func (PySem.W.fnOf "_law_is_apart" "_law_is_apart" (defArgs s_q_is_apart) (defBody s_q_is_apart) (defScope s_q_is_apart) .none kV_q_is_apart dc_q_is_apart pm_q_is_apart an_q_is_apart cd_q_is_apart ct_q_is_apart), sl_q_is_apart⟩) (c_q_is_apart : PySem.W.codeIn K cd_q_is_apart "_law_is_apart" = true) (k_q_is_apart : PySem.W.keepIn K (.ref f_q_is_apart) = true)
    (a_q_right : PySem.W.nsIn K mainGlobals "_law_right" = some (some (.ref f_q_right))) (l_q_right : K.lookup f_q_right = some ⟨oc_q_right, od_q_right, .func (PySem.W.fnOf "_law_right" "_law_right" (defArgs s_q_right) (defBody s_q_right) (defScope s_q_right) .none kV_q_right dc_q_right pm_q_right an_q_right cd_q_right ct_q_right), sl_q_right⟩) (c_q_right : PySem.W.codeIn K cd_q_right "_law_right" = true) (k_q_right : PySem.W.keepIn K (.ref f_q_right) = true)
    (a_law : PySem.W.nsIn K mainGlobals "law" = some (some (.ref f_law))) (l_law : K.lookup f_law = some ⟨oc_law, od_law, .func (PySem.W.fnOf "law" "law" (defArgs s_law) (defBody s_law) (defScope s_law) .none kV_law dc_law pm_law an_law cd_law ct_law), sl_law⟩) (c_law : PySem.W.codeIn K cd_law "law" = true) (k_law : PySem.W.keepIn K (.ref f_law) = true)
    (z_abs : PySem.W.nsIn K mainGlobals "abs" = some none)
    (z_all : PySem.W.nsIn K mainGlobals "all" = some none)
    (z_any : PySem.W.nsIn K mainGlobals "any" = some none)
    (z_bool : PySem.W.nsIn K mainGlobals "bool" = some none)
    (z_enumerate : PySem.W.nsIn K mainGlobals "enumerate" = some none)
    (z_int : PySem.W.nsIn K mainGlobals "int" = some none)
    (z_isinstance : PySem.W.nsIn K mainGlobals "isinstance" = some none)
    (z_len : PySem.W.nsIn K mainGlobals "len" = some none)
    (z_range : PySem.W.nsIn K mainGlobals "range" = some none)
    (z_sum : PySem.W.nsIn K mainGlobals "sum" = some none)
    (z_zip : PySem.W.nsIn K mainGlobals "zip" = some none)
    (a_One : PySem.W.nsIn K mainGlobals "One" = some (some (.ref O_One)))
    (pg_One : PySem.W.plainGet K O_One Str.empty = true)
    (hd_One : PySem.W.hasDictIn K O_One = true)
    (po_One : PySem.W.plainOver K O_One = true)
    (sa_One : PySem.W.findIn K (.ref O_One) "__setattr__" = some (some (.builtin "object.__setattr__")))
    (mk_One : PySem.W.makesIn K O_One = true)
    (kc_One : PySem.W.keepIn K (.ref O_One) = true)
    (no_One_first : PySem.W.findIn K (.ref O_One) "first" = some none)
    (no_One_last : PySem.W.findIn K (.ref O_One) "last" = some none)
    (a_Parted : PySem.W.nsIn K mainGlobals "Parted" = some (some (.ref O_Parted)))
    (pg_Parted : PySem.W.plainGet K O_Parted Str.empty = true)
    (hd_Parted : PySem.W.hasDictIn K O_Parted = true)
    (po_Parted : PySem.W.plainOver K O_Parted = true)
    (sa_Parted : PySem.W.findIn K (.ref O_Parted) "__setattr__" = some (some (.builtin "object.__setattr__")))
    (mk_Parted : PySem.W.makesIn K O_Parted = true)
    (kc_Parted : PySem.W.keepIn K (.ref O_Parted) = true)
    (no_Parted_cut : PySem.W.findIn K (.ref O_Parted) "cut" = some none)
    (a_NOUGHT : PySem.W.nsIn K mainGlobals "NOUGHT" = some (some (.ref f_NOUGHT))) (l_NOUGHT : K.lookup f_NOUGHT = some ⟨.type "tuple", d_NOUGHT, .seq #[.int 0 t0_NOUGHT, .int 1 t1_NOUGHT] n_NOUGHT, sl_NOUGHT⟩) :
    ∃ (fd : FuncData) (T : Tab), T.hd = none ∧ (∀ (s : Shared) (v : Value), BindsTo s fd ⟨[v], []⟩ [("_law_script", v)]) ∧ ∀ base : Heap, K.In base → base.Ns mainGlobals mg → FnOk l.prog w K mg base (CXf l.prog w) 11 fa fd ["_law_script"] (spM T K M_law) := by
  have e := hfa.symm.trans (PySem.W.mg_of X G a_law)
  cases e
  have Z : Txt K mg := ⟨trivial, PySem.W.mg_none_of X G z_abs, PySem.W.mg_none_of X G z_all, PySem.W.mg_none_of X G z_any, PySem.W.mg_none_of X G z_bool, PySem.W.mg_none_of X G z_enumerate, PySem.W.mg_none_of X G z_int, PySem.W.mg_none_of X G z_isinstance, PySem.W.mg_none_of X G z_len, PySem.W.mg_none_of X G z_range, PySem.W.mg_none_of X G z_sum, PySem.W.mg_none_of X G z_zip, ⟨_, _, _, _, PySem.W.mg_of X G a_NOUGHT, l_NOUGHT, rfl, rfl, (show 2 ≤ sizeLine by decide), .cons ⟨_, rfl⟩ (.cons ⟨_, rfl⟩ (.nil))⟩⟩
  have F_q_number := fun_mk (st := s_q_number) l_q_number c_q_number k_q_number
  have D_q_number := fund_mk (st := s_q_number) l_q_number c_q_number k_q_number
  have b_q_number := F_q_number.binds (ps := ["_law_cell", "_law_at", "_law_whole"]) fun _ _ _ _ _ _ us hl => match us, hl with | [_, _, _], _ => rfl
  have F_q_low := fun_mk (st := s_q_low) l_q_low c_q_low k_q_low
  have D_q_low := fund_mk (st := s_q_low) l_q_low c_q_low k_q_low
  have b_q_low := F_q_low.binds (ps := ["_law_top", "_law_bottom"]) fun _ _ _ _ _ _ us hl => match us, hl with | [_, _], _ => rfl
  have F_q_row := fund_mk (st := s_q_row) l_q_row c_q_row k_q_row
  have b_q_row : Binds K _ ["_law_script", "_law_by_here", "_law_alike", "_law_most"] [.int 10 dt_q_row] := fun s us KX hl => by
    have hl2 : us.length = 3 := by simpa using hl
    match us, hl2 with
    | [_, _, _], _ => exact PySem.W.binds_K (fd := PySem.W.fnOf "_law_row" "_law_row" (defArgs s_q_row) (defBody s_q_row) (defScope s_q_row) (.ref dv_q_row) kV_q_row dc_q_row pm_q_row an_q_row cd_q_row ct_q_row) KX rfl e_q_row rfl rfl rfl
  have bF_q_row : Binds K (PySem.W.fnOf "_law_row" "_law_row" (defArgs s_q_row) (defBody s_q_row) (defScope s_q_row) (.ref dv_q_row) kV_q_row dc_q_row pm_q_row an_q_row cd_q_row ct_q_row) ["_law_script", "_law_by_here", "_law_alike", "_law_most"] [] := fun s us KX hl => by
    have hl2 : us.length = 4 := by simpa using hl
    match us, hl2 with
    | [_, _, _, _], _ => exact PySem.W.binds_K (fd := PySem.W.fnOf "_law_row" "_law_row" (defArgs s_q_row) (defBody s_q_row) (defScope s_q_row) (.ref dv_q_row) kV_q_row dc_q_row pm_q_row an_q_row cd_q_row ct_q_row) KX rfl e_q_row rfl rfl rfl
  have F_q_sum := fun_mk (st := s_q_sum) l_q_sum c_q_sum k_q_sum
  have D_q_sum := fund_mk (st := s_q_sum) l_q_sum c_q_sum k_q_sum
  have b_q_sum := F_q_sum.binds (ps := ["_law_one", "_law_other"]) fun _ _ _ _ _ _ us hl => match us, hl with | [_, _], _ => rfl
  have F_q_moment := fun_mk (st := s_q_moment) l_q_moment c_q_moment k_q_moment
  have D_q_moment := fund_mk (st := s_q_moment) l_q_moment c_q_moment k_q_moment
  have b_q_moment := F_q_moment.binds (ps := ["_law_number_here"]) fun _ _ _ _ _ _ us hl => match us, hl with | [_], _ => rfl
  have F_q_by := fun_mk (st := s_q_by) l_q_by c_q_by k_q_by
  have D_q_by := fund_mk (st := s_q_by) l_q_by c_q_by k_q_by
  have b_q_by := F_q_by.binds (ps := ["_law_one", "_law_other"]) fun _ _ _ _ _ _ us hl => match us, hl with | [_, _], _ => rfl
  have F_q_there := fun_mk (st := s_q_there) l_q_there c_q_there k_q_there
  have D_q_there := fund_mk (st := s_q_there) l_q_there c_q_there k_q_there
  have b_q_there := F_q_there.binds (ps := ["_law_line", "_law_moment_here"]) fun _ _ _ _ _ _ us hl => match us, hl with | [_, _], _ => rfl
  have F_q_part := fun_mk (st := s_q_part) l_q_part c_q_part k_q_part
  have D_q_part := fund_mk (st := s_q_part) l_q_part c_q_part k_q_part
  have b_q_part := F_q_part.binds (ps := ["_law_one", "_law_other"]) fun _ _ _ _ _ _ us hl => match us, hl with | [_, _], _ => rfl
  have F_q_middles := fun_mk (st := s_q_middles) l_q_middles c_q_middles k_q_middles
  have D_q_middles := fund_mk (st := s_q_middles) l_q_middles c_q_middles k_q_middles
  have b_q_middles := F_q_middles.binds (ps := ["_law_row_here", "_law_moment_here"]) fun _ _ _ _ _ _ us hl => match us, hl with | [_, _], _ => rfl
  have F_q_far := fun_mk (st := s_q_far) l_q_far c_q_far k_q_far
  have D_q_far := fund_mk (st := s_q_far) l_q_far c_q_far k_q_far
  have b_q_far := F_q_far.binds (ps := ["_law_one", "_law_other"]) fun _ _ _ _ _ _ us hl => match us, hl with | [_, _], _ => rfl
  have F_q_is_one := fun_mk (st := s_q_is_one) l_q_is_one c_q_is_one k_q_is_one
  have D_q_is_one := fund_mk (st := s_q_is_one) l_q_is_one c_q_is_one k_q_is_one
  have b_q_is_one := F_q_is_one.binds (ps := ["_law_middles_here", "_law_first", "_law_last"]) fun _ _ _ _ _ _ us hl => match us, hl with | [_, _, _], _ => rfl
  have F_One___init__ := fun_mk (st := s_One___init__) l_One___init__ c_One___init__ k_One___init__
  have D_One___init__ := fund_mk (st := s_One___init__) l_One___init__ c_One___init__ k_One___init__
  have b_One___init__ := F_One___init__.binds (ps := ["self", "first", "last"]) fun _ _ _ _ _ _ us hl => match us, hl with | [_, _, _], _ => rfl
  have F_Parted___init__ := fun_mk (st := s_Parted___init__) l_Parted___init__ c_Parted___init__ k_Parted___init__
  have D_Parted___init__ := fund_mk (st := s_Parted___init__) l_Parted___init__ c_Parted___init__ k_Parted___init__
  have b_Parted___init__ := F_Parted___init__.binds (ps := ["self", "cut"]) fun _ _ _ _ _ _ us hl => match us, hl with | [_, _], _ => rfl
  have F_is_whole := fun_mk (st := s_is_whole) l_is_whole c_is_whole k_is_whole
  have D_is_whole := fund_mk (st := s_is_whole) l_is_whole c_is_whole k_is_whole
  have b_is_whole := F_is_whole.binds (ps := ["value"]) fun _ _ _ _ _ _ us hl => match us, hl with | [_], _ => rfl
  have F_is_bead_of := fun_mk (st := s_is_bead_of) l_is_bead_of c_is_bead_of k_is_bead_of
  have D_is_bead_of := fund_mk (st := s_is_bead_of) l_is_bead_of c_is_bead_of k_is_bead_of
  have b_is_bead_of := F_is_bead_of.binds (ps := ["row", "bead"]) fun _ _ _ _ _ _ us hl => match us, hl with | [_, _], _ => rfl
  have F_common := fun_mk (st := s_common) l_common c_common k_common
  have D_common := fund_mk (st := s_common) l_common c_common k_common
  have b_common := F_common.binds (ps := ["one", "other"]) fun _ _ _ _ _ _ us hl => match us, hl with | [_, _], _ => rfl
  have F_lowest := fun_mk (st := s_lowest) l_lowest c_lowest k_lowest
  have D_lowest := fund_mk (st := s_lowest) l_lowest c_lowest k_lowest
  have b_lowest := F_lowest.binds (ps := ["top", "bottom"]) fun _ _ _ _ _ _ us hl => match us, hl with | [_, _], _ => rfl
  have F_added := fun_mk (st := s_added) l_added c_added k_added
  have D_added := fund_mk (st := s_added) l_added c_added k_added
  have b_added := F_added.binds (ps := ["one", "other"]) fun _ _ _ _ _ _ us hl => match us, hl with | [_, _], _ => rfl
  have F_multiplied := fun_mk (st := s_multiplied) l_multiplied c_multiplied k_multiplied
  have D_multiplied := fund_mk (st := s_multiplied) l_multiplied c_multiplied k_multiplied
  have b_multiplied := F_multiplied.binds (ps := ["one", "other"]) fun _ _ _ _ _ _ us hl => match us, hl with | [_, _], _ => rfl
  have F_straight_place := fun_mk (st := s_straight_place) l_straight_place c_straight_place k_straight_place
  have D_straight_place := fund_mk (st := s_straight_place) l_straight_place c_straight_place k_straight_place
  have b_straight_place := F_straight_place.binds (ps := ["bead", "moment"]) fun _ _ _ _ _ _ us hl => match us, hl with | [_, _], _ => rfl
  have F_parted := fun_mk (st := s_parted) l_parted c_parted k_parted
  have D_parted := fund_mk (st := s_parted) l_parted c_parted k_parted
  have b_parted := F_parted.binds (ps := ["one", "other"]) fun _ _ _ _ _ _ us hl => match us, hl with | [_, _], _ => rfl
  have F_scaled := fun_mk (st := s_scaled) l_scaled c_scaled k_scaled
  have D_scaled := fund_mk (st := s_scaled) l_scaled c_scaled k_scaled
  have b_scaled := F_scaled.binds (ps := ["number", "one"]) fun _ _ _ _ _ _ us hl => match us, hl with | [_, _], _ => rfl
  have F_weighed_sum := fun_mk (st := s_weighed_sum) l_weighed_sum c_weighed_sum k_weighed_sum
  have D_weighed_sum := fund_mk (st := s_weighed_sum) l_weighed_sum c_weighed_sum k_weighed_sum
  have b_weighed_sum := F_weighed_sum.binds (ps := ["weights", "shares"]) fun _ _ _ _ _ _ us hl => match us, hl with | [_, _], _ => rfl
  have F_weighed_mean := fun_mk (st := s_weighed_mean) l_weighed_mean c_weighed_mean k_weighed_mean
  have D_weighed_mean := fund_mk (st := s_weighed_mean) l_weighed_mean c_weighed_mean k_weighed_mean
  have b_weighed_mean := F_weighed_mean.binds (ps := ["weights", "shares"]) fun _ _ _ _ _ _ us hl => match us, hl with | [_, _], _ => rfl
  have F_stretch_weights := fun_mk (st := s_stretch_weights) l_stretch_weights c_stretch_weights k_stretch_weights
  have D_stretch_weights := fund_mk (st := s_stretch_weights) l_stretch_weights c_stretch_weights k_stretch_weights
  have b_stretch_weights := F_stretch_weights.binds (ps := ["row", "first", "last"]) fun _ _ _ _ _ _ us hl => match us, hl with | [_, _, _], _ => rfl
  have F_stretch_middle := fun_mk (st := s_stretch_middle) l_stretch_middle c_stretch_middle k_stretch_middle
  have D_stretch_middle := fund_mk (st := s_stretch_middle) l_stretch_middle c_stretch_middle k_stretch_middle
  have b_stretch_middle := F_stretch_middle.binds (ps := ["row", "first", "last", "moment"]) fun _ _ _ _ _ _ us hl => match us, hl with | [_, _, _, _], _ => rfl
  have F_compared := fun_mk (st := s_compared) l_compared c_compared k_compared
  have D_compared := fund_mk (st := s_compared) l_compared c_compared k_compared
  have b_compared := F_compared.binds (ps := ["one", "other"]) fun _ _ _ _ _ _ us hl => match us, hl with | [_, _], _ => rfl
  have F_is_behind := fun_mk (st := s_is_behind) l_is_behind c_is_behind k_is_behind
  have D_is_behind := fund_mk (st := s_is_behind) l_is_behind c_is_behind k_is_behind
  have b_is_behind := F_is_behind.binds (ps := ["row", "first", "cut", "last", "moment"]) fun _ _ _ _ _ _ us hl => match us, hl with | [_, _, _, _, _], _ => rfl
  have F_holds := fun_mk (st := s_holds) l_holds c_holds k_holds
  have D_holds := fund_mk (st := s_holds) l_holds c_holds k_holds
  have b_holds := F_holds.binds (ps := ["row", "first", "last", "moment"]) fun _ _ _ _ _ _ us hl => match us, hl with | [_, _, _, _], _ => rfl
  have F_One_shows := fun_mk (st := s_One_shows) l_One_shows c_One_shows k_One_shows
  have D_One_shows := fund_mk (st := s_One_shows) l_One_shows c_One_shows k_One_shows
  have b_One_shows := F_One_shows.binds (ps := ["self", "row", "moment", "one", "other"]) fun _ _ _ _ _ _ us hl => match us, hl with | [_, _, _, _, _], _ => rfl
  have F_parts_at := fun_mk (st := s_parts_at) l_parts_at c_parts_at k_parts_at
  have D_parts_at := fund_mk (st := s_parts_at) l_parts_at c_parts_at k_parts_at
  have b_parts_at := F_parts_at.binds (ps := ["row", "cut", "moment"]) fun _ _ _ _ _ _ us hl => match us, hl with | [_, _, _], _ => rfl
  have F_Parted_shows := fun_mk (st := s_Parted_shows) l_Parted_shows c_Parted_shows k_Parted_shows
  have D_Parted_shows := fund_mk (st := s_Parted_shows) l_Parted_shows c_Parted_shows k_Parted_shows
  have b_Parted_shows := F_Parted_shows.binds (ps := ["self", "row", "moment", "one", "other"]) fun _ _ _ _ _ _ us hl => match us, hl with | [_, _, _, _, _], _ => rfl
  have F_q_is_apart := fun_mk (st := s_q_is_apart) l_q_is_apart c_q_is_apart k_q_is_apart
  have D_q_is_apart := fund_mk (st := s_q_is_apart) l_q_is_apart c_q_is_apart k_q_is_apart
  have b_q_is_apart := F_q_is_apart.binds (ps := ["_law_middles_here", "_law_many", "_law_cut"]) fun _ _ _ _ _ _ us hl => match us, hl with | [_, _, _], _ => rfl
  have F_q_right := fun_mk (st := s_q_right) l_q_right c_q_right k_q_right
  have D_q_right := fund_mk (st := s_q_right) l_q_right c_q_right k_q_right
  have b_q_right := F_q_right.binds (ps := ["_law_row_here", "_law_middles_here", "_law_moment_here", "_law_one", "_law_other", "_law_numbers"]) fun _ _ _ _ _ _ us hl => match us, hl with | [_, _, _, _, _, _], _ => rfl
  have F_law := fun_mk (st := s_law) l_law c_law k_law
  have D_law := fund_mk (st := s_law) l_law c_law k_law
  have Y : Txe K mg (Tl O_One O_Parted) := ⟨tabL_is,
    ⟨PySem.W.mg_of X G a_One, rfl, ⟨pg_One, hd_One, po_One, sa_One⟩, (no_cons no_One_first (no_cons no_One_last no_nil)), by decide⟩,
    ⟨PySem.W.mg_of X G a_Parted, rfl, ⟨pg_Parted, hd_Parted, po_Parted, sa_Parted⟩, (no_cons no_Parted_cut no_nil), by decide⟩⟩
  refine ⟨PySem.W.fnOf "law" "law" (defArgs s_law) (defBody s_law) (defScope s_law) .none kV_law dc_law pm_law an_law cd_law ct_law, (Tl O_One O_Parted), rfl, fun s v => .of_eq rfl, fun base _ _ => ?_⟩
  have C_q_number : AllT (Tl O_One O_Parted) fun T => Cl l.prog w K mg base (CXf l.prog w) T "_law_number" ["_law_cell", "_law_at", "_law_whole"] 1 m_q_number := fun φ b => ok_q_number Z (Y.tr φ b none) D_q_number (PySem.W.mg_of X G a_q_number) b_q_number
  have C_q_low : AllT (Tl O_One O_Parted) fun T => Cl l.prog w K mg base (CXf l.prog w) T "_law_low" ["_law_top", "_law_bottom"] 1 m_q_low := fun φ b => ok_q_low Z (Y.tr φ b none) D_q_low (PySem.W.mg_of X G a_q_low) b_q_low
  have C_q_row : AllT (Tl O_One O_Parted) fun T => ClD l.prog w K mg base (CXf l.prog w) T "_law_row" ["_law_script", "_law_by_here", "_law_alike", "_law_most"] 2 m_q_row 10 := fun φ b => ok_q_row Z (Y.tr φ b none) (C_q_number φ b) (C_q_low φ b) F_q_row (PySem.W.mg_of X G a_q_row) b_q_row
  have CF_q_row : AllT (Tl O_One O_Parted) fun T => Cl l.prog w K mg base (CXf l.prog w) T "_law_row" ["_law_script", "_law_by_here", "_law_alike", "_law_most"] 2 m_q_row := fun φ b => okF_q_row Z (Y.tr φ b none) (C_q_number φ b) (C_q_low φ b) F_q_row (PySem.W.mg_of X G a_q_row) bF_q_row
  have C_q_sum : AllT (Tl O_One O_Parted) fun T => Cl l.prog w K mg base (CXf l.prog w) T "_law_sum" ["_law_one", "_law_other"] 2 m_q_sum := fun φ b => ok_q_sum Z (Y.tr φ b none) (C_q_low φ b) D_q_sum (PySem.W.mg_of X G a_q_sum) b_q_sum
  have C_q_moment : AllT (Tl O_One O_Parted) fun T => Cl l.prog w K mg base (CXf l.prog w) T "_law_moment" ["_law_number_here"] 2 m_q_moment := fun φ b => ok_q_moment Z (Y.tr φ b none) (C_q_low φ b) D_q_moment (PySem.W.mg_of X G a_q_moment) b_q_moment
  have C_q_by : AllT (Tl O_One O_Parted) fun T => Cl l.prog w K mg base (CXf l.prog w) T "_law_by" ["_law_one", "_law_other"] 2 m_q_by := fun φ b => ok_q_by Z (Y.tr φ b none) (C_q_low φ b) D_q_by (PySem.W.mg_of X G a_q_by) b_q_by
  have C_q_there : AllT (Tl O_One O_Parted) fun T => Cl l.prog w K mg base (CXf l.prog w) T "_law_there" ["_law_line", "_law_moment_here"] 3 m_q_there := fun φ b => ok_q_there Z (Y.tr φ b none) (C_q_sum φ b) (C_q_by φ b) D_q_there (PySem.W.mg_of X G a_q_there) b_q_there
  have C_q_part : AllT (Tl O_One O_Parted) fun T => Cl l.prog w K mg base (CXf l.prog w) T "_law_part" ["_law_one", "_law_other"] 2 m_q_part := fun φ b => ok_q_part Z (Y.tr φ b none) (C_q_low φ b) D_q_part (PySem.W.mg_of X G a_q_part) b_q_part
  have C_q_middles : AllT (Tl O_One O_Parted) fun T => Cl l.prog w K mg base (CXf l.prog w) T "_law_middles" ["_law_row_here", "_law_moment_here"] 4 m_q_middles := fun φ b => ok_q_middles Z (Y.tr φ b none) (C_q_sum φ b) (C_q_by φ b) (C_q_there φ b) (C_q_part φ b) D_q_middles (PySem.W.mg_of X G a_q_middles) b_q_middles
  have C_q_far : AllT (Tl O_One O_Parted) fun T => Cl l.prog w K mg base (CXf l.prog w) T "_law_far" ["_law_one", "_law_other"] 1 m_q_far := fun φ b => ok_q_far Z (Y.tr φ b none) D_q_far (PySem.W.mg_of X G a_q_far) b_q_far
  have C_q_is_one : AllT (Tl O_One O_Parted) fun T => Cl l.prog w K mg base (CXf l.prog w) T "_law_is_one" ["_law_middles_here", "_law_first", "_law_last"] 2 m_q_is_one := fun φ b => ok_q_is_one Z (Y.tr φ b none) (C_q_far φ b) D_q_is_one (PySem.W.mg_of X G a_q_is_one) b_q_is_one
  have C_One___init__ : AllT (Tl O_One O_Parted) fun T => ClI l.prog w K mg base (CXf l.prog w) (oA T 1) ["self", "first", "last"] 1 ["first", "last"] := fun φ b => ok_One___init__ Z (Y.tr φ b none) D_One___init__ ⟨mk_One, a_One___init__, i_One___init__, kc_One⟩ b_One___init__
  have C_Parted___init__ : AllT (Tl O_One O_Parted) fun T => ClI l.prog w K mg base (CXf l.prog w) (oA T 2) ["self", "cut"] 1 ["cut"] := fun φ b => ok_Parted___init__ Z (Y.tr φ b none) D_Parted___init__ ⟨mk_Parted, a_Parted___init__, i_Parted___init__, kc_Parted⟩ b_Parted___init__
  have C_is_whole : AllT (Tl O_One O_Parted) fun T => Cl l.prog w K mg base (CXf l.prog w) T "is_whole" ["value"] 1 m_is_whole := fun φ b => ok_is_whole Z (Y.tr φ b none) D_is_whole (PySem.W.mg_of X G a_is_whole) b_is_whole
  have C_is_bead_of : AllT (Tl O_One O_Parted) fun T => Cl l.prog w K mg base (CXf l.prog w) T "is_bead_of" ["row", "bead"] 2 m_is_bead_of := fun φ b => ok_is_bead_of Z (Y.tr φ b none) (C_is_whole φ b) D_is_bead_of (PySem.W.mg_of X G a_is_bead_of) b_is_bead_of
  have C_common : AllT (Tl O_One O_Parted) fun T => Cl l.prog w K mg base (CXf l.prog w) T "common" ["one", "other"] 1 m_common := fun φ b => ok_common Z (Y.tr φ b none) D_common (PySem.W.mg_of X G a_common) b_common
  have C_lowest : AllT (Tl O_One O_Parted) fun T => Cl l.prog w K mg base (CXf l.prog w) T "lowest" ["top", "bottom"] 2 m_lowest := fun φ b => ok_lowest Z (Y.tr φ b none) (C_common φ b) D_lowest (PySem.W.mg_of X G a_lowest) b_lowest
  have C_added : AllT (Tl O_One O_Parted) fun T => Cl l.prog w K mg base (CXf l.prog w) T "added" ["one", "other"] 3 m_added := fun φ b => ok_added Z (Y.tr φ b none) (C_lowest φ b) D_added (PySem.W.mg_of X G a_added) b_added
  have C_multiplied : AllT (Tl O_One O_Parted) fun T => Cl l.prog w K mg base (CXf l.prog w) T "multiplied" ["one", "other"] 3 m_multiplied := fun φ b => ok_multiplied Z (Y.tr φ b none) (C_lowest φ b) D_multiplied (PySem.W.mg_of X G a_multiplied) b_multiplied
  have C_straight_place : AllT (Tl O_One O_Parted) fun T => Cl l.prog w K mg base (CXf l.prog w) T "straight_place" ["bead", "moment"] 4 m_straight_place := fun φ b => ok_straight_place Z (Y.tr φ b none) (C_added φ b) (C_multiplied φ b) D_straight_place (PySem.W.mg_of X G a_straight_place) b_straight_place
  have C_parted : AllT (Tl O_One O_Parted) fun T => Cl l.prog w K mg base (CXf l.prog w) T "parted" ["one", "other"] 3 m_parted := fun φ b => ok_parted Z (Y.tr φ b none) (C_lowest φ b) D_parted (PySem.W.mg_of X G a_parted) b_parted
  have C_scaled : AllT (Tl O_One O_Parted) fun T => Cl l.prog w K mg base (CXf l.prog w) T "scaled" ["number", "one"] 3 m_scaled := fun φ b => ok_scaled Z (Y.tr φ b none) (C_lowest φ b) D_scaled (PySem.W.mg_of X G a_scaled) b_scaled
  have C_weighed_sum : AllT (Tl O_One O_Parted) fun T => Cl l.prog w K mg base (CXf l.prog w) T "weighed_sum" ["weights", "shares"] 4 m_weighed_sum := fun φ b => ok_weighed_sum Z (Y.tr φ b none) (C_added φ b) (C_scaled φ b) D_weighed_sum (PySem.W.mg_of X G a_weighed_sum) b_weighed_sum
  have C_weighed_mean : AllT (Tl O_One O_Parted) fun T => Cl l.prog w K mg base (CXf l.prog w) T "weighed_mean" ["weights", "shares"] 5 m_weighed_mean := fun φ b => ok_weighed_mean Z (Y.tr φ b none) (C_parted φ b) (C_weighed_sum φ b) D_weighed_mean (PySem.W.mg_of X G a_weighed_mean) b_weighed_mean
  have C_stretch_weights : AllT (Tl O_One O_Parted) fun T => Cl l.prog w K mg base (CXf l.prog w) T "stretch_weights" ["row", "first", "last"] 1 m_stretch_weights := fun φ b => ok_stretch_weights Z (Y.tr φ b none) D_stretch_weights (PySem.W.mg_of X G a_stretch_weights) b_stretch_weights
  have C_stretch_middle : AllT (Tl O_One O_Parted) fun T => Cl l.prog w K mg base (CXf l.prog w) T "stretch_middle" ["row", "first", "last", "moment"] 6 m_stretch_middle := fun φ b => ok_stretch_middle Z (Y.tr φ b none) (C_straight_place φ b) (C_weighed_mean φ b) (C_stretch_weights φ b) D_stretch_middle (PySem.W.mg_of X G a_stretch_middle) b_stretch_middle
  have C_compared : AllT (Tl O_One O_Parted) fun T => Cl l.prog w K mg base (CXf l.prog w) T "compared" ["one", "other"] 1 m_compared := fun φ b => ok_compared Z (Y.tr φ b none) D_compared (PySem.W.mg_of X G a_compared) b_compared
  have C_is_behind : AllT (Tl O_One O_Parted) fun T => Cl l.prog w K mg base (CXf l.prog w) T "is_behind" ["row", "first", "cut", "last", "moment"] 7 m_is_behind := fun φ b => ok_is_behind Z (Y.tr φ b none) (C_stretch_middle φ b) (C_compared φ b) D_is_behind (PySem.W.mg_of X G a_is_behind) b_is_behind
  have C_holds : AllT (Tl O_One O_Parted) fun T => Cl l.prog w K mg base (CXf l.prog w) T "holds" ["row", "first", "last", "moment"] 8 m_holds := fun φ b => ok_holds Z (Y.tr φ b none) (C_is_behind φ b) D_holds (PySem.W.mg_of X G a_holds) b_holds
  have C_One_shows : AllT (Tl O_One O_Parted) fun T => ClM l.prog w K mg base (CXf l.prog w) T (oA T 1) "shows" ["self", "row", "moment", "one", "other"] 9 m_One_shows := fun φ b => ok_One_shows Z (Y.tr φ b none) (C_is_bead_of φ b) (C_holds φ b) D_One_shows ⟨a_One_shows, i_One_shows, k_One_shows⟩ b_One_shows
  have C_parts_at : AllT (Tl O_One O_Parted) fun T => Cl l.prog w K mg base (CXf l.prog w) T "parts_at" ["row", "cut", "moment"] 7 m_parts_at := fun φ b => ok_parts_at Z (Y.tr φ b none) (C_stretch_middle φ b) (C_compared φ b) D_parts_at (PySem.W.mg_of X G a_parts_at) b_parts_at
  have C_Parted_shows : AllT (Tl O_One O_Parted) fun T => ClM l.prog w K mg base (CXf l.prog w) T (oA T 2) "shows" ["self", "row", "moment", "one", "other"] 8 m_Parted_shows := fun φ b => ok_Parted_shows Z (Y.tr φ b none) (C_is_whole φ b) (C_parts_at φ b) D_Parted_shows ⟨a_Parted_shows, i_Parted_shows, k_Parted_shows⟩ b_Parted_shows
  have C_q_is_apart : AllT (Tl O_One O_Parted) fun T => Cl l.prog w K mg base (CXf l.prog w) T "_law_is_apart" ["_law_middles_here", "_law_many", "_law_cut"] 2 m_q_is_apart := fun φ b => ok_q_is_apart Z (Y.tr φ b none) (C_q_far φ b) D_q_is_apart (PySem.W.mg_of X G a_q_is_apart) b_q_is_apart
  have C_q_right : AllT (Tl O_One O_Parted) fun T => Cl l.prog w K mg base (CXf l.prog w) T "_law_right" ["_law_row_here", "_law_middles_here", "_law_moment_here", "_law_one", "_law_other", "_law_numbers"] 10 m_q_right := fun φ b => ok_q_right Z (Y.tr φ b none) (C_q_is_one φ b) (C_One___init__ φ b) (C_Parted___init__ φ b) (C_One_shows φ b) (C_Parted_shows φ b) (C_q_is_apart φ b) D_q_right (PySem.W.mg_of X G a_q_right) b_q_right
  exact okM_law_fn Z Y rfl C_q_row CF_q_row C_q_sum C_q_number C_q_moment C_q_middles C_q_right C_One___init__ C_One_shows C_Parted___init__ C_Parted_shows D_law
end BD
open PySem PySem.W PyProof.Rows
set_option maxRecDepth 100000 in
set_option maxHeartbeats 0 in
theorem PySem.Challenge.cw_beadway_k27_papers_by_hand_holds : PySem.Challenge.rw_beadway_k27_papers_by_hand.Holds := by
  w_on; o_law; k_head; (case hw => w_witness2)
  k_fill
  refine BD.walk_M (l := PySem.Challenge.rw_beadway_k27_papers_by_hand) (n := 63) (k := 11) (x := "_law_script") (g := BD.M_law) rfl (by decide) rfl ⟨rfl, by decide, by decide⟩ (fun w h Y => PySem.W.kIn_of Y) BD.law_true ?F
  case F =>
    intro w mg fa h KX G hmg
    refine' BD.all_mk KX G hmg ?a_q_number ?l_q_number ?c_q_number ?k_q_number ?a_q_low ?l_q_low ?c_q_low ?k_q_low ?a_q_row ?l_q_row ?c_q_row ?k_q_row ?e_q_row ?a_q_sum ?l_q_sum ?c_q_sum ?k_q_sum ?a_q_moment ?l_q_moment ?c_q_moment ?k_q_moment ?a_q_by ?l_q_by ?c_q_by ?k_q_by ?a_q_there ?l_q_there ?c_q_there ?k_q_there ?a_q_part ?l_q_part ?c_q_part ?k_q_part ?a_q_middles ?l_q_middles ?c_q_middles ?k_q_middles ?a_q_far ?l_q_far ?c_q_far ?k_q_far ?a_q_is_one ?l_q_is_one ?c_q_is_one ?k_q_is_one ?a_One___init__ ?l_One___init__ ?c_One___init__ ?k_One___init__ ?i_One___init__ ?a_Parted___init__ ?l_Parted___init__ ?c_Parted___init__ ?k_Parted___init__ ?i_Parted___init__ ?a_is_whole ?l_is_whole ?c_is_whole ?k_is_whole ?a_is_bead_of ?l_is_bead_of ?c_is_bead_of ?k_is_bead_of ?a_common ?l_common ?c_common ?k_common ?a_lowest ?l_lowest ?c_lowest ?k_lowest ?a_added ?l_added ?c_added ?k_added ?a_multiplied ?l_multiplied ?c_multiplied ?k_multiplied ?a_straight_place ?l_straight_place ?c_straight_place ?k_straight_place ?a_parted ?l_parted ?c_parted ?k_parted ?a_scaled ?l_scaled ?c_scaled ?k_scaled ?a_weighed_sum ?l_weighed_sum ?c_weighed_sum ?k_weighed_sum ?a_weighed_mean ?l_weighed_mean ?c_weighed_mean ?k_weighed_mean ?a_stretch_weights ?l_stretch_weights ?c_stretch_weights ?k_stretch_weights ?a_stretch_middle ?l_stretch_middle ?c_stretch_middle ?k_stretch_middle ?a_compared ?l_compared ?c_compared ?k_compared ?a_is_behind ?l_is_behind ?c_is_behind ?k_is_behind ?a_holds ?l_holds ?c_holds ?k_holds ?a_One_shows ?l_One_shows ?c_One_shows ?k_One_shows ?i_One_shows ?a_parts_at ?l_parts_at ?c_parts_at ?k_parts_at ?a_Parted_shows ?l_Parted_shows ?c_Parted_shows ?k_Parted_shows ?i_Parted_shows ?a_q_is_apart ?l_q_is_apart ?c_q_is_apart ?k_q_is_apart ?a_q_right ?l_q_right ?c_q_right ?k_q_right ?a_law ?l_law ?c_law ?k_law ?z_abs ?z_all ?z_any ?z_bool ?z_enumerate ?z_int ?z_isinstance ?z_len ?z_range ?z_sum ?z_zip ?a_One ?pg_One ?hd_One ?po_One ?sa_One ?mk_One ?kc_One ?no_One_first ?no_One_last ?a_Parted ?pg_Parted ?hd_Parted ?po_Parted ?sa_Parted ?mk_Parted ?kc_Parted ?no_Parted_cut ?a_NOUGHT ?l_NOUGHT
    (case a_One => k_is)
    (case pg_One => k_is)
    (case hd_One => k_is)
    (case po_One => k_is)
    (case sa_One => k_is)
    (case mk_One => k_is)
    (case kc_One => k_is)
    (case no_One_first => k_is)
    (case no_One_last => k_is)
    (case a_Parted => k_is)
    (case pg_Parted => k_is)
    (case hd_Parted => k_is)
    (case po_Parted => k_is)
    (case sa_Parted => k_is)
    (case mk_Parted => k_is)
    (case kc_Parted => k_is)
    (case no_Parted_cut => k_is)
    (case a_q_number => k_is)
    (case l_q_number => k_is)
    (case c_q_number => k_is)
    (case k_q_number => k_is)
    (case a_q_low => k_is)
    (case l_q_low => k_is)
    (case c_q_low => k_is)
    (case k_q_low => k_is)
    (case a_q_row => k_is)
    (case l_q_row => k_is)
    (case c_q_row => k_is)
    (case k_q_row => k_is)
    (case e_q_row => k_is)
    (case a_q_sum => k_is)
    (case l_q_sum => k_is)
    (case c_q_sum => k_is)
    (case k_q_sum => k_is)
    (case a_q_moment => k_is)
    (case l_q_moment => k_is)
    (case c_q_moment => k_is)
    (case k_q_moment => k_is)
    (case a_q_by => k_is)
    (case l_q_by => k_is)
    (case c_q_by => k_is)
    (case k_q_by => k_is)
    (case a_q_there => k_is)
    (case l_q_there => k_is)
    (case c_q_there => k_is)
    (case k_q_there => k_is)
    (case a_q_part => k_is)
    (case l_q_part => k_is)
    (case c_q_part => k_is)
    (case k_q_part => k_is)
    (case a_q_middles => k_is)
    (case l_q_middles => k_is)
    (case c_q_middles => k_is)
    (case k_q_middles => k_is)
    (case a_q_far => k_is)
    (case l_q_far => k_is)
    (case c_q_far => k_is)
    (case k_q_far => k_is)
    (case a_q_is_one => k_is)
    (case l_q_is_one => k_is)
    (case c_q_is_one => k_is)
    (case k_q_is_one => k_is)
    (case a_One___init__ => k_is)
    (case l_One___init__ => k_is)
    (case c_One___init__ => k_is)
    (case k_One___init__ => k_is)
    (case i_One___init__ => k_is)
    (case a_Parted___init__ => k_is)
    (case l_Parted___init__ => k_is)
    (case c_Parted___init__ => k_is)
    (case k_Parted___init__ => k_is)
    (case i_Parted___init__ => k_is)
    (case a_is_whole => k_is)
    (case l_is_whole => k_is)
    (case c_is_whole => k_is)
    (case k_is_whole => k_is)
    (case a_is_bead_of => k_is)
    (case l_is_bead_of => k_is)
    (case c_is_bead_of => k_is)
    (case k_is_bead_of => k_is)
    (case a_common => k_is)
    (case l_common => k_is)
    (case c_common => k_is)
    (case k_common => k_is)
    (case a_lowest => k_is)
    (case l_lowest => k_is)
    (case c_lowest => k_is)
    (case k_lowest => k_is)
    (case a_added => k_is)
    (case l_added => k_is)
    (case c_added => k_is)
    (case k_added => k_is)
    (case a_multiplied => k_is)
    (case l_multiplied => k_is)
    (case c_multiplied => k_is)
    (case k_multiplied => k_is)
    (case a_straight_place => k_is)
    (case l_straight_place => k_is)
    (case c_straight_place => k_is)
    (case k_straight_place => k_is)
    (case a_parted => k_is)
    (case l_parted => k_is)
    (case c_parted => k_is)
    (case k_parted => k_is)
    (case a_scaled => k_is)
    (case l_scaled => k_is)
    (case c_scaled => k_is)
    (case k_scaled => k_is)
    (case a_weighed_sum => k_is)
    (case l_weighed_sum => k_is)
    (case c_weighed_sum => k_is)
    (case k_weighed_sum => k_is)
    (case a_weighed_mean => k_is)
    (case l_weighed_mean => k_is)
    (case c_weighed_mean => k_is)
    (case k_weighed_mean => k_is)
    (case a_stretch_weights => k_is)
    (case l_stretch_weights => k_is)
    (case c_stretch_weights => k_is)
    (case k_stretch_weights => k_is)
    (case a_stretch_middle => k_is)
    (case l_stretch_middle => k_is)
    (case c_stretch_middle => k_is)
    (case k_stretch_middle => k_is)
    (case a_compared => k_is)
    (case l_compared => k_is)
    (case c_compared => k_is)
    (case k_compared => k_is)
    (case a_is_behind => k_is)
    (case l_is_behind => k_is)
    (case c_is_behind => k_is)
    (case k_is_behind => k_is)
    (case a_holds => k_is)
    (case l_holds => k_is)
    (case c_holds => k_is)
    (case k_holds => k_is)
    (case a_One_shows => k_is)
    (case l_One_shows => k_is)
    (case c_One_shows => k_is)
    (case k_One_shows => k_is)
    (case i_One_shows => k_is)
    (case a_parts_at => k_is)
    (case l_parts_at => k_is)
    (case c_parts_at => k_is)
    (case k_parts_at => k_is)
    (case a_Parted_shows => k_is)
    (case l_Parted_shows => k_is)
    (case c_Parted_shows => k_is)
    (case k_Parted_shows => k_is)
    (case i_Parted_shows => k_is)
    (case a_q_is_apart => k_is)
    (case l_q_is_apart => k_is)
    (case c_q_is_apart => k_is)
    (case k_q_is_apart => k_is)
    (case a_q_right => k_is)
    (case l_q_right => k_is)
    (case c_q_right => k_is)
    (case k_q_right => k_is)
    (case a_law => k_is)
    (case l_law => k_is)
    (case c_law => k_is)
    (case k_law => k_is)
    (case z_abs => k_is)
    (case z_all => k_is)
    (case z_any => k_is)
    (case z_bool => k_is)
    (case z_enumerate => k_is)
    (case z_int => k_is)
    (case z_isinstance => k_is)
    (case z_len => k_is)
    (case z_range => k_is)
    (case z_sum => k_is)
    (case z_zip => k_is)
    (case a_NOUGHT => k_is)
    (case l_NOUGHT => k_is)
