import PyProof.Rows.All
import Wide.All
import OpenK.AllK
import Wide.FinOn
import Lean
import PyProof.EqAt
import PyProof.EqKinds
import PyProof.TupleCall
import PySem.Challenge.RW_pagefolk_k07_deeds_shown
set_option Elab.async false
set_option linter.all false
set_option maxRecDepth 100000
namespace L2
open PySem PySem.Spec PyProof.Rows
abbrev Key := Sum Int Str
def keyIs : Key → Value → Bool
  | .inl k, v => Value.isInt k v
  | .inr x, v => Value.isStrOf x v
def keyH (w : World) : Key → Int
  | .inl k => hashInt k
  | .inr x => hashStr w x
theorem keyIs_shape : ∀ {k : Key} {v : Value}, keyIs k v = true → (∃ i t, k = Sum.inl i ∧ v = Value.int i t) ∨ (∃ x t, k = Sum.inr x ∧ v = Value.str x t)
  | .inl i, v, h => by
    obtain ⟨t, e⟩ := Value.isInt_shape (k := i) (v := v) h
    exact .inl ⟨i, t, rfl, e⟩
  | .inr x, v, h => by
    obtain ⟨t, e⟩ := Value.isStrOf_shape (x := x) (v := v) h
    exact .inr ⟨x, t, rfl, e⟩
theorem keyIs_int (i : Int) (t : Tok) : keyIs (.inl i) (.int i t) = true := by simp [keyIs, Value.isInt]
theorem keyIs_str (x : Str) (t : Tok) : keyIs (.inr x) (.str x t) = true := by simp [keyIs, Value.isStrOf]
theorem key_ll (a b : Int) : decide ((Sum.inl a : Key) = Sum.inl b) = (a == b) := by
  by_cases e : a = b
  · subst e; simp
  · have h : ¬ (Sum.inl a : Key) = Sum.inl b := fun q => e (Sum.inl.inj q)
    rw [decide_eq_false h]
    exact (beq_eq_false_iff_ne.mpr e).symm
theorem key_rr (a b : Str) : decide ((Sum.inr a : Key) = Sum.inr b) = decide (a = b) := by
  by_cases e : a = b
  · subst e; simp
  · have h : ¬ (Sum.inr a : Key) = Sum.inr b := fun q => e (Sum.inr.inj q)
    rw [decide_eq_false h, decide_eq_false e]
theorem key_lr (a : Int) (b : Str) : decide ((Sum.inl a : Key) = Sum.inr b) = false := decide_eq_false (fun q => nomatch q)
theorem key_rl (a : Str) (b : Int) : decide ((Sum.inr a : Key) = Sum.inl b) = false := decide_eq_false (fun q => nomatch q)
def mixKind (prog : Program) (w : World) : PySem.KeyKind prog w Key where
  is := keyIs
  hash := keyH w
  inj := fun v a b ha hb => by
    rcases keyIs_shape ha with ⟨i, t, rfl, rfl⟩ | ⟨x, t, rfl, rfl⟩
    · rcases keyIs_shape hb with ⟨j, u, rfl, e⟩ | ⟨y, u, rfl, e⟩
      · injection e with e1 _; rw [e1]
      · exact nomatch e
    · rcases keyIs_shape hb with ⟨j, u, rfl, e⟩ | ⟨y, u, rfl, e⟩
      · exact nomatch e
      · injection e with e1 _; rw [e1]
  byValue := fun k v h => by
    rcases keyIs_shape h with ⟨i, t, rfl, rfl⟩ | ⟨x, t, rfl, rfl⟩ <;> rfl
  pyHash := fun hv h => by
    rcases keyIs_shape hv with ⟨i, t, rfl, rfl⟩ | ⟨x, t, rfl, rfl⟩
    · exact wpAny_pyHash_int h
    · exact wpAny_pyHash_str h
  eqBool := fun hu hv h => by
    rcases keyIs_shape hu with ⟨i, t, rfl, rfl⟩ | ⟨x, t, rfl, rfl⟩
    · rcases keyIs_shape hv with ⟨j, u, rfl, rfl⟩ | ⟨y, u, rfl, rfl⟩
      · rw [key_ll] at h; exact wpAny_eqBool_int h
      · rw [key_lr] at h; exact SeqAt.EqAt.int_str i t y u _ _ _ _ h
    · rcases keyIs_shape hv with ⟨j, u, rfl, rfl⟩ | ⟨y, u, rfl, rfl⟩
      · rw [key_rl] at h; exact SeqAt.EqAt.str_int x t j u _ _ _ _ h
      · rw [key_rr] at h; exact wpAny_eqBool_str h
  «strs» := fun k x t v h => by
    rcases keyIs_shape h with ⟨i, u, rfl, e⟩ | ⟨y, u, rfl, e⟩
    · exact nomatch e
    · injection e with e1 _
      subst e1
      cases v <;> rfl
theorem mixKind_int (prog : Program) (w : World) (i : Int) (t : Tok) : (mixKind prog w).is (.inl i) (.int i t) = true := keyIs_int i t
theorem mixKind_str (prog : Program) (w : World) (x : Str) (t : Tok) : (mixKind prog w).is (.inr x) (.str x t) = true := keyIs_str x t
end L2
namespace L2
open PySem PySem.Spec PyProof.Rows
inductive V where
  | non | bl (b : Bool) | int (i : Int) | str (x : Str) | byt (b : Array UInt8) | flt (b : UInt64) | ref (a : Addr) | ty (n : String)
  deriving DecidableEq
def RelV : V → Value → Prop
  | .non, u => u = Value.none
  | .bl b, u => u = Value.bool b
  | .int i, u => ∃ t, u = Value.int i t
  | .str x, u => ∃ t, u = Value.str x t
  | .byt b, u => ∃ t, u = Value.bytes b t
  | .flt b, u => ∃ t, u = Value.float b t
  | .ref a, u => u = Value.ref a
  | .ty n, u => u = Value.type n
abbrev Vals : List V → List Value → Prop := Paired RelV
theorem Vals.length {xs : List V} {us : List Value} (r : Vals xs us) : xs.length = us.length := Paired.length r
theorem Vals.get : ∀ {xs : List V} {us : List Value} {i : Nat} {x : V}, Vals xs us → xs[i]? = some x → ∃ u, us[i]? = some u ∧ RelV x u
  | _, _, _, _, .nil, e => by simp at e
  | _, _, 0, _, .cons r _, e => by simp at e; subst e; exact ⟨_, rfl, r⟩
  | _, _, i + 1, x, .cons _ t, e => by
    obtain ⟨u, h1, h2⟩ := Vals.get (i := i) (x := x) t (by simpa using e)
    exact ⟨u, by simpa using h1, h2⟩
theorem Vals.set {x : V} {u : Value} (r : RelV x u) : ∀ {xs : List V} {us : List Value} (i : Nat), Vals xs us → Vals (xs.set i x) (us.set i u)
  | _, _, _, .nil => .nil
  | _, _, 0, .cons _ t => .cons r t
  | _, _, i + 1, .cons q t => .cons q (Vals.set r i t)
theorem Vals.append : ∀ {xs ys : List V} {us ws : List Value}, Vals xs us → Vals ys ws → Vals (xs ++ ys) (us ++ ws)
  | _, _, _, _, .nil, s => s
  | _, _, _, _, .cons r t, s => .cons r (Vals.append t s)
theorem Vals.take : ∀ {xs : List V} {us : List Value} (n : Nat), Vals xs us → Vals (xs.take n) (us.take n)
  | _, _, 0, _ => .nil
  | _, _, _ + 1, .nil => .nil
  | _, _, n + 1, .cons r t => .cons r (Vals.take n t)
theorem Vals.drop : ∀ {xs : List V} {us : List Value} (n : Nat), Vals xs us → Vals (xs.drop n) (us.drop n)
  | _, _, 0, r => r
  | _, _, _ + 1, .nil => .nil
  | _, _, n + 1, .cons _ t => Vals.drop n t
def RelO : Option V → Option Value → Prop
  | some v, some u => RelV v u
  | none, none => True
  | _, _ => False
def KV {κ : Type} : List (κ × V) → List (κ × Value) → Prop := Paired fun (p : κ × V) (q : κ × Value) => p.1 = q.1 ∧ RelV p.2 q.2
def kV : Key → V
  | .inl i => .int i
  | .inr x => .str x
inductive HO where
  | lst (xs : List V)
  | tup (xs : List V)
  | dK (kvs : List (Key × V)) | dT (kvs : List (List Key × V))
  | set (S : Int → Bool) (n : Nat)
  | ins (C dx : Addr) (fs : List (Str × V))
  | own (x : Addr)
  | xd (fs : List (Str × V))
  | met (f x : Addr)
  | rng (lo hi : Int)
  | frz (o : Obj) (u : HO)
  | tbl (ps : Array Value)
  | ext (φ : Heap → Prop)
abbrev Hp := Addr → Option HO
def upd (H : Hp) (a : Addr) (o : HO) : Hp := fun b => if b = a then some o else H b
theorem upd_same {H : Hp} {a : Addr} {o : HO} : upd H a o a = some o := by unfold upd; rw [if_pos rfl]
theorem upd_ne {H : Hp} {a b : Addr} {o : HO} (h : b ≠ a) : upd H a o b = H b := by unfold upd; rw [if_neg h]
theorem ne_of {H : Hp} {a b : Addr} {o u : HO} (h : H a = some o) (h' : H b = some u) (d : o ≠ u) : a ≠ b := by
  intro e; subst e; rw [h] at h'; exact d (Option.some.inj h')
theorem ne_of_none {H : Hp} {a b : Addr} {o : HO} (h : H a = some o) (h' : H b = none) : a ≠ b := by
  intro e; subst e; rw [h] at h'; cases h'
section
variable (P : Program) (w : World)
def ObjOk (H : Hp) (h : Heap) (a : Addr) : HO → Prop
  | .lst xs => xs.length ≤ sizeLine ∧ ∃ (its : List Value) (n : Nat), Vals xs its ∧ h.get? a = some { cls := .type "list", data := .seq its.toArray n }
  | .tup xs => xs.length ≤ sizeLine ∧ ∃ its : List Value, Vals xs its ∧ IsTup h a its.toArray
  | .dK kvs => kvs.length ≤ sizeLine ∧ (a == sysModules) = false ∧ ∃ vs, KV kvs vs ∧ h.DictOf (mixKind P w) a vs
  | .dT kvs => kvs.length ≤ sizeLine ∧ (a == sysModules) = false ∧ ∃ xs : List (List Key × Addr × Value),
      Paired (fun (p : List Key × V) (q : List Key × Addr × Value) => p.1 = q.1 ∧ H q.2.1 = some (.tup (p.1.map kV)) ∧ RelV p.2 q.2.2) kvs xs ∧
      ∃ o es ep, h.get? a = some o ∧ o.ExactDict ∧ o.data = .dict es ep ∧ es.toList = xs.map (entryOfKey (tupleKind (mixKind P w))) ∧ (xs.map (·.1)).Nodup
  | .set S n => h.SetOf (intKind P w) a S n
  | .ins C dx fs => H dx = some (.own a) ∧ fs.length ≤ 1000 ∧ dx ≠ a ∧ h.get? a = some (PySem.W.instObj C dx) ∧
      ∃ mA, h.Ns1 dx mA ∧ (∀ f, RelO (fs.lookup f) (mA f)) ∧ PySem.Within mA (fs.map (·.1))
  | .own _ => ∃ o, h.get? a = some o
  | .xd fs => ∃ mA, h.Ns1 a mA ∧ ∀ f, RelO (fs.lookup f) (mA f)
  | .rng lo hi => ∃ t u v, h.get? a = some { cls := .type "range", data := .fields #[.int lo t, .int hi u, .int 1 v] }
  | .frz o u => h.get? a = some o ∧ ObjOk H h a u
  | .tbl ps => h.get? a = some { cls := .none, data := .fields ps }
  | .met f x => h.get? a = some (PySem.W.methodObj (.ref f) (.ref x))
  | .ext φ => φ h ∧ (∃ o, h.get? a = some o) ∧ ∀ h1 h2 : Heap, φ h1 → (∀ o, h1.get? a = some o → h2.get? a = some o) → φ h2
def HOk (H : Hp) (h : Heap) : Prop := ∀ a o, H a = some o → ObjOk P w H h a o
end
section
variable {P : Program} {w : World} {H H' : Hp} {h h' : Heap} {a : Addr} {o : HO}
theorem ObjOk.lt (x : ObjOk P w H h a o) : a < h.objs.size := by
  cases o with
  | lst xs => obtain ⟨_, _, _, _, e⟩ := x; exact Heap.lt_size e
  | tup xs => obtain ⟨_, _, _, p⟩ := x; exact p.lt
  | dK kvs => obtain ⟨_, _, _, _, o, _, _, e, _⟩ := x; exact Heap.lt_size e
  | dT kvs => obtain ⟨_, _, _, _, o, _, _, e, _⟩ := x; exact Heap.lt_size e
  | set S n => obtain ⟨o, _, _, _, e, _⟩ := x; exact Heap.lt_size e
  | ins C dx fs => obtain ⟨_, _, _, e, _⟩ := x; exact Heap.lt_size e
  | own y => obtain ⟨_, e⟩ := x; exact Heap.lt_size e
  | xd fs => obtain ⟨_, ⟨_, _, _, e, _⟩, _⟩ := x; exact Heap.lt_size e
  | rng lo hi => obtain ⟨_, _, _, e⟩ := x; exact Heap.lt_size e
  | frz ob u => obtain ⟨e, _⟩ := x; exact Heap.lt_size e
  | tbl ps => exact Heap.lt_size (show h.get? a = some _ from x)
  | met f y => exact Heap.lt_size (show h.get? a = some _ from x)
  | ext φ => obtain ⟨_, ⟨_, e⟩, _⟩ := x; exact Heap.lt_size e
theorem Paired.mapP {α β : Type} {F G : α → β → Prop} : ∀ {l₁ : List α} {l₂ : List β}, Paired F l₁ l₂ → (∀ a b, F a b → G a b) → Paired G l₁ l₂
  | _, _, .nil, _ => .nil
  | _, _, .cons r t, f => .cons (f _ _ r) (Paired.mapP t f)
theorem ObjOk.stay (x : ObjOk P w H h a o) (k : ∀ b u, (b = a ∨ H b = some (.own a)) → h.get? b = some u → h'.get? b = some u)
    (ho : ∀ b, H b = some (.own a) → H' b = some (.own a)) (ht : ∀ b xs, H b = some (.tup xs) → H' b = some (.tup xs)) : ObjOk P w H' h' a o := by
  induction o with
  | lst xs => obtain ⟨z, its, n, r, e⟩ := x; exact ⟨z, its, n, r, k _ _ (.inl rfl) e⟩
  | tup xs => obtain ⟨z, its, r, ob, e, c⟩ := x; exact ⟨z, its, r, ob, k _ _ (.inl rfl) e, c⟩
  | dK kvs => obtain ⟨z, y, vs, r, ob, es, ep, e, c⟩ := x; exact ⟨z, y, vs, r, ob, es, ep, k _ _ (.inl rfl) e, c⟩
  | dT kvs =>
    obtain ⟨z, y, xs, r, ob, es, ep, e, c⟩ := x
    exact ⟨z, y, xs, Paired.mapP r fun p q z => ⟨z.1, ht _ _ z.2.1, z.2.2⟩, ob, es, ep, k _ _ (.inl rfl) e, c⟩
  | set S n => obtain ⟨ob, es, ep, t, e, c⟩ := x; exact ⟨ob, es, ep, t, k _ _ (.inl rfl) e, c⟩
  | ins C dx fs =>
    obtain ⟨d, z, ne, e, mA, ⟨od, es, ep, e2, c⟩, r⟩ := x
    exact ⟨ho _ d, z, ne, k _ _ (.inl rfl) e, mA, ⟨od, es, ep, k _ _ (.inr d) e2, c⟩, r⟩
  | own y => obtain ⟨ob, e⟩ := x; exact ⟨ob, k _ _ (.inl rfl) e⟩
  | xd fs => obtain ⟨mA, ⟨od, es, ep, e, c⟩, r⟩ := x; exact ⟨mA, ⟨od, es, ep, k _ _ (.inl rfl) e, c⟩, r⟩
  | rng lo hi => obtain ⟨t, u, v, e⟩ := x; exact ⟨t, u, v, k _ _ (.inl rfl) e⟩
  | frz ob u ih => obtain ⟨e, q⟩ := x; exact ⟨k _ _ (.inl rfl) e, ih q⟩
  | tbl ps =>
    have e : h.get? a = some { cls := .none, data := .fields ps } := x
    show h'.get? a = some { cls := .none, data := .fields ps }
    exact k a _ (.inl rfl) e
  | met f y =>
    have e : h.get? a = some (PySem.W.methodObj (.ref f) (.ref y)) := x
    show h'.get? a = some (PySem.W.methodObj (.ref f) (.ref y))
    exact k a _ (.inl rfl) e
  | ext φ => obtain ⟨p, ⟨o, e⟩, st⟩ := x; exact ⟨st _ _ p fun o q => k _ _ (.inl rfl) q, ⟨o, k _ _ (.inl rfl) e⟩, st⟩
theorem HOk.lt (x : HOk P w H h) (e : H a = some o) : a < h.objs.size := (x a o e).lt
theorem HOk.fresh (x : HOk P w H h) (e : h.objs.size ≤ a) : H a = none := by
  cases q : H a with
  | none => rfl
  | some u => exact absurd (Nat.lt_of_lt_of_le (x.lt q) e) (Nat.lt_irrefl _)
theorem HOk.kept (x : HOk P w H h) (k : ∀ b u, h.get? b = some u → h'.get? b = some u) : HOk P w H h' := fun a o e =>
  (x a o e).stay (fun b u _ q => k b u q) (fun _ q => q) fun _ _ q => q
theorem HOk.laid (x : HOk P w H h) (k : ∀ b u, h.get? b = some u → h'.get? b = some u) (hp : h.objs.size ≤ a) (new : ObjOk P w (upd H a o) h' a o) : HOk P w (upd H a o) h' := fun b u e => by
  have hn := x.fresh hp
  by_cases hb : b = a
  · subst hb; rw [upd_same] at e; cases e; exact new
  · rw [upd_ne hb] at e
    exact (x b u e).stay (fun c v _ q => k c v q) (fun c q => by rw [upd_ne (ne_of_none q hn)]; exact q) fun c xs q => by rw [upd_ne (ne_of_none q hn)]; exact q
end
def Rd (H : Hp) (a : Addr) (u : HO) : Prop := H a = some u ∨ ∃ o, H a = some (.frz o u)
theorem Rd.ok {P : Program} {w : World} {H : Hp} {h : Heap} {a : Addr} {u : HO} (r : Rd H a u) (x : HOk P w H h) : ObjOk P w H h a u := by
  rcases r with r | ⟨o, r⟩
  · exact x a u r
  · obtain ⟨_, q⟩ := x a _ r
    exact q
def Mut : Option HO → Prop
  | some (.lst _) => True
  | some (.dK _) => True
  | some (.dT _) => True
  | some (.set _ _) => True
  | some (.ins _ _ _) => True
  | some (.ext _) => True
  | _ => False
section
variable {P : Program} {w : World} {H : Hp} {h h' : Heap} {x e : Addr} {o' : HO}
theorem HOk.write (ok : HOk P w H h) (mu : Mut (H x)) (he : e = x ∨ H e = some (.own x)) (k : ∀ b u, b ≠ e → h.get? b = some u → h'.get? b = some u) (heo : ∃ u, h'.get? e = some u)
    (new : ObjOk P w (upd H x o') h' x o') : HOk P w (upd H x o') h' := fun b u q => by
  have nown : ∀ c y, H c = some (.own y) → c ≠ x := fun c y r z => by subst z; rw [r] at mu; exact mu
  have ntup : ∀ c xs, H c = some (.tup xs) → c ≠ x := fun c xs r z => by subst z; rw [r] at mu; exact mu
  by_cases hb : b = x
  · subst hb; rw [upd_same] at q; cases q; exact new
  · rw [upd_ne hb] at q
    by_cases hbe : b = e
    · have q' : H b = some (.own x) := by
        rcases he with z | z
        · exact absurd (hbe.trans z) hb
        · rw [hbe]; exact z
      rw [q] at q'; cases q'
      obtain ⟨v, hv⟩ := heo
      exact ⟨v, by rw [hbe]; exact hv⟩
    · refine (ok b u q).stay (fun c v hc r => k c v ?_ r) (fun c r => by rw [upd_ne (nown c b r)]; exact r) fun c xs r => by rw [upd_ne (ntup c xs r)]; exact r
      rcases hc with rfl | hc
      · exact hbe
      · rintro rfl
        rcases he with z | z
        · exact nown c b hc z
        · rw [hc] at z; cases z; exact hb rfl
end
structure Un (fs ex : List Addr) (H H' : Hp) (h h' : Heap) : Prop where
  keep : ∀ b o, h.get? b = some o → H b = none → b ∉ fs → b ∉ ex → h'.get? b = some o
  slot : ∀ b o, h.get? b = some o → H b = none → b ∈ fs → b ∉ ex → ∃ sl, h'.get? b = some { o with slots := sl }
  free : ∀ b o, h.get? b = some o → H b = none → b ∉ ex → H' b = none
  there : ∀ b o, h.get? b = some o → b ∉ ex → ∃ o', h'.get? b = some o'
  tups : ∀ b xs, H b = some (.tup xs) → H' b = some (.tup xs)
  frzs : ∀ b o u, H b = some (.frz o u) → H' b = some (.frz o u)
  tbls : ∀ b ps, H b = some (.tbl ps) → ∃ more, H' b = some (.tbl (ps ++ more))
section
variable {fs fs' ex ex' : List Addr} {H H1 H2 : Hp} {h h1 h2 h' : Heap} {a x e : Addr} {o : HO}
theorem Un.any (u : Un fs ex H H1 h h1) {b : Addr} {ob : Obj} (q : h.get? b = some ob) (n : H b = none) (hx : b ∉ ex) : ∃ sl, h1.get? b = some { ob with slots := sl } := by
  by_cases hb : b ∈ fs
  · exact u.slot b ob q n hb hx
  · exact ⟨ob.slots, u.keep b ob q n hb hx⟩
theorem Un.kept (k : ∀ b u, h.get? b = some u → h'.get? b = some u) : Un fs ex H H h h' :=
  ⟨fun b ob q _ _ _ => k b ob q, fun b ob q _ _ _ => ⟨ob.slots, k b ob q⟩, fun _ _ _ n _ => n, fun b ob q _ => ⟨ob, k b ob q⟩, fun _ _ q => q, fun _ _ _ q => q, fun _ ps q => ⟨#[], by rw [q]; simp⟩⟩
theorem Un.refl : Un fs ex H H h h := Un.kept fun _ _ q => q
theorem Un.laid (k : ∀ b u, h.get? b = some u → h'.get? b = some u) (hp : h.objs.size ≤ a) (hn : H a = none) : Un fs ex H (upd H a o) h h' where
  keep := fun b u q _ _ _ => k b u q
  slot := fun b u q _ _ _ => ⟨u.slots, k b u q⟩
  free := fun b u q n _ => by rw [upd_ne (Nat.ne_of_lt (Nat.lt_of_lt_of_le (Heap.lt_size q) hp))]; exact n
  there := fun b u q _ => ⟨u, k b u q⟩
  tups := fun b xs q => by rw [upd_ne (ne_of_none q hn)]; exact q
  frzs := fun b u xs q => by rw [upd_ne (ne_of_none q hn)]; exact q
  tbls := fun b ps q => ⟨#[], by rw [upd_ne (ne_of_none q hn), q]; simp⟩
theorem Un.write (mu : Mut (H x)) (he : e = x ∨ H e = some (.own x)) (k : ∀ b u, b ≠ e → h.get? b = some u → h'.get? b = some u) (heo : ∃ u, h'.get? e = some u) : Un fs ex H (upd H x o) h h' := by
  have hx : ∀ b, H b = none → b ≠ x := fun b n z => by subst z; rw [n] at mu; exact mu
  have hb : ∀ b, H b = none → b ≠ e := fun b n z => by
    subst z
    rcases he with r | r
    · exact hx b n r
    · rw [n] at r; cases r
  have hm : ∀ b u, H b = some u → ¬ Mut (some u) → b ≠ x := fun b u q nm z => by subst z; rw [q] at mu; exact nm mu
  refine ⟨fun b u q n _ _ => k b u (hb b n) q, fun b u q n _ _ => ⟨u.slots, k b u (hb b n) q⟩, fun b u q n _ => by rw [upd_ne (hx b n)]; exact n, fun b u q _ => ?_,
    fun b xs q => by rw [upd_ne (hm b _ q fun z => z)]; exact q, fun b u xs q => by rw [upd_ne (hm b _ q fun z => z)]; exact q, fun b ps q => ⟨#[], by rw [upd_ne (hm b _ q fun z => z), q]; simp⟩⟩
  by_cases hbe : b = e
  · subst hbe; exact heo
  · exact ⟨u, k b u hbe q⟩
end
def trk (h : Heap) (H : Hp) : List Addr := (List.range h.objs.size).filter fun a => (H a).isSome
def hidT (h : Heap) (H : Hp) : Heap := PySem.W.hideAll h (trk h H)
theorem hidT_size (h : Heap) (H : Hp) : (hidT h H).objs.size = h.objs.size := PySem.W.hideAll_size _ _
theorem hidT_get {h : Heap} {H : Hp} {b : Addr} {o : Obj} (e : h.get? b = some o) (n : H b = none) : (hidT h H).get? b = some o :=
  PySem.W.hideAll_get _ e fun hm => by
    have q : (H b).isSome = true := (List.mem_filter.mp hm).2
    rw [n] at q; simp at q
theorem of_hidT {h : Heap} {H : Hp} {b : Addr} {o : Obj} (e : (hidT h H).get? b = some o) : h.get? b = some o ∧ H b = none := by
  have e' : h.get? b = some o := PySem.W.of_hideAll (trk h H) e
  refine ⟨e', ?_⟩
  cases q : H b with
  | none => rfl
  | some x =>
    have hm : b ∈ trk h H := List.mem_filter.mpr ⟨List.mem_range.mpr (Heap.lt_size e'), by simp [q]⟩
    have z : (hidT h H).get? b = none := PySem.W.hideAll_none (trk h H) hm
    rw [z] at e; cases e
end L2
namespace L2
open PySem PySem.Spec PyProof.Rows
structure Mod (K : PySem.W.Frag) (mg : Str → Option Value) (base : Heap) : Prop where
  kin : K.In base
  glob : base.Ns mainGlobals mg
  blt : ∃ mb, base.Ns builtinsNs mb ∧ ∀ x : Str, x ≠ "__name__" → mb x = bootBuiltins x
  nolimit : base.NoLimit
structure Cx where
  prog : Program
  w : World
  K : PySem.W.Frag
  mg : Str → Option Value
  base : Heap
  A : Around
  N : List Str
  s₀ : Shared
  H₀ : Hp
  env : Env
  outer : List Env
  stack : List Env
  ex : List Addr
  fn : Str → Bool
  calm : Bool
  pn : List (Addr × Obj)
  xe : Value → Shared → Prop
def frs (l : List Env) : List Addr := l.filterMap (·.frame)
abbrev Cx.fs (X : Cx) : List Addr := frs X.outer
def Vis (sc : Scope) (x : Str) : Prop := sc.names.lookup x = some .local ∨ sc.names.lookup x = some .cell ∨ sc.names.lookup x = some .free
def Loc (sc : Scope) (x : Str) : Prop := sc.names.lookup x = some .local ∨ sc.names.lookup x = some .cell
def Look (env : Env) (h : Heap) (m : Str → Option Value) (x : Str) (u : Value) : Prop :=
  (env.kindOf x = some .local ∧ m x = some u) ∨ ((env.kindOf x = some .cell ∨ env.kindOf x = some .free) ∧ ∃ c, env.cells.lookup x = some c ∧ h.IsCell c (some u))
structure Cx.Ok (X : Cx) : Prop where
  mod : Mod X.K X.mg X.base
  kind : X.env.scope.kind = .function
  glob : X.env.globals = mainGlobals
  blt : X.env.builtins = builtinsNs
  above : X.s₀.heap.objs.size ≤ X.env.locals
  inj : ∀ x y c, X.env.cells.lookup x = some c → X.env.cells.lookup y = some c → x = y
  has : ∀ x, (X.env.kindOf x = some .cell ∨ X.env.kindOf x = some .free) → ∃ c, X.env.cells.lookup x = some c
  cab : ∀ x c, X.fn x = true → X.env.cells.lookup x = some c → X.s₀.heap.objs.size ≤ c
  hd : X.calm = true → X.A.handled = none
  frames : X.A.frames = some X.stack
  stk : X.stack = X.outer ∨ (X.stack = X.env :: X.outer ∧ X.env.frame = some X.env.locals)
  exf : ∀ b ∈ X.ex, b ≠ X.env.locals ∧ ∀ x c, X.env.cells.lookup x = some c → c ≠ b
  bs : ∀ b o, X.base.get? b = some o → X.s₀.heap.get? b = some o ∧ X.H₀ b = none
  bsz : X.base.objs.size ≤ X.s₀.heap.objs.size
  noex : ∀ b o, X.base.get? b = some o → b ∉ X.ex
  exfs : ∀ b ∈ X.ex, b ∉ X.fs
  funs : X.s₀.heap.FunFrames X.base X.outer
  frf : ∀ b ∈ X.fs, X.H₀ b = none
structure Inv (X : Cx) (pins : List (Addr × Obj)) (σ : List (Option V)) (H : Hp) (s : Shared) : Prop where
  ok : X.Ok
  os : s.os = X.s₀.os
  bare : AllBare s.gens
  base : Un X.fs X.ex X.H₀ H X.s₀.heap s.heap
  loc : ∃ m, s.heap.Ns X.env.locals m ∧ ∀ (i : Nat) (x : Str) (v : V), X.N[i]? = some x → σ[i]? = some (some v) → Vis X.env.scope x → ∃ u, RelV v u ∧ Look X.env s.heap m x u
  cell : ∀ x c, X.env.cells.lookup x = some c → ∃ v, s.heap.IsCell c v
  free : H X.env.locals = none
  freeC : ∀ x c, X.env.cells.lookup x = some c → H c = none
  pin : ∀ p ∈ X.pn ++ pins, s.heap.get? p.1 = some p.2 ∧ H p.1 = none ∧ p.1 ≠ X.env.locals ∧ p.1 ∉ X.fs ∧ ∀ v, p.2.data ≠ .cell v
  hok : HOk X.prog X.w H s.heap
  len : σ.length = X.N.length
section
variable {X : Cx} {pins : List (Addr × Obj)} {σ : List (Option V)} {H H' : Hp} {s : Shared} {h' : Heap}
theorem Cx.Ok.nofr (ok : X.Ok) {b : Addr} {o : Obj} (e : X.base.get? b = some o) : b ∉ X.fs := fun hb => by
  have := (ok.funs.mem hb).1
  rw [e] at this; cases this
theorem Inv.bs (I : Inv X pins σ H s) : ∀ b o, X.base.get? b = some o → s.heap.get? b = some o ∧ H b = none := fun b o e =>
  ⟨I.base.keep b o (I.ok.bs b o e).1 (I.ok.bs b o e).2 (I.ok.nofr e) (I.ok.noex b o e), I.base.free b o (I.ok.bs b o e).1 (I.ok.bs b o e).2 (I.ok.noex b o e)⟩
theorem Inv.bk (I : Inv X pins σ H s) : ∀ b o, X.base.get? b = some o → s.heap.get? b = some o := fun b o e => (I.bs b o e).1
theorem Inv.mod (I : Inv X pins σ H s) : Mod X.K X.mg X.base := I.ok.mod
theorem Inv.kIn (I : Inv X pins σ H s) : X.K.In s.heap := I.ok.mod.kin.keeps I.bk
theorem Inv.lt (I : Inv X pins σ H s) : X.env.locals < s.heap.objs.size := let ⟨_, hn, _⟩ := I.loc; hn.lt
theorem Inv.sz (I : Inv X pins σ H s) : X.s₀.heap.objs.size ≤ s.heap.objs.size := Nat.le_trans I.ok.above (Nat.le_of_lt I.lt)
theorem Inv.nofs (I : Inv X pins σ H s) {a : Addr} (h : s.heap.objs.size ≤ a) : a ∉ X.fs := fun hb => by
  obtain ⟨_, o, ho, _⟩ := I.ok.funs.mem hb
  exact absurd (Nat.lt_of_lt_of_le (Heap.lt_size ho) (Nat.le_trans I.sz h)) (Nat.lt_irrefl _)
theorem Inv.cne (I : Inv X pins σ H s) : ∀ x c, X.env.cells.lookup x = some c → c ≠ X.env.locals := fun x c e z => by
  obtain ⟨v, o, ho, hd⟩ := I.cell x c e
  obtain ⟨m, ⟨o', es, ep, ho', hd', _⟩, _⟩ := I.loc
  rw [z, ho'] at ho; cases ho; rw [hd'] at hd; cases hd
theorem Inv.funs (I : Inv X pins σ H s) : s.heap.FunFrames X.base X.outer := by
  have all : ∀ (l : List Env), (∀ b ∈ frs l, b ∈ X.fs) → X.s₀.heap.FunFrames X.base l → s.heap.FunFrames X.base l := by
    intro l
    induction l with
    | nil => intro _ _; trivial
    | cons env r ih =>
      intro hs hl
      obtain ⟨hk, ⟨L, o, hf, hn, ho, hd⟩, hr⟩ := hl
      have hL : L ∈ X.fs := hs L (by unfold frs; rw [List.filterMap_cons, hf]; exact List.mem_cons_self)
      obtain ⟨sl, e⟩ := I.base.slot L o ho (I.ok.frf L hL) hL fun z => I.ok.exfs L z hL
      exact ⟨hk, ⟨L, _, hf, hn, e, hd⟩, ih (fun b hb => hs b (by unfold frs; rw [List.filterMap_cons, hf]; exact List.mem_cons_of_mem _ hb)) hr⟩
  exact all X.outer (fun _ hb => hb) I.ok.funs
theorem Inv.stack (I : Inv X pins σ H s) : s.heap.FunFrames X.base X.stack := by
  rcases I.ok.stk with e | ⟨e, hf⟩
  · rw [e]; exact I.funs
  · rw [e]
    obtain ⟨m, hn, _⟩ := I.loc
    refine .cons (by rw [I.ok.kind]; decide) hf hn ?_ I.funs
    exact Heap.get?_none_of_le (Nat.le_trans I.ok.bsz I.ok.above)
theorem Inv.stkSub (I : Inv X pins σ H s) : ∀ b ∈ frs X.stack, b ∈ X.env.locals :: X.fs := fun b hb => by
  rcases I.ok.stk with e | ⟨e, hf⟩
  · rw [e] at hb; exact List.mem_cons_of_mem _ hb
  · rw [e] at hb
    unfold frs at hb
    rw [List.filterMap_cons, hf] at hb
    exact hb
theorem Inv.stkFree (I : Inv X pins σ H s) : ∀ b ∈ frs X.stack, H b = none := fun b hb => by
  rcases List.mem_cons.mp (I.stkSub b hb) with e | hb
  · rw [e]; exact I.free
  · obtain ⟨_, o, ho, _⟩ := I.ok.funs.mem hb
    exact I.base.free b o ho (I.ok.frf b hb) fun z => I.ok.exfs b z hb
theorem Inv.step {g' : Array GenState} {t' : Nat} {d' : Drawn} {ch : List Addr} (I : Inv X pins σ H s)
    (hch : ∀ b ∈ ch, (b ∈ X.ex ∨ X.s₀.heap.objs.size ≤ b) ∧ b ≠ X.env.locals ∧ (∀ x c, X.env.cells.lookup x = some c → c ≠ b) ∧ ∀ p ∈ X.pn ++ pins, p.1 ≠ b)
    (keep : ∀ b o, b ≠ X.env.locals → b ∉ X.fs → b ∉ ch → s.heap.get? b = some o → H b = none → h'.get? b = some o)
    (slot : ∀ b o, b ≠ X.env.locals → b ∈ X.fs → b ∉ ch → s.heap.get? b = some o → H b = none → ∃ sl, h'.get? b = some { o with slots := sl }) (free : ∀ b o, b ∉ ch → s.heap.get? b = some o → H b = none → H' b = none)
    (there : ∀ b o, b ∉ ch → s.heap.get? b = some o → ∃ o', h'.get? b = some o')
    (tups : ∀ b xs, H b = some (.tup xs) → H' b = some (.tup xs)) (frzs : ∀ b o u, H b = some (.frz o u) → H' b = some (.frz o u)) (tbls : ∀ b ps, H b = some (.tbl ps) → ∃ more, H' b = some (.tbl (ps ++ more)))
    (ns : ∀ m, s.heap.Ns X.env.locals m → h'.Ns X.env.locals m) (hok : HOk X.prog X.w H' h') (hg : AllBare g') :
    Inv X pins σ H' { s with heap := h', gens := g', drawn := d', toks := t' } := by
  have neL : ∀ b o, X.s₀.heap.get? b = some o → b ≠ X.env.locals := fun b o e => Nat.ne_of_lt (Nat.lt_of_lt_of_le (Heap.lt_size e) I.ok.above)
  have neC : ∀ b o, X.s₀.heap.get? b = some o → b ∉ X.ex → b ∉ ch := fun b o e hx hb => by
    rcases (hch b hb).1 with z | z
    · exact hx z
    · exact absurd (Nat.lt_of_lt_of_le (Heap.lt_size e) z) (Nat.lt_irrefl _)
  have cellK : ∀ x c, X.env.cells.lookup x = some c → ∀ v, s.heap.IsCell c v → h'.IsCell c v := fun x c e v ⟨o, ho, hd⟩ => by
    have nch : c ∉ ch := fun z => (hch c z).2.2.1 x c e rfl
    by_cases hc : c ∈ X.fs
    · obtain ⟨sl, q⟩ := slot c o (I.cne x c e) hc nch ho (I.freeC x c e)
      exact ⟨_, q, hd⟩
    · exact ⟨o, keep c o (I.cne x c e) hc nch ho (I.freeC x c e), hd⟩
  refine ⟨I.ok, I.os, hg, ⟨fun b o e n hb hx => ?_, fun b o e n hb hx => ?_, fun b o e n hx => ?_, fun b o e hx => ?_, fun b xs e => tups b xs (I.base.tups b xs e), fun b o xs e => frzs b o xs (I.base.frzs b o xs e), fun b ps e => ?_⟩, ?_, fun x c e => ?_, ?_, fun x c e => ?_, fun p hp => ?_, hok, I.len⟩
  · exact keep b o (neL b o e) hb (neC b o e hx) (I.base.keep b o e n hb hx) (I.base.free b o e n hx)
  · obtain ⟨sl, e1⟩ := I.base.slot b o e n hb hx
    obtain ⟨sl', e2⟩ := slot b _ (neL b o e) hb (neC b o e hx) e1 (I.base.free b o e n hx)
    exact ⟨sl', e2⟩
  · obtain ⟨o', e1⟩ := I.base.there b o e hx
    exact free b o' (neC b o e hx) e1 (I.base.free b o e n hx)
  · obtain ⟨o', e1⟩ := I.base.there b o e hx
    exact there b o' (neC b o e hx) e1
  · obtain ⟨m1, e1⟩ := I.base.tbls b ps e
    obtain ⟨m2, e2⟩ := tbls b _ e1
    exact ⟨m1 ++ m2, by rw [e2, Array.append_assoc]⟩
  · obtain ⟨m, hn, hl⟩ := I.loc
    refine ⟨m, ns m hn, fun i x v e1 e2 e3 => ?_⟩
    obtain ⟨u, r, l⟩ := hl i x v e1 e2 e3
    refine ⟨u, r, ?_⟩
    rcases l with l | ⟨k, c, e, z⟩
    · exact .inl l
    · exact .inr ⟨k, c, e, cellK x c e _ z⟩
  · obtain ⟨v, z⟩ := I.cell x c e
    exact ⟨v, cellK x c e v z⟩
  · obtain ⟨m, ⟨o, _, _, ho, _⟩, _⟩ := I.loc
    exact free _ o (fun z => (hch _ z).2.1 rfl) ho I.free
  · obtain ⟨v, o, ho, hd⟩ := I.cell x c e
    exact free c o (fun z => (hch c z).2.2.1 x c e rfl) ho (I.freeC x c e)
  · obtain ⟨e, n, ne, nf, d⟩ := I.pin p hp
    have nch : p.1 ∉ ch := fun z => (hch p.1 z).2.2.2 p hp rfl
    exact ⟨keep p.1 p.2 ne nf nch e n, free p.1 p.2 nch e n, ne, nf, d⟩
theorem Inv.un {t' : Nat} (I : Inv X pins σ H s) (u : Un X.fs [] H H' s.heap h') (hok : HOk X.prog X.w H' h') : Inv X pins σ H' { s with heap := h', toks := t' } := by
  obtain ⟨m, ⟨o, es, ep, ho, r⟩, _⟩ := id I.loc
  obtain ⟨sl, hL⟩ := u.any ho I.free (by simp)
  exact I.step (g' := s.gens) (d' := s.drawn) (ch := []) (fun _ z => nomatch z) (fun b o _ hb _ e n => u.keep b o e n hb (by simp)) (fun b o _ hb _ e n => u.slot b o e n hb (by simp)) (fun b o _ e n => u.free b o e n (by simp)) (fun b o _ e => u.there b o e (by simp)) u.tups u.frzs u.tbls (fun m' hm => by
    obtain ⟨o', es', ep', ho', r'⟩ := hm
    rw [ho] at ho'; cases ho'
    exact ⟨_, es', ep', hL, r'⟩) hok I.bare
theorem Inv.call {g' : Array GenState} {t' : Nat} {d' : Drawn} {ch : List Addr} (I : Inv X pins σ H s) (u : Un (frs X.stack) ch H H' s.heap h') (hok : HOk X.prog X.w H' h') (hg : AllBare g')
    (hch : ∀ b ∈ ch, (b ∈ X.ex ∨ X.s₀.heap.objs.size ≤ b) ∧ b ≠ X.env.locals ∧ (∀ x c, X.env.cells.lookup x = some c → c ≠ b) ∧ ∀ p ∈ X.pn ++ pins, p.1 ≠ b) :
    Inv X pins σ H' { s with heap := h', gens := g', drawn := d', toks := t' } := by
  obtain ⟨m, ⟨o, es, ep, ho, r⟩, _⟩ := id I.loc
  obtain ⟨sl, hL⟩ := u.any ho I.free fun z => (hch _ z).2.1 rfl
  exact I.step (ch := ch) hch (fun b o hL hb hc e n => u.keep b o e n (fun z => (List.mem_cons.mp (I.stkSub b z)).elim hL hb) hc) (fun b o _ _ hc e n => u.any e n hc) (fun b o hc e n => u.free b o e n hc) (fun b o hc e => u.there b o e hc) u.tups u.frzs u.tbls (fun m' hm => by
    obtain ⟨o', es', ep', ho', r'⟩ := hm
    rw [ho] at ho'; cases ho'
    exact ⟨_, es', ep', hL, r'⟩) hok hg
theorem Inv.turned {t' : Nat} {it : Addr} (I : Inv X pins σ H s) (k : ∀ b o, b ≠ it → s.heap.get? b = some o → h'.get? b = some o) (hn : H it = none) (hL : it ≠ X.env.locals)
    (h1 : it ∈ X.ex ∨ X.s₀.heap.objs.size ≤ it) (h2 : ∀ x c, X.env.cells.lookup x = some c → c ≠ it) (h3 : ∀ p ∈ X.pn ++ pins, p.1 ≠ it) : Inv X pins σ H { s with heap := h', toks := t' } := by
  have nit : ∀ b u, H b = some u → b ≠ it := fun b u e z => by rw [z, hn] at e; cases e
  refine I.step (g' := s.gens) (d' := s.drawn) (ch := [it]) (fun b hb => ?_) (fun b o _ _ hc e _ => k b o (fun z => hc (by simp [z])) e) (fun b o _ _ hc e _ => ⟨o.slots, k b o (fun z => hc (by simp [z])) e⟩) (fun _ _ _ _ n => n)
    (fun b o hc e => ⟨o, k b o (fun z => hc (by simp [z])) e⟩) (fun _ _ e => e) (fun _ _ _ e => e) (fun b ps e => ⟨#[], by rw [e]; simp⟩) (fun m hm => ?_) (fun b u e => ?_) I.bare
  · have e : b = it := by simpa using hb
    subst e
    exact ⟨h1, hL, h2, h3⟩
  · obtain ⟨o, es, ep, ho, r⟩ := hm
    exact ⟨o, es, ep, k _ o (Ne.symm hL) ho, r⟩
  · refine (I.hok b u e).stay (fun c v hc q => k c v ?_ q) (fun _ q => q) fun _ _ q => q
    rcases hc with z | z
    · rw [z]; exact nit b u e
    · exact nit c _ z
theorem Inv.tok (I : Inv X pins σ H s) (t : Nat) : Inv X pins σ H { s with toks := t } := I.un (h' := s.heap) (t' := t) Un.refl I.hok
theorem Inv.kept {t' : Nat} (I : Inv X pins σ H s) (k : ∀ b u, s.heap.get? b = some u → h'.get? b = some u) : Inv X pins σ H { s with heap := h', toks := t' } := I.un (Un.kept k) (I.hok.kept k)
theorem Inv.laid {a : Addr} {o : HO} {t' : Nat} (I : Inv X pins σ H s) (k : ∀ b u, s.heap.get? b = some u → h'.get? b = some u) (hp : s.heap.objs.size ≤ a) (new : ObjOk X.prog X.w (upd H a o) h' a o) :
    Inv X pins σ (upd H a o) { s with heap := h', toks := t' } := I.un (Un.laid k hp (I.hok.fresh hp)) (I.hok.laid k hp new)
theorem Inv.write {x e : Addr} {o : HO} {t' : Nat} (I : Inv X pins σ H s) (mu : Mut (H x)) (he : e = x ∨ H e = some (.own x)) (k : ∀ b u, b ≠ e → s.heap.get? b = some u → h'.get? b = some u) (heo : ∃ u, h'.get? e = some u)
    (new : ObjOk X.prog X.w (upd H x o) h' x o) : Inv X pins σ (upd H x o) { s with heap := h', toks := t' } := I.un (Un.write mu he k heo) (I.hok.write mu he k heo new)
theorem Inv.weak {σ' : List (Option V)} (I : Inv X pins σ H s) (hl : σ'.length = σ.length) (w : ∀ (i : Nat) v, σ'[i]? = some (some v) → σ[i]? = some (some v)) : Inv X pins σ' H s :=
  ⟨I.ok, I.os, I.bare, I.base, let ⟨m, hn, hl'⟩ := I.loc; ⟨m, hn, fun i x v e1 e2 e3 => hl' i x v e1 (w i v e2) e3⟩, I.cell, I.free, I.freeC, I.pin, I.hok, hl.trans I.len⟩
theorem Inv.pins_of {pins' : List (Addr × Obj)} (I : Inv X pins σ H s) (h : ∀ p ∈ pins', s.heap.get? p.1 = some p.2 ∧ H p.1 = none ∧ p.1 ≠ X.env.locals ∧ p.1 ∉ X.fs ∧ ∀ v, p.2.data ≠ .cell v) : Inv X pins' σ H s :=
  ⟨I.ok, I.os, I.bare, I.base, I.loc, I.cell, I.free, I.freeC, fun p hp => (List.mem_append.mp hp).elim (fun z => I.pin p (List.mem_append_left _ z)) (h p), I.hok, I.len⟩
theorem nodup_ix {N : List Str} (hN : N.Nodup) {i j : Nat} {x : Str} (a : N[i]? = some x) (b : N[j]? = some x) : i = j := by
  obtain ⟨h1, e1⟩ := List.getElem?_eq_some_iff.mp a
  obtain ⟨h2, e2⟩ := List.getElem?_eq_some_iff.mp b
  exact (List.getElem_inj hN).mp (e1.trans e2.symm)
theorem store_ok2 {M : Model} {A : Around} {E : Value → Shared → Prop} {i : Nat} {x : Str} {v : V} {u : Value} {Q : Unit → Shared → Prop} (I : Inv X pins σ H s) (hN : X.N.Nodup) (hi : X.N[i]? = some x) (hx : Loc X.env.scope x) (r : RelV v u)
    (h : ∀ s', Inv X pins (σ.set i (some v)) H s' → (∃ a, Heap.SameBut a s.heap s'.heap ∧ (a = X.env.locals ∨ X.env.cells.lookup x = some a)) → Q () s') (hf : X.fn x = true ∨ X.env.scope.names.lookup x = some .local := by first | exact .inl rfl | exact .inr rfl | assumption) : wpAny M A (storeName X.env x u) Q E s := by
  obtain ⟨m, hn, hl⟩ := id I.loc
  have hcls : (X.env.scope.kind == .class || (X.env.scope.kind == .module && X.env.locals != X.env.globals)) = false := by rw [I.ok.kind]; rfl
  have hiσ : i < σ.length := by rw [I.len]; exact (List.getElem?_eq_some_iff.mp hi).1
  have cne := I.cne
  have tracked : ∀ {a : Addr} {h' : Heap}, (∃ o, s.heap.get? a = some o ∧ H a = none) → Heap.SameBut a s.heap h' → HOk X.prog X.w H h' := fun {a h'} ha hs b ob e => by
    obtain ⟨_, _, hfree⟩ := ha
    refine (I.hok b ob e).stay (fun c w' hc q => (hs.2 c ?_).trans q) (fun _ q => q) fun _ _ q => q
    rintro rfl
    rcases hc with rfl | hc
    · rw [hfree] at e; cases e
    · rw [hfree] at hc; cases hc
  rcases hx with hk | hk
  · refine wpAny_storeName_local hk hn (fun h' hn' hs => ?_) hcls
    obtain ⟨oL, _, _, hoL, _⟩ := id hn
    refine h _ ⟨I.ok, I.os, I.bare, ⟨fun b o e n hb hx => ?_, fun b o e n hb hx => ?_, I.base.free, fun b o e hx => ?_, I.base.tups, I.base.frzs, I.base.tbls⟩, ⟨_, hn', fun j y v' e1 e2 e3 => ?_⟩, fun y c e => ?_, I.free, I.freeC, fun p hp => ?_, tracked ⟨oL, hoL, I.free⟩ hs, by simpa using I.len⟩ ⟨_, hs, .inl rfl⟩
    · exact (hs.2 b (Nat.ne_of_lt (Nat.lt_of_lt_of_le (Heap.lt_size e) I.ok.above))).trans (I.base.keep b o e n hb hx)
    · obtain ⟨sl, e1⟩ := I.base.slot b o e n hb hx
      exact ⟨sl, (hs.2 b (Nat.ne_of_lt (Nat.lt_of_lt_of_le (Heap.lt_size e) I.ok.above))).trans e1⟩
    · obtain ⟨o', e1⟩ := I.base.there b o e hx
      exact ⟨o', (hs.2 b (Nat.ne_of_lt (Nat.lt_of_lt_of_le (Heap.lt_size e) I.ok.above))).trans e1⟩
    · by_cases hj : j = i
      · subst hj
        rw [hi] at e1; cases e1
        rw [List.getElem?_set_self hiσ] at e2
        cases e2
        exact ⟨u, r, .inl ⟨hk, by simp⟩⟩
      · rw [List.getElem?_set_ne (Ne.symm hj)] at e2
        obtain ⟨u', r', q⟩ := hl j y v' e1 e2 e3
        refine ⟨u', r', ?_⟩
        rcases q with ⟨k, e⟩ | ⟨k, c, e, z⟩
        · refine .inl ⟨k, ?_⟩
          have : y ≠ x := fun e => hj (nodup_ix hN e1 (e ▸ hi))
          simp [this, e]
        · exact .inr ⟨k, c, e, z.sameBut hs (cne y c e)⟩
    · obtain ⟨w', z⟩ := I.cell y c e
      exact ⟨w', z.sameBut hs (cne y c e)⟩
    · obtain ⟨e, n, ne, nf, d⟩ := I.pin p hp
      exact ⟨(hs.2 p.1 ne).trans e, n, ne, nf, d⟩
  · have hfn : X.fn x = true := by
      rcases hf with z | z
      · exact z
      · rw [z] at hk; cases hk
    obtain ⟨c, hc⟩ := I.ok.has x (.inl hk)
    obtain ⟨w', z⟩ := I.cell x c hc
    refine wpAny_storeName_cell I.ok.kind hk hc z (fun h' hc' hs => ?_)
    obtain ⟨oc, hoc, hocd⟩ := id z
    refine h { s with heap := h' } ⟨I.ok, I.os, I.bare, ⟨fun b o e n hb hx => ?_, fun b o e n hb hx => ?_, I.base.free, fun b o e hx => ?_, I.base.tups, I.base.frzs, I.base.tbls⟩, ⟨m, hn.sameBut hs (Ne.symm (cne x c hc)), fun j y v' e1 e2 e3 => ?_⟩, fun y c' e => ?_, I.free, I.freeC, fun p hp => ?_, tracked ⟨oc, hoc, I.freeC x c hc⟩ hs, by simpa using I.len⟩ ⟨c, hs, .inr hc⟩
    · exact (hs.2 b (Nat.ne_of_lt (Nat.lt_of_lt_of_le (Heap.lt_size e) (I.ok.cab x c hfn hc)))).trans (I.base.keep b o e n hb hx)
    · obtain ⟨sl, e1⟩ := I.base.slot b o e n hb hx
      exact ⟨sl, (hs.2 b (Nat.ne_of_lt (Nat.lt_of_lt_of_le (Heap.lt_size e) (I.ok.cab x c hfn hc)))).trans e1⟩
    · obtain ⟨o', e1⟩ := I.base.there b o e hx
      exact ⟨o', (hs.2 b (Nat.ne_of_lt (Nat.lt_of_lt_of_le (Heap.lt_size e) (I.ok.cab x c hfn hc)))).trans e1⟩
    · by_cases hj : j = i
      · subst hj
        rw [hi] at e1; cases e1
        rw [List.getElem?_set_self hiσ] at e2
        cases e2
        exact ⟨u, r, .inr ⟨.inl hk, c, hc, hc'⟩⟩
      · rw [List.getElem?_set_ne (Ne.symm hj)] at e2
        obtain ⟨u', r', q⟩ := hl j y v' e1 e2 e3
        refine ⟨u', r', ?_⟩
        rcases q with q | ⟨k, c', e, z'⟩
        · exact .inl q
        · refine .inr ⟨k, c', e, z'.sameBut hs ?_⟩
          rintro rfl
          exact hj (nodup_ix hN e1 (I.ok.inj _ _ _ e hc ▸ hi))
    · by_cases hcc : c' = c
      · subst hcc; exact ⟨_, hc'⟩
      · obtain ⟨w2, z2⟩ := I.cell y c' e
        exact ⟨w2, z2.sameBut hs hcc⟩
    · obtain ⟨e, n, ne, nf, d⟩ := I.pin p hp
      refine ⟨(hs.2 p.1 ?_).trans e, n, ne, nf, d⟩
      intro q
      rw [q, hoc] at e
      have q' : oc = p.2 := Option.some.inj e
      exact d w' (by rw [← q']; exact hocd)
theorem store_ok {M : Model} {A : Around} {E : Value → Shared → Prop} {i : Nat} {x : Str} {v : V} {u : Value} {Q : Unit → Shared → Prop} (I : Inv X pins σ H s) (hN : X.N.Nodup) (hi : X.N[i]? = some x) (hx : Loc X.env.scope x) (r : RelV v u)
    (h : ∀ s', Inv X pins (σ.set i (some v)) H s' → Q () s') (hf : X.fn x = true ∨ X.env.scope.names.lookup x = some .local := by first | exact .inl rfl | exact .inr rfl | assumption) : wpAny M A (storeName X.env x u) Q E s :=
  store_ok2 I hN hi hx r (fun s' I' _ => h s' I') hf
theorem Inv.call' {s' : Shared} {ch : List Addr} (I : Inv X pins σ H s) (ho : s'.os = s.os) (u : Un (frs X.stack) ch H H' s.heap s'.heap) (hok : HOk X.prog X.w H' s'.heap) (hg : AllBare s'.gens)
    (hch : ∀ b ∈ ch, (b ∈ X.ex ∨ X.s₀.heap.objs.size ≤ b) ∧ b ≠ X.env.locals ∧ (∀ x c, X.env.cells.lookup x = some c → c ≠ b) ∧ ∀ p ∈ X.pn ++ pins, p.1 ≠ b) : Inv X pins σ H' s' := by
  obtain ⟨h', g', d', t', o'⟩ := s'
  have e : o' = s.os := ho
  subst e
  exact I.call (g' := g') (t' := t') (d' := d') u hok hg hch
end
abbrev XK := Value → Option Addr → Hp → Prop
abbrev St := List (Option V)
abbrev VK := V → Hp → Prop
abbrev TE := St → Hp → VK → Prop
abbrev TT := St → Hp → (Bool → Hp → Prop) → Prop
abbrev TA := St → Hp → (List V → Hp → Prop) → Prop
structure Ends where
  nx : St → Hp → Prop
  rt : VK
  bk : St → Hp → Prop := fun _ _ => False
  ct : St → Hp → Prop := fun _ _ => False
abbrev TS := Ends → St → Hp → Prop
def EP (X : Cx) (pins : List (Addr × Obj)) (σ : St) (Q : VK) (u : Value) (s' : Shared) : Prop := ∃ v H', Inv X pins σ H' s' ∧ RelV v u ∧ Q v H'
def TP (X : Cx) (pins : List (Addr × Obj)) (σ : St) (Q : Bool → Hp → Prop) (b : Bool) (s' : Shared) : Prop := ∃ H', Inv X pins σ H' s' ∧ Q b H'
def AP (X : Cx) (pins : List (Addr × Obj)) (σ : St) (Q : List V → Hp → Prop) (us : List Value) (s' : Shared) : Prop := ∃ vs H', Inv X pins σ H' s' ∧ Vals vs us ∧ Q vs H'
def SP (X : Cx) (pins : List (Addr × Obj)) (D : Ends) (f : Flow) (s' : Shared) : Prop :=
  match f with
  | .next => ∃ σ' H', Inv X pins σ' H' s' ∧ D.nx σ' H'
  | .brk => ∃ σ' H', Inv X pins σ' H' s' ∧ D.bk σ' H'
  | .cont => ∃ σ' H', Inv X pins σ' H' s' ∧ D.ct σ' H'
  | .ret u => ∃ v σ' H', Inv X pins σ' H' s' ∧ RelV v u ∧ D.rt v H'
def PE (X : Cx) (e : Expr) (t : TE) : Prop :=
  ∀ (pins : List (Addr × Obj)) (s : Shared) (σ : St) (H : Hp) (Q : VK), Inv X pins σ H s → t σ H Q → wpAny (model X.prog X.w) X.A (eval e X.env) (EP X pins σ Q) X.xe s
def PT (X : Cx) (e : Expr) (t : TT) : Prop :=
  ∀ (pins : List (Addr × Obj)) (s : Shared) (σ : St) (H : Hp) (Q : Bool → Hp → Prop), Inv X pins σ H s → t σ H Q → wpAny (model X.prog X.w) X.A (isTrue e X.env (eval e X.env)) (TP X pins σ Q) X.xe s
def PW (X : Cx) (e : Expr) (t : TT) : Prop :=
  ∀ (whole : Sem Value) (pins : List (Addr × Obj)) (s : Shared) (σ : St) (H : Hp) (Q : Bool → Hp → Prop), Inv X pins σ H s → t σ H Q → wpAny (model X.prog X.w) X.A (isTrue e X.env whole) (TP X pins σ Q) X.xe s
theorem PW.pt {X : Cx} {e : Expr} {t : TT} (h : PW X e t) : PT X e t := h _
def PA (X : Cx) (es : List Expr) (t : TA) : Prop :=
  ∀ (pos : Pos) (pins : List (Addr × Obj)) (s : Shared) (σ : St) (H : Hp) (Q : List V → Hp → Prop), Inv X pins σ H s → t σ H Q → wpAny (model X.prog X.w) X.A (spliced (backTo pos (starEach es X.env))) (AP X pins σ Q) X.xe s
def PS (X : Cx) (st : Stmt) (t : TS) : Prop :=
  ∀ (pins : List (Addr × Obj)) (s : Shared) (σ : St) (H : Hp) (D : Ends), Inv X pins σ H s → t D σ H → wpAny (model X.prog X.w) X.A (exec st X.env) (SP X pins D) X.xe s
def PSs (X : Cx) (st : List Stmt) (t : TS) : Prop :=
  ∀ (pins : List (Addr × Obj)) (s : Shared) (σ : St) (H : Hp) (D : Ends), Inv X pins σ H s → t D σ H → wpAny (model X.prog X.w) X.A (execs st X.env) (SP X pins D) X.xe s
theorem thn {α : Type} {t : Sem α} {Q Q' : α → Shared → Prop} {M : Model} {A : Around} {E : Value → Shared → Prop} {s : Shared} (h : wpAny M A t Q E s) (hQ : ∀ a s, Q a s → Q' a s) : wpAny M A t Q' E s := wpAny_mono h hQ fun _ _ x => x
end L2
namespace L2
open PySem PySem.Spec PyProof.Rows
section
variable {X : Cx}
def tVar (i : Nat) : TE := fun σ H Q => ∃ v, σ[i]? = some (some v) ∧ Q v H
def tC (v : V) : TE := fun _ H Q => Q v H
theorem pe_var {i : Nat} {x : Str} {pos : Pos} (hN : X.N[i]? = some x) (hv : Vis X.env.scope x) (hd : (x == ("__debug__" : Str)) = false := by decide) (hcd : (x == ("__classdict__" : Str)) = false := by decide) : PE X (.Name x pos) (tVar i) := by
  intro pins s σ H Q I h
  obtain ⟨v, e, h⟩ := h
  obtain ⟨m, hn, hl⟩ := I.loc
  obtain ⟨u, r, l⟩ := hl i x v hN e hv
  have fin : EP X pins σ Q u s := ⟨v, H, I, r, h⟩
  rcases l with ⟨hk, hm⟩ | ⟨hk, c, hc, hcell⟩
  · exact wpAny_Name (wpAny_loadName_local I.ok.kind hk hn hm fin) hd
  · rcases hk with hk | hk
    · exact wpAny_Name (wpAny_loadName_cell I.ok.kind hk hc hcell fin) hd
    · exact wpAny_Name (wpAny_loadName_free I.ok.kind hk hc hcell fin hcd) hd
theorem pe_int {i j pos} : PE X (.Constant (.int i) j pos) (tC (.int i)) := fun _ _ _ H _ I h => wpAny_Constant_int ⟨.int i, H, I.tok _, ⟨_, rfl⟩, h⟩
theorem pe_bl {b j pos} : PE X (.Constant (.bool b) j pos) (tC (.bl b)) := fun _ _ _ H _ I h => Constant_bool ⟨.bl b, H, I, rfl, h⟩
theorem pe_non {j pos} : PE X (.Constant .none j pos) (tC .non) := fun _ _ _ H _ I h => Constant_none ⟨.non, H, I, rfl, h⟩
theorem pe_str {x j pos} : PE X (.Constant (.str x) j pos) (tC (.str x)) := fun _ _ _ H _ I h => Calls.Constant_str ⟨.str x, H, I.tok _, ⟨_, rfl⟩, h⟩
def Gl (X : Cx) (x : Str) : Prop := X.env.kindOf x = some .globalImplicit
theorem ld_glob {E : Value → Shared → Prop} {pins : List (Addr × Obj)} {s : Shared} {σ : St} {H : Hp} {x : Str} {u : Value} {pos : Pos} {Q : Value → Shared → Prop} (I : Inv X pins σ H s) (hg : Gl X x) (hm : X.mg x = some u) (h : Q u s)
    (hd : (x == ("__debug__" : Str)) = false := by decide) : wpAny (model X.prog X.w) X.A (eval (.Name x pos) X.env) Q E s :=
  Calls.Name_function_global I.ok.kind hg (Calls.loadGlobal_global (by rw [I.ok.glob]; exact I.mod.glob.keeps I.bk) hm h) hd
theorem ld_blt {E : Value → Shared → Prop} {pins : List (Addr × Obj)} {s : Shared} {σ : St} {H : Hp} {x : Str} {u : Value} {pos : Pos} {Q : Value → Shared → Prop} (I : Inv X pins σ H s) (hg : Gl X x) (hm : X.mg x = none) (hv : bootBuiltins x = some u) (h : Q u s)
    (hn : x ≠ "__name__" := by decide) (hd : (x == ("__debug__" : Str)) = false := by decide) : wpAny (model X.prog X.w) X.A (eval (.Name x pos) X.env) Q E s := by
  obtain ⟨mb, h1, h2⟩ := I.mod.blt
  exact Calls.Name_function_global I.ok.kind hg (Calls.loadGlobal_builtin (by rw [I.ok.glob]; exact I.mod.glob.keeps I.bk) hm (by rw [I.ok.blt]; exact h1.keeps I.bk) ((h2 x hn).trans hv) h) hd
theorem pe_bltn {x : Str} {v : V} {u : Value} {pos : Pos} (hg : Gl X x) (hm : X.mg x = none) (hv : bootBuiltins x = some u) (r : RelV v u) (hn : x ≠ "__name__" := by decide) (hd : (x == ("__debug__" : Str)) = false := by decide) : PE X (.Name x pos) (tC v) :=
  fun _ _ _ H _ I h => ld_blt I hg hm hv ⟨v, H, I, r, h⟩ hn hd
variable {a b : Expr} {ta tb : TE} {pos : Pos}
def tB (t : TE) : TT := fun σ H Q => t σ H fun x H1 => ∃ c, x = .bl c ∧ Q c H1
theorem pt_val {e : Expr} {t : TE} (h : PE X e t) (he : ∀ whole, isTrue e X.env whole = (do let v ← whole; standAt e.pos; holding [v] (truthy v)) := by intro _; rfl) : PT X e (tB t) := by
  intro pins s σ H Q I hw
  refine isTrue_plain (thn (h pins s σ H _ I hw) fun v s1 ⟨x, H1, I1, r1, q1⟩ => ?_) (he _)
  obtain ⟨d, rfl, q⟩ := q1
  cases r1
  exact wpAny_truthy_bool ⟨H1, I1, q⟩
variable {tA tB' : TT} {rest : List Expr}
def tAnd (t u : TT) : TT := fun σ H Q => t σ H fun c H1 => if c = true then u σ H1 Q else Q false H1
def tOr (t u : TT) : TT := fun σ H Q => t σ H fun c H1 => if c = true then Q true H1 else u σ H1 Q
def tNot (t : TT) : TT := fun σ H Q => t σ H fun c H1 => Q (!c) H1
theorem pw_and1 (ha : PT X a tA) : PW X (.BoolOp .And [a] pos) tA := by
  intro wh pins s σ H Q I h
  refine isTrue_and (thn (ha pins s σ H Q I h) fun c s1 e => ?_)
  cases c with
  | true => exact isTrue_and_nil e
  | false => exact e
theorem pw_or1 (ha : PT X a tA) : PW X (.BoolOp .Or [a] pos) tA := by
  intro wh pins s σ H Q I h
  refine isTrue_or (thn (ha pins s σ H Q I h) fun c s1 e => ?_)
  cases c with
  | false => exact isTrue_or_nil e
  | true => exact e
theorem pw_and (ha : PT X a tA) (hb : PW X (.BoolOp .And (b :: rest) pos) tB') : PW X (.BoolOp .And (a :: b :: rest) pos) (tAnd tA tB') := by
  intro wh pins s σ H Q I h
  refine isTrue_and (thn (ha pins s σ H _ I h) fun c s1 ⟨H1, I1, q1⟩ => ?_)
  cases c with
  | true => exact hb wh pins s1 σ H1 Q I1 q1
  | false => exact ⟨H1, I1, q1⟩
theorem pw_or (ha : PT X a tA) (hb : PW X (.BoolOp .Or (b :: rest) pos) tB') : PW X (.BoolOp .Or (a :: b :: rest) pos) (tOr tA tB') := by
  intro wh pins s σ H Q I h
  refine isTrue_or (thn (ha pins s σ H _ I h) fun c s1 ⟨H1, I1, q1⟩ => ?_)
  cases c with
  | true => exact ⟨H1, I1, q1⟩
  | false => exact hb wh pins s1 σ H1 Q I1 q1
theorem pt_not (ha : PT X a tA) : PT X (.UnaryOp .Not a pos) (tNot tA) := by
  intro pins s σ H Q I h
  exact isTrue_not (ha pins s σ H (fun c H1 => Q (!c) H1) I h)
def tIf (t : TT) (ta tb : TE) : TE := fun σ H Q => t σ H fun c H1 => if c = true then ta σ H1 Q else tb σ H1 Q
theorem pe_ifExp {c : Expr} (hc : PT X c tA) (ha : PE X a ta) (hb : PE X b tb) : PE X (.IfExp c a b pos) (tIf tA ta tb) := by
  intro pins s σ H Q I h
  refine wpAny_IfExp (thn (hc pins s σ H _ I h) fun d s1 ⟨H1, I1, q1⟩ => ?_)
  cases d with
  | true => exact ha pins s1 σ H1 Q I1 q1
  | false => exact hb pins s1 σ H1 Q I1 q1
end
end L2
namespace L2
open PySem PySem.Spec PyProof.Rows
def SqL (K : PySem.W.Frag) (H : Hp) (a : Addr) (xs : List V) : Prop :=
  Rd H a (.lst xs) ∨
    ∃ (o : Obj) (its : Array Value) (n : Nat), K.lookup a = some o ∧ o.cls = .type "list" ∧ o.dict = none ∧ o.data = .seq its n ∧ its.size ≤ sizeLine ∧ Vals xs its.toList
def SqT (K : PySem.W.Frag) (H : Hp) (a : Addr) (xs : List V) : Prop :=
  Rd H a (.tup xs) ∨
    ∃ (o : Obj) (its : Array Value) (n : Nat), K.lookup a = some o ∧ o.cls = .type "tuple" ∧ o.data = .seq its n ∧ its.size ≤ sizeLine ∧ Vals xs its.toList
def absV : Value → Option V
  | .none => some .non
  | .bool b => some (.bl b)
  | .int i _ => some (.int i)
  | .str x _ => some (.str x)
  | .bytes b _ => some (.byt b)
  | .float b _ => some (.flt b)
  | .ref a => some (.ref a)
  | .type n => some (.ty n)
  | _ => none
theorem RelV.abs {x : V} {u : Value} (r : RelV x u) : absV u = some x := by
  cases x with
  | non => cases r; rfl
  | bl _ => cases r; rfl
  | int _ => obtain ⟨t, rfl⟩ := r; rfl
  | str _ => obtain ⟨t, rfl⟩ := r; rfl
  | byt _ => obtain ⟨t, rfl⟩ := r; rfl
  | flt _ => obtain ⟨t, rfl⟩ := r; rfl
  | ref _ => cases r; rfl
  | ty _ => cases r; rfl
theorem RelV.inj {x y : V} {u : Value} (r : RelV x u) (q : RelV y u) : x = y := Option.some.inj (r.abs.symm.trans q.abs)
theorem Vals.inj : ∀ {xs ys : List V} {us : List Value}, Vals xs us → Vals ys us → xs = ys
  | _, _, _, .nil, .nil => rfl
  | _, _, _, .cons r t, .cons r' t' => by rw [r.inj r', Vals.inj t t']
section
variable {X : Cx} {pins : List (Addr × Obj)} {σ : St} {H : Hp} {s : Shared} {a : Addr} {xs ys : List V}
theorem SqL.of {K : PySem.W.Frag} (h : H a = some (.lst xs)) : SqL K H a xs := .inl (.inl h)
theorem SqT.of {K : PySem.W.Frag} (h : H a = some (.tup xs)) : SqT K H a xs := .inl (.inl h)
theorem Inv.list (I : Inv X pins σ H s) (h : SqL X.K H a xs) : ∃ its : List Value, Vals xs its ∧ PlainL s.heap a its.toArray ∧ xs.length ≤ sizeLine := by
  rcases h with h | ⟨o, its, n, hk, hc, hd, hs, hz, r⟩
  · obtain ⟨z, its, n, r, e⟩ := h.ok I.hok
    exact ⟨its, r, ⟨_, n, e, rfl, rfl, rfl⟩, z⟩
  · refine ⟨its.toList, r, ⟨o, n, I.kIn a o hk, hc, hd, by simpa using hs⟩, ?_⟩
    have e := r.length
    simp only [Array.length_toList] at e
    omega
theorem Inv.tuple (I : Inv X pins σ H s) (h : SqT X.K H a xs) : ∃ its : List Value, Vals xs its ∧ IsTup s.heap a its.toArray ∧ xs.length ≤ sizeLine := by
  rcases h with h | ⟨o, its, n, hk, hc, hs, hz, r⟩
  · obtain ⟨z, its, r, p⟩ := h.ok I.hok
    exact ⟨its, r, p, z⟩
  · refine ⟨its.toList, r, ⟨o, I.kIn a o hk, hc, n, by simpa using hs⟩, ?_⟩
    have e := r.length
    simp only [Array.length_toList] at e
    omega
theorem Inv.list_inj (I : Inv X pins σ H s) (h : SqL X.K H a xs) (h' : SqL X.K H a ys) : xs = ys := by
  obtain ⟨its, r, ⟨o, n, e, _, _, d⟩, _⟩ := I.list h
  obtain ⟨its', r', ⟨o', n', e', _, _, d'⟩, _⟩ := I.list h'
  rw [e] at e'; cases e'
  rw [d] at d'
  injection d' with d1 _
  have : its = its' := by simpa using congrArg Array.toList d1
  subst this
  exact r.inj r'
theorem Inv.tuple_inj (I : Inv X pins σ H s) (h : SqT X.K H a xs) (h' : SqT X.K H a ys) : xs = ys := by
  obtain ⟨its, r, ⟨o, e, _, n, d⟩, _⟩ := I.tuple h
  obtain ⟨its', r', ⟨o', e', _, n', d'⟩, _⟩ := I.tuple h'
  rw [e] at e'; cases e'
  rw [d] at d'
  injection d' with d1 _
  have : its = its' := by simpa using congrArg Array.toList d1
  subst this
  exact r.inj r'
end
abbrev Cx.wish (X : Cx) (E : Value → Shared → Prop) : Cx := { X with xe := E }
abbrev Cx.nox (X : Cx) : Cx := X.wish fun _ _ => False
theorem Cx.Ok.wish {X : Cx} (ok : X.Ok) (E : Value → Shared → Prop) : (X.wish E).Ok :=
  ⟨ok.mod, ok.kind, ok.glob, ok.blt, ok.above, ok.inj, ok.has, ok.cab, ok.hd, ok.frames, ok.stk, ok.exf, ok.bs, ok.bsz, ok.noex, ok.exfs, ok.funs, ok.frf⟩
theorem Cx.Ok.unwish {X : Cx} {E : Value → Shared → Prop} (ok : (X.wish E).Ok) : X.Ok :=
  ⟨ok.mod, ok.kind, ok.glob, ok.blt, ok.above, ok.inj, ok.has, ok.cab, ok.hd, ok.frames, ok.stk, ok.exf, ok.bs, ok.bsz, ok.noex, ok.exfs, ok.funs, ok.frf⟩
section
variable {X : Cx} {pins : List (Addr × Obj)} {σ : St} {H : Hp} {s : Shared} {E : Value → Shared → Prop}
theorem Inv.wish (I : Inv X pins σ H s) (E : Value → Shared → Prop) : Inv (X.wish E) pins σ H s := ⟨I.ok.wish E, I.os, I.bare, I.base, I.loc, I.cell, I.free, I.freeC, I.pin, I.hok, I.len⟩
theorem Inv.unwish (I : Inv (X.wish E) pins σ H s) : Inv X pins σ H s := ⟨I.ok.unwish, I.os, I.bare, I.base, I.loc, I.cell, I.free, I.freeC, I.pin, I.hok, I.len⟩
theorem SP.unwish {D : Ends} {f : Flow} {s' : Shared} (h : SP (X.wish E) pins D f s') : SP X pins D f s' := by
  cases f with
  | next => obtain ⟨σ', H', I, q⟩ := h; exact ⟨σ', H', I.unwish, q⟩
  | brk => obtain ⟨σ', H', I, q⟩ := h; exact ⟨σ', H', I.unwish, q⟩
  | cont => obtain ⟨σ', H', I, q⟩ := h; exact ⟨σ', H', I.unwish, q⟩
  | ret u => obtain ⟨v, σ', H', I, r, q⟩ := h; exact ⟨v, σ', H', I.unwish, r, q⟩
theorem PSs.nox {st : List Stmt} {t : TS} (h : PSs X.nox st t) : PSs X st t := fun pins s σ H D I hw =>
  wpAny_mono (h pins s σ H D (I.wish _) hw) (fun _ _ q => q.unwish) fun _ _ z => False.elim z
end
section
variable {X : Cx} {st : Stmt} {rest : List Stmt} {t u : TS} {e : Expr} {te : TE} {pos : Pos}
def tNext : TS := fun D σ H => D.nx σ H
def tSeq (t u : TS) : TS := fun D σ H => t { D with nx := u D } σ H
theorem pss_nil : PSs X [] tNext := fun _ _ σ H _ I h => wpAny_execs_nil ⟨σ, H, I, h⟩
theorem pss_cons (h1 : PS X st t) (h2 : PSs X rest u) : PSs X (st :: rest) (tSeq t u) := by
  intro pins s σ H D I h
  refine wpAny_execs_cons (thn (h1 pins s σ H { D with nx := u D } I h) fun f s1 q => ?_)
  cases f with
  | next =>
    obtain ⟨σ', H', I', q⟩ := q
    exact h2 pins s1 σ' H' D I' q
  | ret v => exact q
  | brk => exact q
  | cont => exact q
theorem pss_one (h1 : PS X st t) : PSs X [st] t := by
  intro pins s σ H D I h
  refine wpAny_execs_cons (thn (h1 pins s σ H D I h) fun f s1 q => ?_)
  cases f with
  | next => exact wpAny_execs_nil q
  | ret v => exact q
  | brk => exact q
  | cont => exact q
theorem Inv.quiet {pins : List (Addr × Obj)} {σ : St} {H : Hp} {s : Shared} (I : Inv X pins σ H s) : interactive X.env = false := by simp [interactive, I.ok.kind]
def tDrop (te : TE) : TS := fun D σ H => te σ H fun _ H1 => D.nx σ H1
theorem ps_expr (he : PE X e te) (hs : swapsWith e none pos.line X.env = pure false := by rfl) : PS X (.Expr e pos) (tDrop te) := by
  intro pins s σ H D I h
  exact wpAny_Expr_any (thn (he pins s σ H _ I h) fun v s1 ⟨x, H1, I1, r1, q1⟩ => ⟨σ, H1, I1, q1⟩) I.quiet hs
def tRet (te : TE) : TS := fun D σ H => te σ H D.rt
theorem ps_ret (he : PE X e te) : PS X (.Return (some e) pos) (tRet te) := by
  intro pins s σ H D I h
  exact wpAny_Return_some (thn (he pins s σ H _ I h) fun v s1 ⟨x, H1, I1, r1, q1⟩ => ⟨x, σ, H1, I1, r1, q1⟩)
def tIfS (c : TT) (t u : TS) : TS := fun D σ H => c σ H fun b H1 => if b = true then t D σ H1 else u D σ H1
theorem ps_if {c : Expr} {a b : List Stmt} {tc : TT} (hc : PT X c tc) (ha : PSs X a t) (hb : PSs X b u) : PS X (.If c a b pos) (tIfS tc t u) := by
  intro pins s σ H D I h
  refine wpAny_If (thn (hc pins s σ H _ I h) fun d s1 ⟨H1, I1, q1⟩ => ?_)
  cases d with
  | true => exact ha pins s1 σ H1 D I1 q1
  | false => exact hb pins s1 σ H1 D I1 q1
end
abbrev TG := V → St → Hp → (St → Hp → Prop) → Prop
abbrev TGs := List V → St → Hp → (St → Hp → Prop) → Prop
def PG (X : Cx) (target : Expr) (t : TG) : Prop :=
  ∀ (pins : List (Addr × Obj)) (s : Shared) (σ : St) (H : Hp) (v : V) (u : Value) (Q : St → Hp → Prop), Inv X pins σ H s → RelV v u → t v σ H Q →
    wpAny (model X.prog X.w) X.A (assign target X.env u) (fun _ s' => ∃ σ' H', Inv X pins σ' H' s' ∧ Q σ' H') X.xe s
def PGs (X : Cx) (ts : List Expr) (t : TGs) : Prop :=
  ∀ (pins : List (Addr × Obj)) (s : Shared) (σ : St) (H : Hp) (vs : List V) (us : List Value) (Q : St → Hp → Prop), Inv X pins σ H s → Vals vs us → t vs σ H Q →
    wpAny (model X.prog X.w) X.A (assignInOrder ((assignEach ts X.env).map (·.2)) us) (fun _ s' => ∃ σ' H', Inv X pins σ' H' s' ∧ Q σ' H') X.xe s
abbrev TSet := V → V → V → Hp → (Hp → Prop) → Prop
def PSet (X : Cx) (t : TSet) : Prop :=
  ∀ (pins : List (Addr × Obj)) (s : Shared) (σ : St) (H : Hp) (o i v : V) (ov iv u : Value) (Q : Hp → Prop), Inv X pins σ H s → RelV o ov → RelV i iv → RelV v u → t o i v H Q →
    wpAny (model X.prog X.w) X.A (setItem ov iv u) (fun _ s' => ∃ H', Inv X pins σ H' s' ∧ Q H') X.xe s
section
variable {X : Cx} {pos : Pos}
def gName (i : Nat) : TG := fun v σ H Q => Q (σ.set i (some v)) H
theorem pg_name {i : Nat} {x : Str} (hN : X.N.Nodup) (hi : X.N[i]? = some x) (hx : Loc X.env.scope x) (hf : X.fn x = true ∨ X.env.scope.names.lookup x = some .local := by first | exact .inl rfl | exact .inr rfl | assumption) : PG X (.Name x pos) (gName i) := by
  intro pins s σ H v u Q I r h
  exact wpAny_assign_Name (store_ok I hN hi hx r (fun s' I' => ⟨_, H, I', h⟩) hf)
def gNil : TGs := fun vs σ H Q => vs = [] ∧ Q σ H
def gCons (t : TG) (u : TGs) : TGs := fun vs σ H Q => ∃ v r, vs = v :: r ∧ t v σ H fun σ' H' => u r σ' H' Q
theorem pgs_nil : PGs X [] gNil := by
  intro pins s σ H vs us Q I r h
  obtain ⟨e, h⟩ := h
  subst e
  cases r
  exact assignInOrder_nil ⟨σ, H, I, h⟩
theorem pgs_cons {e : Expr} {es : List Expr} {t : TG} {u : TGs} (h1 : PG X e t) (h2 : PGs X es u)
    (hs : (assignEach (e :: es) X.env).map (·.2) = assign e X.env :: (assignEach es X.env).map (·.2) := by rfl) : PGs X (e :: es) (gCons t u) := by
  intro pins s σ H vs us Q I r h
  obtain ⟨v, vr, e1, h⟩ := h
  subst e1
  cases r with
  | cons r rr =>
    rw [hs]
    refine assignInOrder_cons (thn (h1 pins s σ H _ _ _ I r h) fun _ s1 ⟨σ1, H1, I1, q1⟩ => ?_)
    exact h2 pins s1 σ1 H1 _ _ Q I1 rr q1
def gTup (K : PySem.W.Frag) (n : Nat) (t : TGs) : TG := fun v σ H Q => ∃ a xs, v = .ref a ∧ SqT K H a xs ∧ xs.length = n ∧ t xs σ H Q
theorem pg_tup {es : List Expr} {k : Nat} {t : TGs} {n : Nat} (hc : X.calm = true) (h : PGs X es t)
    (hn : (assignEach es X.env).length = n := by rfl) (hst : (assignEach es X.env).findIdx? (·.1) = none := by rfl) : PG X (.Tuple es k pos) (gTup X.K n t) := by
  intro pins s σ H v u Q I r hw
  obtain ⟨a, xs, e1, hq, hl, hw⟩ := hw
  subst e1
  cases r
  obtain ⟨its, rv, ht, hz⟩ := I.tuple hq
  refine assign_Tuple_tuple (I.ok.hd hc) ht (by simp [hn, ← hl, rv.length]) hst fun h' hx => ?_
  have I1 : Inv X pins σ H { s with heap := h' } := I.kept (t' := s.toks) fun b o e => hx b o (Nat.ne_of_lt (Heap.lt_size e)) e
  exact h pins _ σ H xs _ Q I1 (by simpa using rv) hw
def gSub (to ti : TE) (t : TSet) : TG := fun v σ H Q => to σ H fun o H1 => ti σ H1 fun i H2 => t o i v H2 fun H3 => Q σ H3
theorem pg_sub {o i : Expr} {to ti : TE} {t : TSet} (ho : PE X o to) (hi : PE X i ti) (hs : PSet X t)
    (ha : ∀ v, assign (.Subscript o i pos) X.env v = (do
      let ov ← holding [v] (eval o X.env)
      let iv ← holding [v, ov] (eval i X.env)
      standAt pos
      holding [v, ov, iv] (setItem ov iv v)
      release [v, ov, iv] []) := by intro _; rfl) : PG X (.Subscript o i pos) (gSub to ti t) := by
  intro pins s σ H v u Q I r h
  rw [ha]
  refine wpAny_bind (wpAny_holding (thn (ho pins s σ H _ I h) fun ov s1 ⟨x, H1, I1, r1, q1⟩ => ?_))
  refine wpAny_bind (wpAny_holding (thn (hi pins s1 σ H1 _ I1 q1) fun iv s2 ⟨y, H2, I2, r2, q2⟩ => ?_))
  refine wpAny_bind (wpAny_standAt (wpAny_bind (wpAny_holding (thn (hs pins s2 σ H2 x y v ov iv u _ I2 r1 r2 r q2) fun _ s3 ⟨H3, I3, q3⟩ => ?_))))
  exact wpAny_release ⟨σ, H3, I3, q3⟩
def tAsg (te : TE) (g : TG) : TS := fun D σ H => te σ H fun x H1 => g x σ H1 D.nx
theorem ps_asg {tg e : Expr} {te : TE} {g : TG} (he : PE X e te) (hg : PG X tg g) (hs : swapsWithSole [tg] e pos.line X.env = pure false := by rfl) (hw : swappedStores [tg] e X.env = pure none := by rfl)
    (h1 : (assignEach [tg] X.env).map (·.2) = [assign tg X.env] := by rfl) : PS X (.Assign [tg] e pos) (tAsg te g) := by
  intro pins s σ H D I h
  refine wpAny_Assign_stores (thn (he pins s σ H _ I h) fun v s1 ⟨x, H1, I1, r1, q1⟩ => ?_) hs hw
  rw [h1]
  exact thn (hg pins s1 σ H1 x v _ I1 r1 q1) fun _ s2 q => q
theorem ps_set {i : Nat} {x : Str} {e : Expr} {te : TE} {pos' : Pos} (hN : X.N.Nodup) (hi : X.N[i]? = some x) (hx : Loc X.env.scope x) (he : PE X e te) (hs : swapsWith e (some (.Name x pos')) pos.line X.env = pure false := by rfl) (hf : X.fn x = true ∨ X.env.scope.names.lookup x = some .local := by first | exact .inl rfl | exact .inr rfl | assumption) :
    PS X (.Assign [.Name x pos'] e pos) (tAsg te (gName i)) := by
  intro pins s σ H D I h
  refine wpAny_Assign_Name (thn (he pins s σ H _ I h) fun v s1 ⟨y, H1, I1, r1, q1⟩ => ?_) hs
  exact store_ok I1 hN hi hx r1 (fun s2 I2 => ⟨_, H1, I2, q1⟩) hf
end
section
variable {X : Cx} {pos : Pos}
end
structure It where
  go : Nat → Hp → Prop
  yld : Nat → Hp → V → Hp → Prop
  stop : Nat → Hp → Prop
def FpOk (X : Cx) (pins : List (Addr × Obj)) (H : Hp) (b : Addr) : Prop :=
  H b = none ∧ b ≠ X.env.locals ∧ b ∉ X.fs ∧ (b ∈ X.ex ∨ X.s₀.heap.objs.size ≤ b) ∧ (∀ x c, X.env.cells.lookup x = some c → c ≠ b) ∧ ∀ p ∈ X.pn ++ pins, p.1 ≠ b
theorem Inv.fpOk {X : Cx} {pins : List (Addr × Obj)} {σ : St} {H H' : Hp} {s : Shared} {b : Addr} (I : Inv X pins σ H s) (hb : s.heap.objs.size ≤ b) (hn : H' b = none) : FpOk X pins H' b := by
  refine ⟨hn, Nat.ne_of_gt (Nat.lt_of_lt_of_le I.lt hb), I.nofs hb, .inr (Nat.le_trans I.sz hb), fun x c e z => ?_, fun p hp z => ?_⟩
  · obtain ⟨v, q⟩ := I.cell x c e
    exact absurd (Nat.lt_of_lt_of_le q.lt (by rw [z]; exact hb)) (Nat.lt_irrefl _)
  · exact absurd (Nat.lt_of_lt_of_le (Heap.lt_size (I.pin p hp).1) (by rw [z]; exact hb)) (Nat.lt_irrefl _)
structure Turn (P : Program) (w : World) (K : PySem.W.Frag) (tg : Expr) (J : It) (fp : List Addr) (it : Addr) (tn : Nat → Heap → Prop) : Prop where
  mem : it ∈ fp
  obj : ∀ i h, tn i h → ∀ b ∈ fp, ∃ o, h.get? b = some o ∧ ∀ v, o.data ≠ .cell v
  keep : ∀ i h h', tn i h → (∀ b ∈ fp, ∀ o, h.get? b = some o → h'.get? b = some o) → tn i h'
  item : ∀ (X : Cx), X.prog = P → X.w = w → X.K = K → X.calm = true → ∀ (i : Nat) (pins : List (Addr × Obj)) (s : Shared) (σ : St) (H : Hp) (E : Value → Shared → Prop), Inv X pins σ H s → (∀ b ∈ fp, FpOk X pins H b) → tn i s.heap → J.go i H →
    wpAny (model P w) X.A (pyNext (.ref it)) (fun r s1 => ∃ u, r = some u ∧
      wpAny (model P w) X.A (letOwnedTupleGo tg (.ref it) u) (fun _ s2 => ∃ x H', Inv X pins σ H' s2 ∧ RelV x u ∧ J.yld i H x H' ∧ tn (i + 1) s2.heap ∧ ∀ b ∈ fp, H' b = none) E s1) E s
  done : ∀ (X : Cx), X.prog = P → X.w = w → X.K = K → X.calm = true → ∀ (i : Nat) (pins : List (Addr × Obj)) (s : Shared) (σ : St) (H : Hp) (E : Value → Shared → Prop), Inv X pins σ H s → (∀ b ∈ fp, FpOk X pins H b) → tn i s.heap → J.stop i H →
    wpAny (model P w) X.A (pyNext (.ref it)) (fun r s1 => r = none ∧ Inv X pins σ H s1) E s
  self : ∀ (A : Around) (i : Nat) (s : Shared) (Q : Value → Shared → Prop) (E : Value → Shared → Prop), tn i s.heap → Q (.ref it) s → wpAny (model P w) A (pyIter (.ref it)) Q E s
abbrev TI := St → Hp → (It → Hp → Prop) → Prop
def PIE (X : Cx) (pins : List (Addr × Obj)) (σ : St) (tg : Expr) (R : It → Hp → Prop) (itv : Value) (s2 : Shared) : Prop :=
  ∃ (it : Addr) (fp : List Addr) (tn : Nat → Heap → Prop) (J : It) (H' : Hp), itv = .ref it ∧ Inv X pins σ H' s2 ∧ Turn X.prog X.w X.K tg J fp it tn ∧ tn 0 s2.heap ∧ (∀ b ∈ fp, FpOk X pins H' b) ∧ R J H'
def PI (X : Cx) (tg iter : Expr) (wi : TI) : Prop :=
  ∀ (pins : List (Addr × Obj)) (s : Shared) (σ : St) (H : Hp) (R : It → Hp → Prop), Inv X pins σ H s → wi σ H R →
    wpAny (model X.prog X.w) X.A (eval iter X.env) (fun v s1 => wpAny (model X.prog X.w) X.A (pyIter v) (PIE X pins σ tg R) X.xe s1) X.xe s
theorem go_of {M : Model} {A : Around} {E : Value → Shared → Prop} {s : Shared} {tg : Expr} {it : Addr} {u : Value} {o : Obj} {n : String} {vs : Array Value} {Q : Unit → Shared → Prop} (ho : s.heap.get? it = some o) (hc : o.cls = .type n) (hd : o.data = .fields vs)
    (hn : ["enumerate", "zip", "dict_itemiterator", "dict_reverseitemiterator", "odict_iterator", "itertools.zip_longest", "itertools.pairwise"].contains n = false) (hQ : Q () s) : wpAny M A (letOwnedTupleGo tg (.ref it) u) Q E s := by
  unfold letOwnedTupleGo
  cases tg <;> first
    | exact wpAny_pure hQ
    | (cases u <;> first
        | exact wpAny_pure hQ
        | (refine wpAny_bind (wpAny_load ho ?_)
           rw [hc, hd]
           show wpAny M A (if (["enumerate", "zip", "dict_itemiterator", "dict_reverseitemiterator", "odict_iterator", "itertools.zip_longest", "itertools.pairwise"].contains n && vs[0]? == some (rawInt _)) = true then _ else _) Q E s
           rw [if_neg (by intro h; rw [hn, Bool.false_and] at h; cases h)]
           exact wpAny_pure hQ))
def Itl (K : PySem.W.Frag) (a : Addr) : It :=
  ⟨fun i H => ∃ xs x, SqL K H a xs ∧ xs[i]? = some x, fun i H x H' => H' = H ∧ ∀ xs, SqL K H a xs → xs[i]? = some x, fun i H => ∃ xs, SqL K H a xs ∧ xs.length ≤ i⟩
def Itt (K : PySem.W.Frag) (a : Addr) : It :=
  ⟨fun i H => ∃ xs x, SqT K H a xs ∧ xs[i]? = some x, fun i H x H' => H' = H ∧ ∀ xs, SqT K H a xs → xs[i]? = some x, fun i H => ∃ xs, SqT K H a xs ∧ xs.length ≤ i⟩
def Itr (lo : Int) (n : Nat) : It := ⟨fun i _ => i < n, fun i H x H' => H' = H ∧ x = .int (lo + i), fun i _ => n ≤ i⟩
theorem turn_list {P : Program} {w : World} {K : PySem.W.Frag} {tg : Expr} (a it : Addr) : Turn P w K tg (Itl K a) [it] it (fun i h => h.IsListIter it a i) where
  mem := by simp
  obj := fun i h st b hb => by
    have e : b = it := by simpa using hb
    subst e
    obtain ⟨o, e, c, d⟩ := st
    exact ⟨o, e, fun v z => by rw [d] at z; cases z⟩
  keep := fun i h h' st k => st.at fun o e => k it (by simp) o e
  item := by
    intro X hP hw hK hc i pins s σ H E I hf st hg
    subst hP hw hK
    obtain ⟨xs, x, hq, hx⟩ := hg
    obtain ⟨its, rv, p, hz⟩ := I.list hq
    obtain ⟨u, hu, ru⟩ := rv.get hx
    obtain ⟨f0, f1, f2, f3, f4, f5⟩ := hf it (by simp)
    refine wpAny_pyNext_list_item st p.isList (x := u) (by simpa using hu) fun h' st' sb => ?_
    have I1 : Inv X pins σ H { s with heap := h' } := I.turned (t' := s.toks) (fun b o hb e => (sb.2 b hb).trans e) f0 f1 f3 f4 f5
    obtain ⟨o, e, c, d⟩ := id st'
    exact ⟨u, rfl, go_of (s := { s with heap := h' }) e c d (by decide) ⟨x, H, I1, ru, ⟨rfl, fun ys hy => by rw [I.list_inj hy hq]; exact hx⟩, st', fun b hb => (hf b hb).1⟩⟩
  done := by
    intro X hP hw hK hc i pins s σ H E I hf st hg
    subst hP hw hK
    obtain ⟨xs, hq, hx⟩ := hg
    obtain ⟨its, rv, p, hz⟩ := I.list hq
    obtain ⟨f0, f1, f2, f3, f4, f5⟩ := hf it (by simp)
    have hl := rv.length
    exact wpAny_pyNext_list_end (I.ok.hd hc) st p.isList (by simp; omega) fun h' eb => ⟨rfl, I.turned (t' := s.toks) (fun b o hb e => eb b o hb e) f0 f1 f3 f4 f5⟩
  self := fun _ _ _ _ _ st h => wpAny_pyIter_listiter st h
theorem turn_tuple {P : Program} {w : World} {K : PySem.W.Frag} {tg : Expr} (a it : Addr) : Turn P w K tg (Itt K a) [it] it (fun i h => h.IsTupleIter it a i) where
  mem := by simp
  obj := fun i h st b hb => by
    have e : b = it := by simpa using hb
    subst e
    obtain ⟨o, e, c, d⟩ := st
    exact ⟨o, e, fun v z => by rw [d] at z; cases z⟩
  keep := fun i h h' st k => st.at fun o e => k it (by simp) o e
  item := by
    intro X hP hw hK hc i pins s σ H E I hf st hg
    subst hP hw hK
    obtain ⟨xs, x, hq, hx⟩ := hg
    obtain ⟨its, rv, p, hz⟩ := I.tuple hq
    obtain ⟨u, hu, ru⟩ := rv.get hx
    obtain ⟨f0, f1, f2, f3, f4, f5⟩ := hf it (by simp)
    refine wpAny_pyNext_tuple_item st (show s.heap.IsTuple a its.toArray from p) (x := u) (by simpa using hu) fun h' st' sb => ?_
    have I1 : Inv X pins σ H { s with heap := h' } := I.turned (t' := s.toks) (fun b o hb e => (sb.2 b hb).trans e) f0 f1 f3 f4 f5
    obtain ⟨o, e, c, d⟩ := id st'
    exact ⟨u, rfl, go_of (s := { s with heap := h' }) e c d (by decide) ⟨x, H, I1, ru, ⟨rfl, fun ys hy => by rw [I.tuple_inj hy hq]; exact hx⟩, st', fun b hb => (hf b hb).1⟩⟩
  done := by
    intro X hP hw hK hc i pins s σ H E I hf st hg
    subst hP hw hK
    obtain ⟨xs, hq, hx⟩ := hg
    obtain ⟨its, rv, p, hz⟩ := I.tuple hq
    obtain ⟨f0, f1, f2, f3, f4, f5⟩ := hf it (by simp)
    have hl := rv.length
    exact wpAny_pyNext_tuple_end (I.ok.hd hc) st (show s.heap.IsTuple a its.toArray from p) (by simp; omega) fun h' eb => ⟨rfl, I.turned (t' := s.toks) (fun b o hb e => eb b o hb e) f0 f1 f3 f4 f5⟩
  self := fun _ _ _ _ _ st h => wpAny_pyIter_tupleiter st h
theorem turn_range {P : Program} {w : World} {K : PySem.W.Frag} {tg : Expr} (it : Addr) (lo : Int) (n : Nat) : Turn P w K tg (Itr lo n) [it] it (fun i h => IsRangeIter h it (lo + (i : Nat) * 1) ((n : Int) - (i : Nat)) 1) where
  mem := by simp
  obj := fun i h st b hb => by
    have e : b = it := by simpa using hb
    subst e
    exact ⟨_, st, fun v z => by
      have z' : Data.fields _ = Data.cell v := z
      cases z'⟩
  keep := fun i h h' st k => k it (by simp) _ st
  item := by
    intro X hP hw hK hc i pins s σ H E I hf st hg
    subst hP hw hK
    obtain ⟨f0, f1, f2, f3, f4, f5⟩ := hf it (by simp)
    have W := Walks.range (prog := X.prog) (w := X.w) (I.ok.hd hc) it lo 1 n
    refine W.item i s _ _ hg st fun v h' tk hv st' kk => ?_
    obtain ⟨t, rfl⟩ := hv
    have I1 : Inv X pins σ H { s with heap := h', toks := tk } := I.turned (fun b o hb e => kk b o (by simpa using hb) e) f0 f1 f3 f4 f5
    refine ⟨_, rfl, go_of (s := { s with heap := h', toks := tk }) (n := "range_iterator") st' rfl rfl (by decide) ⟨.int (lo + i), H, I1, ⟨t, ?_⟩, ⟨rfl, rfl⟩, st', fun b hb => (hf b hb).1⟩⟩
    rw [Int.mul_one]
  done := by
    intro X hP hw hK hc i pins s σ H E I hf st hg
    subst hP hw hK
    obtain ⟨f0, f1, f2, f3, f4, f5⟩ := hf it (by simp)
    exact wpAny_pyNext_range_end (I.ok.hd hc) st (by have : n ≤ i := hg; omega) fun h' eb => ⟨rfl, I.turned (t' := s.toks) (fun b o hb e => eb b o hb e) f0 f1 f3 f4 f5⟩
  self := fun _ _ _ _ _ st h => wpAny_pyIter_rangeiter st h
end L2
namespace L2
open PySem PySem.Spec PyProof.Rows
section
variable {X : Cx} {tg : Expr}
def iList (K : PySem.W.Frag) (tl : TE) : TI := fun σ H R => tl σ H fun x H1 => ∃ a, x = .ref a ∧ (∃ xs, SqL K H1 a xs) ∧ R (Itl K a) H1
def iTup (K : PySem.W.Frag) (tl : TE) : TI := fun σ H R => tl σ H fun x H1 => ∃ a, x = .ref a ∧ (∃ xs, SqT K H1 a xs) ∧ R (Itt K a) H1
theorem pi_list {l : Expr} {tl : TE} (hl : PE X l tl) : PI X tg l (iList X.K tl) := by
  intro pins s σ H R I h
  refine thn (hl pins s σ H _ I h) fun v s1 ⟨x, H1, I1, r1, q1⟩ => ?_
  obtain ⟨a, e, ⟨xs, hq⟩, q⟩ := q1
  subst e
  cases r1
  obtain ⟨its, rv, p, hz⟩ := I1.list hq
  refine wpAny_pyIter_list p.isList ?_
  refine ⟨s1.heap.objs.size, [s1.heap.objs.size], _, _, H1, rfl, I1.kept (t' := s1.toks) fun b o e => Heap.get?_push_of_some _ e, turn_list a _, ⟨_, Heap.get?_push_size _ rfl, rfl, rfl⟩, fun b hb => ?_, q⟩
  have e : b = s1.heap.objs.size := by simpa using hb
  subst e
  exact I1.fpOk (Nat.le_refl _) (I1.hok.fresh (Nat.le_refl _))
theorem pi_tup {l : Expr} {tl : TE} (hl : PE X l tl) : PI X tg l (iTup X.K tl) := by
  intro pins s σ H R I h
  refine thn (hl pins s σ H _ I h) fun v s1 ⟨x, H1, I1, r1, q1⟩ => ?_
  obtain ⟨a, e, ⟨xs, hq⟩, q⟩ := q1
  subst e
  cases r1
  obtain ⟨its, rv, p, hz⟩ := I1.tuple hq
  refine wpAny_pyIter_tuple (show s1.heap.IsTuple a its.toArray from p) ?_
  refine ⟨s1.heap.objs.size, [s1.heap.objs.size], _, _, H1, rfl, I1.kept (t' := s1.toks) fun b o e => Heap.get?_push_of_some _ e, turn_tuple a _, ⟨_, Heap.get?_push_size _ rfl, rfl, rfl⟩, fun b hb => ?_, q⟩
  have e : b = s1.heap.objs.size := by simpa using hb
  subst e
  exact I1.fpOk (Nat.le_refl _) (I1.hok.fresh (Nat.le_refl _))
theorem range_it {pins : List (Addr × Obj)} {σ : St} {H : Hp} {s : Shared} {R : It → Hp → Prop} {E : Value → Shared → Prop} {lo hi : Int} {t u v : Tok} {tk : Nat} (I : Inv X pins σ H s) (h1 : -(2 ^ 62) ≤ lo) (h2 : lo < 2 ^ 62) (h3 : -(2 ^ 62) ≤ hi) (h4 : hi < 2 ^ 62)
    (q : R (Itr lo (hi - lo).toNat) H) : wpAny (model X.prog X.w) X.A (pyIter (.ref s.heap.objs.size)) (PIE X pins σ tg R) E { s with heap := s.heap.push { cls := .type "range", data := .fields #[.int lo t, .int hi u, .int 1 v] }, toks := tk } := by
  refine wpAny_pyIter_range (IsRange.new ..) (small_one h1 h2 h3 h4) ?_
  have I1 : Inv X pins σ H { s with heap := s.heap.push { cls := .type "range", data := .fields #[.int lo t, .int hi u, .int 1 v] }, toks := tk } := I.kept fun b o e => Heap.get?_push_of_some _ e
  refine ⟨(s.heap.push { cls := .type "range", data := .fields #[.int lo t, .int hi u, .int 1 v] }).objs.size, [(s.heap.push { cls := .type "range", data := .fields #[.int lo t, .int hi u, .int 1 v] }).objs.size], _, _, H, rfl,
    I1.kept (t' := tk) fun b o e => Heap.get?_push_of_some _ e, turn_range _ lo (hi - lo).toNat, ?_, fun b hb => ?_, q⟩
  · have e1 : lo + ((0 : Nat) : Int) * 1 = lo := by simp
    have e2 : (((hi - lo).toNat : Nat) : Int) - ((0 : Nat) : Int) = Builtin.Range.rangeSize lo hi 1 := by rw [rangeSize_one]; split <;> omega
    show IsRangeIter _ _ (lo + ((0 : Nat) : Int) * 1) ((((hi - lo).toNat : Nat) : Int) - ((0 : Nat) : Int)) 1
    rw [e1, e2]
    exact Heap.get?_push_size _ rfl
  · have e : b = (s.heap.push { cls := .type "range", data := .fields #[.int lo t, .int hi u, .int 1 v] }).objs.size := by simpa using hb
    subst e
    exact I1.fpOk (Nat.le_refl _) (I1.hok.fresh (Nat.le_refl _))
def iRng1 (ta : TA) : TI := fun σ H R => ta σ H fun vs H1 => ∃ j : Int, vs = [.int j] ∧ -(2 ^ 62) ≤ j ∧ j < 2 ^ 62 ∧ R (Itr 0 j.toNat) H1
theorem pi_range1 {a : Expr} {ta : TA} {p pos : Pos} (hg : Gl X "range") (hm : X.mg "range" = none) (ha : PA X [a] ta) (hs : starEach [a] X.env = [(false, eval a X.env)] := by rfl) : PI X tg (.Call (.Name "range" p) [a] [] pos) (iRng1 ta) := by
  intro pins s σ H R I h
  refine Call_ (ld_blt I hg hm boot_range (PyProof.Rows.callWith_type1 (thn (ha pos pins s σ H _ I h) fun us s1 ⟨vs, H1, I1, r1, q1⟩ => ?_) hs rfl))
  obtain ⟨j, e, q1, q2, q⟩ := q1
  subst e
  cases r1 with
  | cons r rr =>
    cases rr
    obtain ⟨t, rfl⟩ := r
    exact call_range_1 (range_it I1 (by omega) (by omega) q1 q2 (by simpa using q))
def tFor (wi : TI) (g : TG) (tb : TS) : TS := fun D σ H => wi σ H fun J H1 => ∃ W : Nat → Nat → St → Hp → Prop, (∃ m, W 0 m σ H1) ∧ ∀ i m σ H, W i m σ H →
  (J.stop i H ∧ D.nx σ H) ∨ (J.go i H ∧ ∃ N : St → Hp → Prop, (∀ σ' H', N σ' H' → ∃ m', m' < m ∧ W (i + 1) m' σ' H') ∧ ∀ x H', J.yld i H x H' → g x σ H' fun σ2 H2 => tb { D with nx := N, ct := N, bk := D.nx } σ2 H2)
def pinsAt (fp : List Addr) (h : Heap) : List (Addr × Obj) := fp.filterMap fun b => (h.get? b).map fun o => (b, o)
theorem mem_pinsAt {fp : List Addr} {h : Heap} {b : Addr} {o : Obj} (hb : b ∈ fp) (e : h.get? b = some o) : (b, o) ∈ pinsAt fp h := List.mem_filterMap.mpr ⟨b, hb, by rw [e]; rfl⟩
theorem of_pinsAt {fp : List Addr} {h : Heap} {p : Addr × Obj} (hp : p ∈ pinsAt fp h) : p.1 ∈ fp ∧ h.get? p.1 = some p.2 := by
  obtain ⟨b, hb, e⟩ := List.mem_filterMap.mp hp
  cases q : h.get? b with
  | none => rw [q] at e; cases e
  | some o =>
    rw [q] at e
    have e' : (b, o) = p := Option.some.inj e
    subst e'
    exact ⟨hb, q⟩
theorem Inv.pinned {pins : List (Addr × Obj)} {σ : St} {H : Hp} {s : Shared} {fp : List Addr} (I : Inv X pins σ H s) (hf : ∀ b ∈ fp, FpOk X pins H b) (ho : ∀ b ∈ fp, ∃ o, s.heap.get? b = some o ∧ ∀ v, o.data ≠ .cell v) : Inv X (pins ++ pinsAt fp s.heap) σ H s :=
  I.pins_of fun p hp => (List.mem_append.mp hp).elim (fun z => I.pin p (List.mem_append_right _ z)) fun z => by
    obtain ⟨hb, e⟩ := of_pinsAt z
    obtain ⟨f0, f1, f2, _⟩ := hf p.1 hb
    obtain ⟨o, e', d⟩ := ho p.1 hb
    rw [e] at e'; cases e'
    exact ⟨e, f0, f1, f2, d⟩
theorem Inv.unpinned {pins pl : List (Addr × Obj)} {σ : St} {H : Hp} {s : Shared} (I : Inv X (pins ++ pl) σ H s) : Inv X pins σ H s := I.pins_of fun p hp => I.pin p (List.mem_append_right _ (List.mem_append_left _ hp))
theorem ps_for {iter : Expr} {body : List Stmt} {wi : TI} {g : TG} {tb : TS} {pos : Pos} (hp : PassesOwn (model X.prog X.w) X.A X.env X.xe) (hc : X.calm = true) (hi : PI X tg iter wi) (hg : PG X tg g) (hb : PSs X body tb)
    (hs : ∀ x, foldedSetIterable iter X.env x = pure x := by intro _; rfl) : PS X (.For tg iter body [] pos) (tFor wi g tb) := by
  intro pins s σ H D I h
  refine wpAny_For (thn (hi pins s σ H _ I h) fun v s1 h1 => thn h1 fun itv s2 h2 => ?_) hs
  obtain ⟨it, fp, tn, J, H2, e, I2, T, st2, f2, W, ⟨m0, w0⟩, turn⟩ := h2
  subst e
  have stat : ∀ {H' : Hp}, (∀ b ∈ fp, H' b = none) → ∀ b ∈ fp, FpOk X pins H' b := fun hn b hb => ⟨hn b hb, (f2 b hb).2⟩
  refine codeAny_forLoop_any (fun n s' => ∃ i σ' H', Inv X pins σ' H' s' ∧ tn i s'.heap ∧ (∀ b ∈ fp, H' b = none) ∧ W i n σ' H') ?_ m0 ⟨0, σ, H2, I2, st2, fun b hb => (f2 b hb).1, w0⟩
  rintro n s3 ⟨i, σ3, H3, I3, st3, fr3, w3⟩
  rcases turn i n σ3 H3 w3 with ⟨stop, qn⟩ | ⟨go, N, hN, step⟩
  · refine wpAny_passesOwn hp (thn (T.done X rfl rfl rfl hc i pins s3 σ3 H3 X.xe I3 (stat fr3) st3 stop) fun r s4 ⟨hr, I4⟩ => ?_)
    subst hr
    exact wpAny_execs_nil ⟨σ3, H3, I4, qn⟩
  · refine wpAny_passesOwn hp (thn (T.item X rfl rfl rfl hc i pins s3 σ3 H3 X.xe I3 (stat fr3) st3 go) fun r s4 ⟨u, hr, h4⟩ => ?_)
    subst hr
    refine wpAny_passesOwn hp (thn h4 fun _ s5 ⟨x, H5, I5, r5, y5, st5, fr5⟩ => ?_)
    have I5' := I5.pinned (stat fr5) (T.obj _ _ st5)
    refine wpAny_passesOwn hp (thn (hg _ s5 σ3 H5 x u _ I5' r5 (step x H5 y5)) fun _ s6 ⟨σ6, H6, I6, q6⟩ => ?_)
    refine wpAny_passesOwn hp (thn (hb _ s6 σ6 H6 _ I6 q6) fun f s7 q7 => ?_)
    have again : ∀ {σ7 : St} {H7 : Hp}, Inv X (pins ++ pinsAt fp s5.heap) σ7 H7 s7 → N σ7 H7 → ∃ m, m < n ∧ ∃ i σ' H', Inv X pins σ' H' s7 ∧ tn i s7.heap ∧ (∀ b ∈ fp, H' b = none) ∧ W i m σ' H' := fun {σ7 H7} I7 n7 => by
      obtain ⟨m', hm, w7⟩ := hN σ7 H7 n7
      refine ⟨m', hm, i + 1, σ7, H7, I7.unpinned, T.keep _ _ _ st5 fun b hb o e => (I7.pin (b, o) (List.mem_append_right _ (List.mem_append_right _ (mem_pinsAt hb e)))).1, fun b hb => ?_, w7⟩
      obtain ⟨o, e, d⟩ := T.obj _ _ st5 b hb
      exact (I7.pin (b, o) (List.mem_append_right _ (List.mem_append_right _ (mem_pinsAt hb e)))).2.1
    cases f with
    | next => obtain ⟨σ7, H7, I7, n7⟩ := q7; exact again I7 n7
    | cont => obtain ⟨σ7, H7, I7, n7⟩ := q7; exact again I7 n7
    | brk => obtain ⟨σ7, H7, I7, q7⟩ := q7; exact ⟨σ7, H7, I7.unpinned, q7⟩
    | ret v => obtain ⟨x7, σ7, H7, I7, r7, q7⟩ := q7; exact ⟨x7, σ7, H7, I7.unpinned, r7, q7⟩
end
theorem for_list {K : PySem.W.Frag} {a : Addr} {xs : List V} {g : TG} {tb : TS} {D : Ends} {σ : St} {H : Hp} (Pv : Nat → St → Hp → Prop) (h0 : Pv 0 σ H) (hl : ∀ i σ H, i ≤ xs.length → Pv i σ H → SqL K H a xs)
    (hs : ∀ i x σ H, xs[i]? = some x → Pv i σ H → g x σ H fun σ2 H2 => tb { D with nx := Pv (i + 1), ct := Pv (i + 1), bk := D.nx } σ2 H2) (hd : ∀ σ H, Pv xs.length σ H → D.nx σ H) :
    ∃ W : Nat → Nat → St → Hp → Prop, (∃ m, W 0 m σ H) ∧ ∀ i m σ H, W i m σ H →
      ((Itl K a).stop i H ∧ D.nx σ H) ∨ ((Itl K a).go i H ∧ ∃ N : St → Hp → Prop, (∀ σ' H', N σ' H' → ∃ m', m' < m ∧ W (i + 1) m' σ' H') ∧ ∀ x H', (Itl K a).yld i H x H' → g x σ H' fun σ2 H2 => tb { D with nx := N, ct := N, bk := D.nx } σ2 H2) := by
  refine ⟨fun i m σ H => m = xs.length - i ∧ i ≤ xs.length ∧ Pv i σ H, ⟨xs.length, by simp, Nat.zero_le _, h0⟩, ?_⟩
  rintro i m σ H ⟨rfl, hi, p⟩
  have q := hl i σ H hi p
  by_cases hlt : i < xs.length
  · refine .inr ⟨⟨xs, xs[i], q, by simp [hlt]⟩, Pv (i + 1), fun σ' H' p' => ⟨xs.length - (i + 1), by omega, rfl, hlt, p'⟩, fun x H' y => ?_⟩
    obtain ⟨e, y⟩ := y
    subst e
    exact hs i x σ _ (y xs q) p
  · have e : i = xs.length := by omega
    subst e
    exact .inl ⟨⟨xs, q, Nat.le_refl _⟩, hd σ H p⟩
theorem for_range {lo : Int} {n : Nat} {g : TG} {tb : TS} {D : Ends} {σ : St} {H : Hp} (Pv : Nat → St → Hp → Prop) (h0 : Pv 0 σ H)
    (hs : ∀ i σ H, i < n → Pv i σ H → g (.int (lo + i)) σ H fun σ2 H2 => tb { D with nx := Pv (i + 1), ct := Pv (i + 1), bk := D.nx } σ2 H2) (hd : ∀ σ H, Pv n σ H → D.nx σ H) :
    ∃ W : Nat → Nat → St → Hp → Prop, (∃ m, W 0 m σ H) ∧ ∀ i m σ H, W i m σ H →
      ((Itr lo n).stop i H ∧ D.nx σ H) ∨ ((Itr lo n).go i H ∧ ∃ N : St → Hp → Prop, (∀ σ' H', N σ' H' → ∃ m', m' < m ∧ W (i + 1) m' σ' H') ∧ ∀ x H', (Itr lo n).yld i H x H' → g x σ H' fun σ2 H2 => tb { D with nx := N, ct := N, bk := D.nx } σ2 H2) := by
  refine ⟨fun i m σ H => m = n - i ∧ i ≤ n ∧ Pv i σ H, ⟨n, by simp, Nat.zero_le _, h0⟩, ?_⟩
  rintro i m σ H ⟨rfl, hi, p⟩
  by_cases hlt : i < n
  · refine .inr ⟨hlt, Pv (i + 1), fun σ' H' p' => ⟨n - (i + 1), by omega, rfl, hlt, p'⟩, fun x H' y => ?_⟩
    obtain ⟨e, y⟩ := y
    subst e y
    exact hs i σ _ hlt p
  · have e : i = n := by omega
    subst e
    exact .inl ⟨Nat.le_refl _, hd σ H p⟩
end L2
namespace L2
open PySem PySem.Spec PyProof.Rows
abbrev R2 := V → V → Hp → VK → Prop
def OpR (X : Cx) (f : Value → Value → Sem Value) (r : R2) : Prop :=
  ∀ (pins : List (Addr × Obj)) (s : Shared) (σ : St) (H : Hp) (x y : V) (v u : Value) (Q : VK), Inv X pins σ H s → RelV x v → RelV y u → r x y H Q →
    wpAny (model X.prog X.w) X.A (f v u) (EP X pins σ Q) X.xe s
def UnR (X : Cx) (f : Value → Sem Value) (r : V → Hp → VK → Prop) : Prop :=
  ∀ (pins : List (Addr × Obj)) (s : Shared) (σ : St) (H : Hp) (x : V) (v : Value) (Q : VK), Inv X pins σ H s → RelV x v → r x H Q →
    wpAny (model X.prog X.w) X.A (f v) (EP X pins σ Q) X.xe s
def CallR (X : Cx) (f : Value) (r : List V → Hp → VK → Prop) : Prop :=
  ∀ (pins : List (Addr × Obj)) (s : Shared) (σ : St) (H : Hp) (xs : List V) (us : List Value) (Q : VK), Inv X pins σ H s → Vals xs us → r xs H Q →
    wpAny (model X.prog X.w) X.A (call f us) (EP X pins σ Q) X.xe s
def tOp (r : R2) (ta tb : TE) : TE := fun σ H Q => ta σ H fun x H1 => tb σ H1 fun y H2 => r x y H2 Q
def tUn (r : V → Hp → VK → Prop) (ta : TE) : TE := fun σ H Q => ta σ H fun x H1 => r x H1 Q
def rI (C : Int → Int → Prop) (g : Int → Int → V) : R2 := fun x y H Q => ∃ i j, x = .int i ∧ y = .int j ∧ C i j ∧ Q (g i j) H
def rI0 (g : Int → Int → V) : R2 := fun x y H Q => ∃ i j, x = .int i ∧ y = .int j ∧ Q (g i j) H
def rU (g : Int → V) : V → Hp → VK → Prop := fun x H Q => ∃ i, x = .int i ∧ Q (g i) H
section
variable {X : Cx} {a b c : Expr} {ta tb tc : TE} {pos : Pos}
theorem binT (ha : PE X a ta) (hb : PE X b tb) {pins : List (Addr × Obj)} {s : Shared} {σ : St} {H : Hp} {R : V → V → Hp → Prop} (I : Inv X pins σ H s)
    (h : ta σ H fun x H1 => tb σ H1 fun y H2 => R x y H2) {Q : Value → Shared → Prop} {f : Value → Value → Sem Value}
    (hf : ∀ v u s2 x y H2, Inv X pins σ H2 s2 → RelV x v → RelV y u → R x y H2 → wpAny (model X.prog X.w) X.A (f v u) Q X.xe s2) :
    wpAny (model X.prog X.w) X.A (eval a X.env) (fun v s₁ => wpAny (model X.prog X.w) X.A (eval b X.env) (fun u s₂ => wpAny (model X.prog X.w) X.A (f v u) Q X.xe s₂) X.xe s₁) X.xe s := by
  refine thn (ha pins s σ H _ I h) fun v s1 ⟨x, H1, I1, r1, q1⟩ => ?_
  refine thn (hb pins s1 σ H1 _ I1 q1) fun u s2 ⟨y, H2, I2, r2, q2⟩ => ?_
  exact hf v u s2 x y H2 I2 r1 r2 q2
theorem pe_op {op : Operator} {r : R2} (ho : OpR X (binaryOp op) r) (ha : PE X a ta) (hb : PE X b tb) : PE X (.BinOp a op b pos) (tOp r ta tb) := by
  intro pins s σ H Q I h
  exact wpAny_BinOp (binT ha hb I h fun v u s2 x y H2 I2 rx ry q => ho pins s2 σ H2 x y v u Q I2 rx ry q)
theorem pe_un {op : UnaryOp} {r : V → Hp → VK → Prop} (ho : UnR X (unaryOp op) r) (ha : PE X a ta) : PE X (.UnaryOp op a pos) (tUn r ta) := by
  intro pins s σ H Q I h
  exact UnaryOp_ (thn (ha pins s σ H _ I h) fun v s1 ⟨x, H1, I1, r1, q1⟩ => ho pins s1 σ H1 x v Q I1 r1 q1)
theorem opI {f : Value → Value → Sem Value} {C : Int → Int → Prop} {g : Int → Int → Int}
    (rule : ∀ (i j : Int) (t u : Tok) (s : Shared) (Q : Value → Shared → Prop) (E : Value → Shared → Prop), C i j → Q (.int (g i j) s.toks) { s with toks := s.toks + 1 } → wpAny (model X.prog X.w) X.A (f (.int i t) (.int j u)) Q E s) :
    OpR X f (rI C fun i j => .int (g i j)) := by
  intro pins s σ H x y v u Q I rx ry h
  obtain ⟨i, j, rfl, rfl, hc, q⟩ := h
  obtain ⟨t, rfl⟩ := rx
  obtain ⟨t', rfl⟩ := ry
  exact rule i j t t' s _ _ hc ⟨.int (g i j), H, I.tok _, ⟨_, rfl⟩, q⟩
theorem opI0 {f : Value → Value → Sem Value} {g : Int → Int → Int}
    (rule : ∀ (i j : Int) (t u : Tok) (s : Shared) (Q : Value → Shared → Prop) (E : Value → Shared → Prop), Q (.int (g i j) s.toks) { s with toks := s.toks + 1 } → wpAny (model X.prog X.w) X.A (f (.int i t) (.int j u)) Q E s) :
    OpR X f (rI0 fun i j => .int (g i j)) := by
  intro pins s σ H x y v u Q I rx ry h
  obtain ⟨i, j, rfl, rfl, q⟩ := h
  obtain ⟨t, rfl⟩ := rx
  obtain ⟨t', rfl⟩ := ry
  exact rule i j t t' s _ _ ⟨.int (g i j), H, I.tok _, ⟨_, rfl⟩, q⟩
theorem opB0 {f : Value → Value → Sem Value} {g : Int → Int → Bool}
    (rule : ∀ (i j : Int) (t u : Tok) (s : Shared) (Q : Value → Shared → Prop) (E : Value → Shared → Prop), Q (.bool (g i j)) s → wpAny (model X.prog X.w) X.A (f (.int i t) (.int j u)) Q E s) :
    OpR X f (rI0 fun i j => .bl (g i j)) := by
  intro pins s σ H x y v u Q I rx ry h
  obtain ⟨i, j, rfl, rfl, q⟩ := h
  obtain ⟨t, rfl⟩ := rx
  obtain ⟨t', rfl⟩ := ry
  exact rule i j t t' s _ _ ⟨.bl (g i j), H, I, rfl, q⟩
def CDiv (i j : Int) : Prop := 0 < j ∧ j < 1073741824
def CPow (i j : Int) : Prop := 0 ≤ j ∧ j ≤ 1000000 ∧ i.natAbs < 2 ^ 64
def CMul (i j : Int) : Prop := (-(2 ^ 64) < i ∧ i < 2 ^ 64) ∨ (-(2 ^ 64) < j ∧ j < 2 ^ 64)
theorem CMul.ok {i j : Int} (h : CMul i j) : IntMulOk i j := by
  rcases h with ⟨h1, h2⟩ | ⟨h1, h2⟩
  · exact .of_left (intBits_le_64 h1 h2)
  · exact .of_right (intBits_le_64 h1 h2)
theorem op_add : OpR X (binaryOp .Add) (rI0 fun i j => .int (i + j)) := opI0 fun _ _ _ _ _ _ _ q => add_int q
theorem op_sub : OpR X (binaryOp .Sub) (rI0 fun i j => .int (i - j)) := opI0 fun _ _ _ _ _ _ _ q => sub_int q
theorem op_mul : OpR X (binaryOp .Mult) (rI CMul fun i j => .int (i * j)) := opI fun _ _ _ _ _ _ _ hc q => mul_int q hc.ok
theorem op_fdiv : OpR X (binaryOp .FloorDiv) (rI CDiv fun i j => .int (i / j)) := opI fun i j _ _ _ _ _ hc q => by
  have h1 : (0 : Int) < j := hc.1
  have h2 : j < 1073741824 := hc.2
  exact floordiv_int (by omega) (by rw [Int.fdiv_eq_ediv_of_nonneg i (by omega)]; exact q) (.inl (PyProof.noPylong_small (by omega)))
theorem op_mod : OpR X (binaryOp .Mod) (rI (fun _ j => 0 < j) fun i j => .int (i % j)) := opI fun i j _ _ _ _ _ hc q => by
  have h1 : (0 : Int) < j := hc
  exact mod_int' (by omega) (by rw [Int.fmod_eq_emod_of_nonneg i (by omega)]; exact q)
theorem op_pow : OpR X (binaryOp .Pow) (rI CPow fun i j => .int (i ^ j.toNat)) := opI fun _ _ _ _ _ _ _ hc q => pow_int_small hc.1 hc.2.1 hc.2.2 q
theorem unI {f : Value → Sem Value} {g : Int → Int}
    (rule : ∀ (i : Int) (t : Tok) (s : Shared) (Q : Value → Shared → Prop) (E : Value → Shared → Prop), Q (.int (g i) s.toks) { s with toks := s.toks + 1 } → wpAny (model X.prog X.w) X.A (f (.int i t)) Q E s) :
    UnR X f (rU fun i => .int (g i)) := by
  intro pins s σ H x v Q I rx h
  obtain ⟨i, rfl, q⟩ := h
  obtain ⟨t, rfl⟩ := rx
  exact rule i t s _ _ ⟨.int (g i), H, I.tok _, ⟨_, rfl⟩, q⟩
theorem un_neg : UnR X (unaryOp .USub) (rU fun i => .int (-i)) := unI fun _ _ _ _ _ q => neg_int q
end
def scal : V → V → Bool
  | .non, .non => true | .non, .int _ => true | .int _, .non => true | .non, .bl _ => true | .bl _, .non => true | .non, .str _ => true | .str _, .non => true
  | .int _, .int _ => true | .bl _, .bl _ => true | .str _, .str _ => true | .byt _, .byt _ => true
  | .int _, .str _ => true | .str _, .int _ => true | .bl _, .str _ => true | .str _, .bl _ => true
  | _, _ => false
def rEq : R2 := fun x y H Q => scal x y = true ∧ Q (.bl (decide (x = y))) H
def rNe : R2 := fun x y H Q => scal x y = true ∧ Q (.bl (!decide (x = y))) H
theorem dec_int {i j : Int} : decide (V.int i = V.int j) = (i == j) := by
  rw [Bool.eq_iff_iff]
  simp
theorem dec_bl {i j : Bool} : decide (V.bl i = V.bl j) = (i == j) := by
  rw [Bool.eq_iff_iff]
  simp
theorem dec_str {i j : Str} : decide (V.str i = V.str j) = (i == j) := by
  rw [Bool.eq_iff_iff]
  simp
theorem dec_byt {i j : Array UInt8} : decide (V.byt i = V.byt j) = (i.toList == j.toList) := by
  rw [Bool.eq_iff_iff]
  cases i
  cases j
  simp
section
variable {X : Cx} {a b c : Expr} {ta tb tc : TE} {pos : Pos}
theorem fin_bl {pins : List (Addr × Obj)} {σ : St} {H : Hp} {s : Shared} {Q : VK} {k k' : Bool} (I : Inv X pins σ H s) (q : Q (.bl k) H) (e : k = k') : EP X pins σ Q (.bool k') s := by
  subst e
  exact ⟨.bl k, H, I, rfl, q⟩
theorem op_eq : OpR X (compareOp .Eq) rEq := by
  intro pins s σ H x y v u Q I rx ry h
  obtain ⟨hs, q⟩ := h
  cases x with
  | non =>
    cases rx
    cases y with
    | non => cases ry; exact PySem.EqNone.eq_none_none (fin_bl I q (by simp))
    | bl j => cases ry; exact PySem.EqNone.eq_none_bool (fin_bl I q (by simp))
    | int j => obtain ⟨t', rfl⟩ := ry; exact PySem.EqNone.eq_none_int (fin_bl I q (by simp))
    | str j => obtain ⟨t', rfl⟩ := ry; exact PySem.EqNone.eq_none_str (fin_bl I q (by simp))
    | _ => exact absurd (show false = true from hs) Bool.false_ne_true
  | bl i =>
    cases rx
    cases y with
    | non => cases ry; exact PySem.EqNone.eq_bool_none (fin_bl I q (by simp))
    | bl j => cases ry; exact eq_bool (fin_bl I q dec_bl)
    | str j => obtain ⟨t', rfl⟩ := ry; exact PySem.EqMixed.eq_bool_str (fin_bl I q (by simp))
    | _ => exact absurd (show false = true from hs) Bool.false_ne_true
  | int i =>
    obtain ⟨t, rfl⟩ := rx
    cases y with
    | non => cases ry; exact PySem.EqNone.eq_int_none (fin_bl I q (by simp))
    | int j => obtain ⟨t', rfl⟩ := ry; exact eq_int (fin_bl I q dec_int)
    | str j => obtain ⟨t', rfl⟩ := ry; exact PySem.EqMixed.eq_int_str (fin_bl I q (by simp))
    | _ => exact absurd (show false = true from hs) Bool.false_ne_true
  | str i =>
    obtain ⟨t, rfl⟩ := rx
    cases y with
    | non => cases ry; exact PySem.EqNone.eq_str_none (fin_bl I q (by simp))
    | bl j => cases ry; exact PySem.EqMixed.eq_str_bool (fin_bl I q (by simp))
    | int j => obtain ⟨t', rfl⟩ := ry; exact PySem.EqMixed.eq_str_int (fin_bl I q (by simp))
    | str j => obtain ⟨t', rfl⟩ := ry; exact eq_str (fin_bl I q dec_str)
    | _ => exact absurd (show false = true from hs) Bool.false_ne_true
  | byt i =>
    obtain ⟨t, rfl⟩ := rx
    cases y with
    | byt j => obtain ⟨t', rfl⟩ := ry; exact PySem.W.eq_bytes (fin_bl I q dec_byt)
    | _ => exact absurd (show false = true from hs) Bool.false_ne_true
  | _ => cases y <;> exact absurd (show false = true from hs) Bool.false_ne_true
theorem op_ne : OpR X (compareOp .NotEq) rNe := by
  intro pins s σ H x y v u Q I rx ry h
  obtain ⟨hs, q⟩ := h
  cases x with
  | non =>
    cases rx
    cases y with
    | non => cases ry; exact PySem.EqNone.ne_none_none (fin_bl I q (by simp))
    | bl j => cases ry; exact PySem.EqNone.ne_none_bool (fin_bl I q (by simp))
    | int j => obtain ⟨t', rfl⟩ := ry; exact PySem.EqNone.ne_none_int (fin_bl I q (by simp))
    | str j => obtain ⟨t', rfl⟩ := ry; exact PySem.EqNone.ne_none_str (fin_bl I q (by simp))
    | _ => exact absurd (show false = true from hs) Bool.false_ne_true
  | bl i =>
    cases rx
    cases y with
    | non => cases ry; exact PySem.EqNone.ne_bool_none (fin_bl I q (by simp))
    | bl j => cases ry; exact ne_bool (fin_bl I q (congrArg not dec_bl))
    | str j => obtain ⟨t', rfl⟩ := ry; exact PySem.EqMixed.ne_bool_str (fin_bl I q (by simp))
    | _ => exact absurd (show false = true from hs) Bool.false_ne_true
  | int i =>
    obtain ⟨t, rfl⟩ := rx
    cases y with
    | non => cases ry; exact PySem.EqNone.ne_int_none (fin_bl I q (by simp))
    | int j => obtain ⟨t', rfl⟩ := ry; exact ne_int (fin_bl I q (congrArg not dec_int))
    | str j => obtain ⟨t', rfl⟩ := ry; exact PySem.EqMixed.ne_int_str (fin_bl I q (by simp))
    | _ => exact absurd (show false = true from hs) Bool.false_ne_true
  | str i =>
    obtain ⟨t, rfl⟩ := rx
    cases y with
    | non => cases ry; exact PySem.EqNone.ne_str_none (fin_bl I q (by simp))
    | bl j => cases ry; exact PySem.EqMixed.ne_str_bool (fin_bl I q (by simp))
    | int j => obtain ⟨t', rfl⟩ := ry; exact PySem.EqMixed.ne_str_int (fin_bl I q (by simp))
    | str j => obtain ⟨t', rfl⟩ := ry; exact ne_str (fin_bl I q (congrArg not dec_str))
    | _ => exact absurd (show false = true from hs) Bool.false_ne_true
  | byt i =>
    obtain ⟨t, rfl⟩ := rx
    cases y with
    | byt j => obtain ⟨t', rfl⟩ := ry; exact PySem.W.ne_bytes (fin_bl I q (congrArg not dec_byt))
    | _ => exact absurd (show false = true from hs) Bool.false_ne_true
  | _ => cases y <;> exact absurd (show false = true from hs) Bool.false_ne_true
theorem op_lt : OpR X (compareOp .Lt) (rI0 fun i j => .bl (decide (i < j))) := opB0 fun _ _ _ _ _ _ _ q => lt_int q
theorem op_gt : OpR X (compareOp .Gt) (rI0 fun i j => .bl (decide (j < i))) := opB0 fun _ _ _ _ _ _ _ q => gt_int q
theorem op_isN : OpR X (compareOp .Is) (fun x y H Q => y = .non ∧ Q (.bl (decide (x = .non))) H) := by
  intro pins s σ H x y v u Q I rx ry h
  obtain ⟨rfl, q⟩ := h
  cases ry
  refine is_none_gen (fin_bl I q ?_)
  cases x <;> first
    | (cases rx; rfl)
    | (obtain ⟨t, rfl⟩ := rx; rfl)
theorem nomark (b : Expr) {op : CmpOp} (h : op ≠ .In := by decide) (h2 : op ≠ .NotIn := by decide) : behindInMarks op b = false := by
  have e1 : (op == CmpOp.In) = false := by cases op <;> first | rfl | exact absurd rfl h
  have e2 : (op == CmpOp.NotIn) = false := by cases op <;> first | rfl | exact absurd rfl h2
  cases b <;> simp [behindInMarks, e1, e2]
theorem pe_cmpR {op : CmpOp} {r : R2} (ho : OpR X (compareOp op) r) (ha : PE X a ta) (hb : PE X b tb) (hm : behindInMarks op b = false) : PE X (.Compare a [op] [b] pos) (tOp r ta tb) := by
  intro pins s σ H Q I h
  exact wpAny_Compare1 (binT ha hb I h fun v u s2 x y H2 I2 rx ry q => ho pins s2 σ H2 x y v u Q I2 rx ry q) hm
def tTest (t : TE) : TT := fun σ H Q => t σ H fun x H' => ∃ k, x = .bl k ∧ Q k H'
theorem pt_cmpR {op : CmpOp} {r : R2} (ho : OpR X (compareOp op) r) (ha : PE X a ta) (hb : PE X b tb) (hm : behindInMarks op b = false) : PT X (.Compare a [op] [b] pos) (tTest (tOp r ta tb)) := by
  intro pins s σ H Q I h
  refine wpAny_isTrue_Compare1 (thn (ha pins s σ H _ I h) fun v s1 ⟨x, H1, I1, r1, q1⟩ => thn (hb pins s1 σ H1 _ I1 q1) fun u s2 ⟨y, H2, I2, r2, q2⟩ =>
    thn (ho pins s2 σ H2 x y v u _ I2 r1 r2 q2) fun c s3 ⟨z, H3, I3, r3, k, e, q3⟩ => ?_) hm
  subst e
  cases r3
  exact wpAny_truthy_bool ⟨H3, I3, q3⟩
theorem line63 : (sizeLine : Nat) < 2 ^ 63 := by rw [sizeLine_eq]; decide
theorem op_add_str : OpR X (binaryOp .Add) (fun x y H Q => ∃ i j, x = .str i ∧ y = .str j ∧ i.length + j.length ≤ sizeLine ∧ Q (.str (i ++ j)) H) := by
  intro pins s σ H x y v u Q I rx ry h
  obtain ⟨i, j, rfl, rfl, hz, q⟩ := h
  obtain ⟨t, rfl⟩ := rx
  obtain ⟨t', rfl⟩ := ry
  exact add_str (fun t' tk => ⟨.str (i ++ j), H, I.tok _, ⟨_, rfl⟩, q⟩) hz
theorem vals1 {x : V} {us : List Value} (r : Vals [x] us) : ∃ u, us = [u] ∧ RelV x u := by
  cases r with
  | cons r1 r2 => cases r2; exact ⟨_, rfl, r1⟩
theorem vals2 {x y : V} {us : List Value} (r : Vals [x, y] us) : ∃ u w', us = [u, w'] ∧ RelV x u ∧ RelV y w' := by
  cases r with
  | cons r1 r2 =>
    cases r2 with
    | cons r3 r4 => cases r4; exact ⟨_, _, rfl, r1, r3⟩
theorem call_max2 (hc : X.calm = true) : CallR X (.builtin "max") (fun xs H Q => ∃ i j, xs = [.int i, .int j] ∧ Q (.int (if j > i then j else i)) H) := by
  intro pins s σ H xs us Q I r h
  obtain ⟨i, j, rfl, q⟩ := h
  obtain ⟨u, w', rfl, ⟨t, rfl⟩, ⟨t', rfl⟩⟩ := vals2 r
  refine max_two_ints (I.ok.hd hc) fun h' tk k => ⟨_, H, I.kept k, ?_, q⟩
  by_cases hj : j > i
  · rw [if_pos hj, if_pos hj]; exact ⟨_, rfl⟩
  · rw [if_neg hj, if_neg hj]; exact ⟨_, rfl⟩
theorem call_int1 : CallR X (.type "int") (fun xs H Q => (∃ i, xs = [.int i] ∧ Q (.int i) H) ∨ ∃ k, xs = [.bl k] ∧ Q (.int (if k then 1 else 0)) H) := by
  intro pins s σ H xs us Q I r h
  rcases h with ⟨i, rfl, q⟩ | ⟨k, rfl, q⟩
  · obtain ⟨u, rfl, t, rfl⟩ := vals1 r
    exact call_int_int ⟨.int i, H, I, ⟨_, rfl⟩, q⟩
  · obtain ⟨u, rfl, r1⟩ := vals1 r
    cases r1
    exact call_int_bool ⟨.int (if k then 1 else 0), H, I.tok _, ⟨_, rfl⟩, q⟩
end
end L2
namespace L2
open PySem PySem.Spec PyProof.Rows
structure ObjM (h : Heap) (x dx C : Addr) (mA : Str → Option Value) : Prop where
  obj : h.get? x = some (PySem.W.instObj C dx)
  ns : h.Ns1 dx mA
  ne : dx ≠ x
theorem lookIn_ns {h : Heap} {dx : Addr} {mA : Str → Option Value} (n : h.Ns1 dx mA) : ∃ od, h.get? dx = some od ∧ ∀ name, PySem.W.lookIn name od = some (mA name) := by
  obtain ⟨o, es, ep, ho, hd, hk, _, hm⟩ := n
  refine ⟨o, ho, fun name => ?_⟩
  have e := hm name
  unfold nsFind findBy at e
  rw [← Array.find?_toList] at e
  unfold PySem.W.lookIn
  rw [hd]
  dsimp only
  split
  · rename_i y q
    rw [q] at e
    exact congrArg some e
  · rename_i q
    rw [q] at e
    have a : es.toList.any (·.refKey) = false := by
      rw [List.any_eq_false]
      intro y hy
      obtain ⟨z, t, hkey⟩ := hk y (Array.mem_toList_iff.mp hy)
      simp [DictEntry.refKey, hkey]
    have a' : ¬ es.toList.any (·.refKey) = true := by rw [a]; exact Bool.false_ne_true
    rw [if_neg a']
    exact congrArg some e
theorem ObjM.look {h : Heap} {x dx C : Addr} {mA : Str → Option Value} (I : ObjM h x dx C mA) : ∃ od, PySem.W.InstAt h x (PySem.W.instObj C dx) C (some od) ∧ ∀ name, PySem.W.lookIn name od = some (mA name) :=
  let ⟨od, ho, hl⟩ := lookIn_ns I.ns
  ⟨od, ⟨I.obj, rfl, rfl, ho⟩, hl⟩
section
variable {prog : Program} {w : World} {A : Around} {E : Value → Shared → Prop} {s : Shared} {K : PySem.W.Frag} {x dx C f : Addr} {mA : Str → Option Value} {name : Str} {v : Value}
end
theorem RelO.some_of {v : V} {o : Option Value} (r : RelO (some v) o) : ∃ u, o = some u ∧ RelV v u := by
  cases o with
  | none => exact (show False from r).elim
  | some u => exact ⟨u, rfl, r⟩
section
variable {P : Program} {w : World} {H H' : Hp} {h h' : Heap} {a C dx : Addr} {fs fs' : List (Str × V)}
theorem ins_get (hok : HOk P w H h) (e : H a = some (.ins C dx fs)) : ∃ mA, ObjM h a dx C mA ∧ (∀ f, RelO (fs.lookup f) (mA f)) ∧ PySem.Within mA (fs.map (·.1)) ∧ fs.length ≤ 1000 ∧ H dx = some (.own a) := by
  obtain ⟨d, z, ne, ob, mA, n, r, q⟩ := (show ObjOk P w H h a (.ins C dx fs) from hok a _ e)
  exact ⟨mA, ⟨ob, n, ne⟩, r, q, z, d⟩
end
structure Cls (K : PySem.W.Frag) (C : Addr) : Prop where
  pg : PySem.W.plainGet K C Str.empty = true
  hd : PySem.W.hasDictIn K C = true
  po : PySem.W.plainOver K C = true
  sa : PySem.W.findIn K (.ref C) "__setattr__" = some (some (.builtin "object.__setattr__"))
theorem Cls.get {K : PySem.W.Frag} {C : Addr} (c : Cls K C) (f : Str) : PySem.W.plainGet K C f = true := c.pg
section
variable {X : Cx} {pins : List (Addr × Obj)} {σ : St} {H : Hp} {s : Shared} {a C dx : Addr} {fs : List (Str × V)} {f : Str} {v : V} {A : Around} {E : Value → Shared → Prop}
end
section
variable {X : Cx} {o e value : Expr} {f : Str} {pos pos' tpos : Pos} {ta tv : TE}
end
section
variable {X : Cx} {pins : List (Addr × Obj)} {σ : St} {H : Hp} {s : Shared} {A : Around} {E : Value → Shared → Prop} {Q : Value → Shared → Prop} {c : Value} {b : Bool}
inductive TyOf (K : PySem.W.Frag) (H : Hp) : V → Value → Prop where
  | non : TyOf K H .non (.type "NoneType")
  | bl (x : Bool) : TyOf K H (.bl x) (.type "bool")
  | int (i : Int) : TyOf K H (.int i) (.type "int")
  | str (x : Str) : TyOf K H (.str x) (.type "str")
  | flt (x : UInt64) : TyOf K H (.flt x) (.type "float")
  | lst {a : Addr} {xs : List V} (e : H a = some (.lst xs)) : TyOf K H (.ref a) (.type "list")
  | frz {a : Addr} {o : Obj} {xs : List V} (e : H a = some (.frz o (.lst xs))) : TyOf K H (.ref a) (.type "list")
  | tup {a : Addr} {xs : List V} (e : H a = some (.tup xs)) : TyOf K H (.ref a) (.type "tuple")
  | dK {a : Addr} {kvs : List (Key × V)} (e : H a = some (.dK kvs)) : TyOf K H (.ref a) (.type "dict")
  | dT {a : Addr} {kvs : List (List Key × V)} (e : H a = some (.dT kvs)) : TyOf K H (.ref a) (.type "dict")
  | ins {a C dx : Addr} {fs : List (Str × V)} (e : H a = some (.ins C dx fs)) (cl : Cls K C) (ha : PySem.W.findIn K (.ref C) "__class__" = some (some (.builtin "object.__class__")))
      (hn : PySem.W.specialIn K (.builtin "object.__class__") "__get__" = some (some (.builtin "getset_descriptor.__get__"))) (htk : PySem.W.takesIn K (.builtin "object.__class__") = some true)
      (hm : PySem.W.mroIn K C (.type "object") = some true) : TyOf K H (.ref a) (.ref C)
theorem isinst_ok {x : V} {u t : Value} (I : Inv X pins σ H s) (rx : RelV x u) (ty : TyOf X.K H x t) (e : PySem.W.kitOne X.K t c = some b) (h : ∀ tk, Q (.bool b) { s with toks := tk }) :
    wpAny (model X.prog X.w) A (call (.builtin "isinstance") [u, c]) Q E s := by
  cases ty with
  | non => cases (show u = Value.none from rx); exact PySem.W.kia_one PySem.W.kitx_none I.kIn True.intro e (fun z => nomatch z) h
  | bl y => cases (show u = Value.bool y from rx); exact PySem.W.kia_one PySem.W.kitx_bool I.kIn True.intro e (fun z => nomatch z) h
  | int i => obtain ⟨t, q⟩ := (show ∃ t, u = Value.int i t from rx); cases q; exact PySem.W.kia_one PySem.W.kitx_int I.kIn True.intro e (fun z => nomatch z) h
  | str y => obtain ⟨t, q⟩ := (show ∃ t, u = Value.str y t from rx); cases q; exact PySem.W.kia_one PySem.W.kitx_str I.kIn True.intro e (fun z => nomatch z) h
  | flt y => obtain ⟨t, q⟩ := (show ∃ t, u = Value.float y t from rx); cases q; exact PySem.W.kia_one PySem.W.kitx_float I.kIn True.intro e (fun z => nomatch z) h
  | @lst a xs ea =>
    cases (show u = Value.ref a from rx)
    obtain ⟨_, _, n, _, h1⟩ := (show ObjOk X.prog X.w H s.heap a (.lst xs) from I.hok a _ ea)
    exact PySem.W.kia_one PySem.W.kitx_list I.kIn ⟨_, h1, rfl⟩ e (fun z => nomatch z) h
  | @frz a ob xs ea =>
    cases (show u = Value.ref a from rx)
    obtain ⟨_, _, _, n, _, h1⟩ := (show ObjOk X.prog X.w H s.heap a (.frz ob (.lst xs)) from I.hok a _ ea)
    exact PySem.W.kia_one PySem.W.kitx_list I.kIn ⟨_, h1, rfl⟩ e (fun z => nomatch z) h
  | @tup a xs ea =>
    cases (show u = Value.ref a from rx)
    obtain ⟨_, _, _, p⟩ := (show ObjOk X.prog X.w H s.heap a (.tup xs) from I.hok a _ ea)
    obtain ⟨o, h1, h2, _⟩ := p
    exact PySem.W.kia_one PySem.W.kitx_tuple I.kIn ⟨o, h1, h2⟩ e (fun z => nomatch z) h
  | @dK a kvs ea =>
    cases (show u = Value.ref a from rx)
    obtain ⟨_, _, vs, _, p⟩ := (show ObjOk X.prog X.w H s.heap a (.dK kvs) from I.hok a _ ea)
    obtain ⟨o, es, ep, h1, h2, _⟩ := p
    exact PySem.W.kia_one PySem.W.kitx_dict I.kIn ⟨o, h1, h2.1⟩ e (fun z => nomatch z) h
  | @dT a kvs ea =>
    cases (show u = Value.ref a from rx)
    obtain ⟨_, _, xs, _, o, es, ep, h1, h2, _⟩ := (show ObjOk X.prog X.w H s.heap a (.dT kvs) from I.hok a _ ea)
    exact PySem.W.kia_one PySem.W.kitx_dict I.kIn ⟨o, h1, h2.1⟩ e (fun z => nomatch z) h
  | @ins a C dx fs ea cl ha hn htk hm =>
    cases (show u = Value.ref a from rx)
    obtain ⟨mA, O, _⟩ := ins_get I.hok ea
    obtain ⟨od, J, _⟩ := O.look
    exact PySem.W.kia_one (PySem.W.kitx_own (cl.get _) cl.hd ha hn htk hm) I.kIn J e (fun z => nomatch z) h
end
end L2
namespace L2
open PySem PySem.Spec PyProof.Rows
structure Room (k : Nat) (A : Around) : Prop where
  hd : A.handled = none
  dp : A.depth + 3 * k + 5 < recursionLimit
  un : A.units + 16 * k + 200 < cLine
theorem Room.mono {j k : Nat} {A : Around} (r : Room k A) (h : j ≤ k) : Room j A := ⟨r.hd, by have := r.dp; omega, by have := r.un; omega⟩
theorem Room.deeper {k : Nat} {A : Around} (r : Room (k + 1) A) (env : Env) : Room k (A.deeper env) :=
  ⟨r.hd, by have := r.dp; show A.depth + 1 + 3 * k + 5 < _; omega, by have := r.un; show A.units + 3 + 16 * k + 200 < _; omega⟩
theorem Room.depth {k : Nat} {A : Around} (r : Room k A) : A.depth < recursionLimit := by have := r.dp; omega
theorem Room.units {k : Nat} {A : Around} (r : Room k A) : A.units + 64 < cLine := by have := r.un; omega
theorem Room.units0 {k : Nat} {A : Around} (r : Room k A) : A.units < cLine := by have := r.un; omega
def tNil : TA := fun _ H Q => Q [] H
def tCons (ta : TE) (tr : TA) : TA := fun σ H Q => ta σ H fun x H1 => tr σ H1 fun xs H2 => Q (x :: xs) H2
section
variable {X : Cx} {e : Expr} {es : List Expr} {te : TE} {t : TA} {pos : Pos}
theorem pa_nil : PA X [] tNil := fun _ _ _ _ H Q I h => Calls.spliced_nil ⟨[], H, I, .nil, h⟩
theorem pa_cons (ha : PE X e te) (hr : PA X es t) (hs : starEach (e :: es) X.env = (false, eval e X.env) :: starEach es X.env := by rfl) : PA X (e :: es) (tCons te t) := by
  intro pos pins s σ H Q I h
  rw [hs]
  show wpAny _ _ (spliced ((false, eval e X.env) :: backTo pos (starEach es X.env))) _ _ s
  refine Calls.spliced_cons (thn (ha pins s σ H _ I h) fun u s1 ⟨x, H1, I1, r1, q1⟩ => ?_)
  exact thn (hr pos pins s1 σ H1 _ I1 q1) fun us s2 ⟨xs, H2, I2, r2, q2⟩ => ⟨x :: xs, H2, I2, .cons r1 r2, q2⟩
end
abbrev Sp := List V → Hp → VK → XK → Prop
abbrev CXT := List Env → Hp → Shared → XK → Value → Shared → Prop
structure Env0 (P : Program) (w : World) (K : PySem.W.Frag) (mg : Str → Option Value) (base : Heap) (A : Around) (outer : List Env) (s : Shared) (H : Hp) : Prop where
  frames : A.frames = some outer
  mod : Mod K mg base
  bs : ∀ b o, base.get? b = some o → s.heap.get? b = some o ∧ H b = none
  bsz : base.objs.size ≤ s.heap.objs.size
  funs : s.heap.FunFrames base outer
  frf : ∀ b ∈ frs outer, H b = none
  hok : HOk P w H s.heap
  bare : AllBare s.gens
def CE (outer : List Env) (P : Program) (w : World) (H : Hp) (s : Shared) (Q : VK) (u : Value) (s' : Shared) : Prop :=
  ∃ v H', s'.os = s.os ∧ AllBare s'.gens ∧ Un (frs outer) [] H H' s.heap s'.heap ∧ HOk P w H' s'.heap ∧ RelV v u ∧ Q v H'
def CR (CX : CXT) (outer : List Env) (P : Program) (w : World) (H : Hp) (s : Shared) (Q : VK) (E : XK) (r : Result) (s' : Shared) : Prop :=
  match r with
  | .ok (.ret u) => CE outer P w H s Q u s'
  | .ok _ => False
  | .error e => CX outer H s E e s'
structure FnOk (P : Program) (w : World) (K : PySem.W.Frag) (mg : Str → Option Value) (base : Heap) (CX : CXT) (k : Nat) (f : Addr) (fd : FuncData) (ps : List Str) (sp : Sp) : Prop where
  len : ∀ vs H Q E, sp vs H Q E → vs.length = ps.length
  run : ∀ (A : Around) (outer : List Env) (s : Shared) (H : Hp) (args : Args) (us : List Value) (vs : List V) (Q : VK) (E : XK), Room k A → Env0 P w K mg base A outer s H → BindsTo s fd args (ps.zip us) → Vals vs us → sp vs H Q E →
    codeAny (model P w) A (.call (.ref f) args) (CR CX outer P w H s Q E) s
section
variable {X : Cx} {pins : List (Addr × Obj)} {σ : St} {H : Hp} {s s' : Shared}
theorem Inv.env0 (I : Inv X pins σ H s) : Env0 X.prog X.w X.K X.mg X.base X.A X.stack s H :=
  ⟨I.ok.frames, I.ok.mod, I.bs, Nat.le_trans I.ok.bsz I.sz, I.stack, I.stkFree, I.hok, I.bare⟩
theorem Inv.after {Q : VK} {u : Value} (I : Inv X pins σ H s) (h : CE X.stack X.prog X.w H s Q u s') : EP X pins σ Q u s' := by
  obtain ⟨v, H', os, bare, un, hok, r, q⟩ := h
  obtain ⟨hh, g, d, t, os'⟩ := s'
  obtain rfl : os' = s.os := os
  exact ⟨v, H', I.call (h' := hh) (g' := g) (d' := d) (t' := t) (ch := []) un hok bare (fun b z => absurd z (by simp)), r, q⟩
end
def tCall (sp : Sp) (dvs : List V) (E : XK) (t : TA) : TE := fun σ H Q => t σ H fun vs H1 => sp (vs ++ dvs) H1 Q E
def Binds (K : PySem.W.Frag) (fd : FuncData) (ps : List Str) (ds : List Value) : Prop :=
  ∀ (s : Shared) (us : List Value), K.In s.heap → (us ++ ds).length = ps.length → BindsTo s fd ⟨us, []⟩ (ps.zip (us ++ ds))
theorem Binds.all {K : PySem.W.Frag} {fd : FuncData} {ps : List Str} (h : ∀ us : List Value, us.length = ps.length → bindArgs fd ⟨us, []⟩ = pure (ps.zip us)) : Binds K fd ps [] := fun s us _ hl => by
  rw [List.append_nil] at hl ⊢
  exact .of_eq (h us hl)
def Passes (CX : CXT) (X : Cx) (E : XK) : Prop := ∀ (pins : List (Addr × Obj)) (σ : St) (H : Hp) (s : Shared) (e : Value) (s' : Shared), Inv X pins σ H s → CX X.stack H s E e s' → X.xe e s'
section
variable {X : Cx} {CX : CXT} {k : Nat} {f C : Addr} {fd : FuncData} {ps : List Str} {sp : Sp} {dvs : List V} {ds : List Value} {E : XK} {x m : Str} {p pos apos : Pos} {e o : Expr} {es : List Expr} {ta : TE} {t : TA}
theorem run_fn {pins : List (Addr × Obj)} {σ : St} {H : Hp} {s : Shared} {Q : VK} {us : List Value} {vs : List V} (F : FnOk X.prog X.w X.K X.mg X.base CX k f fd ps sp) (hr : Room k X.A) (hb : Binds X.K fd ps ds) (hd : Vals dvs ds) (hx : Passes CX X E)
    (I : Inv X pins σ H s) (r : Vals vs us) (h : sp (vs ++ dvs) H Q E) : wpAny (model X.prog X.w) X.A (call (.ref f) us) (EP X pins σ Q) X.xe s := by
  have r2 : Vals (vs ++ dvs) (us ++ ds) := r.append hd
  have hl : (us ++ ds).length = ps.length := by rw [← r2.length]; exact F.len _ _ _ _ h
  refine wpAny_call (codeAny_mono (F.run X.A X.stack s H ⟨us, []⟩ (us ++ ds) (vs ++ dvs) Q E hr I.env0 (hb s us I.kIn hl) r2 h) fun r s' hq => ?_)
  cases r with
  | error e => exact hx pins σ H s e s' I hq
  | ok fl =>
    cases fl with
    | ret u => exact I.after hq
    | next => exact False.elim hq
    | brk => exact False.elim hq
    | cont => exact False.elim hq
theorem pe_call (F : FnOk X.prog X.w X.K X.mg X.base CX k f fd ps sp) (hr : Room k X.A) (hg : Gl X x) (hm : X.mg x = some (.ref f)) (hk : PySem.W.keepIn X.K (.ref f) = true) (hb : Binds X.K fd ps ds) (hd : Vals dvs ds) (hx : Passes CX X E)
    (ha : PA X (e :: es) t) (hdb : (x == ("__debug__" : Str)) = false := by decide) (he : starEach (e :: es) X.env = (false, eval e X.env) :: starEach es X.env := by rfl) (hpl : (backTo pos (starEach es X.env)).any (·.1) = false := by rfl) :
    PE X (.Call (.Name x p) (e :: es) [] pos) (tCall sp dvs E t) := by
  intro pins s σ H Q I h
  refine wpAny_Call_Name_kw (ld_glob I hg hm ?_ hdb)
  refine PySem.W.callWith_K (h₀ := X.base) I.ok.mod.kin hk (thn (ha pos pins s σ H _ I h) fun us s1 ⟨vs, H1, I1, r, q⟩ => ⟨I1.kIn, ?_⟩) he hpl
  exact run_fn F hr hb hd hx I1 r q
end
section
variable {X : Cx} {CX : CXT} {k : Nat} {f C : Addr} {fd : FuncData} {ps ks : List Str} {sp : Sp} {E : XK} {x m : Str} {p pos apos kpos : Pos} {e o : Expr} {es : List Expr} {kws : List Keyword} {te ta : TE} {t tk : TA} {nm : Option Str}
variable {g : List Value → List Value → List Value} {gV : List V → List V → List V}
end
structure FnScope (N P : List Str) (sc : Scope) : Prop where
  kind : sc.kind = .function
  co : sc.isCoroutine = false
  gen : sc.isGenerator = false
  nd : N.Nodup
  pre : N.take P.length = P
  par : ∀ x ∈ P, sc.names.lookup x = some .local ∨ sc.names.lookup x = some .cell
  nofree : ∀ y ∈ sc.names, y.2 ≠ .free
theorem bindL_out {kindOf : Str → Option NameKind} {x : Str} : ∀ {binds : List (Str × Value)} {m : Str → Option Value}, (∀ v, (x, v) ∉ binds) → bindL kindOf binds m x = m x
  | [], _, _ => rfl
  | (n, v) :: r, m, h => by
    unfold bindL
    rw [bindL_out fun w hw => h w (List.mem_cons_of_mem _ hw)]
    split
    · have : x ≠ n := by rintro rfl; exact h v List.mem_cons_self
      simp [this]
    · rfl
theorem bindC_out {kindOf : Str → Option NameKind} {x : Str} : ∀ {binds : List (Str × Value)} {m : Str → Option Value}, (∀ v, (x, v) ∉ binds) → bindC kindOf binds m x = m x
  | [], _, _ => rfl
  | (n, v) :: r, m, h => by
    unfold bindC
    rw [bindC_out fun w hw => h w (List.mem_cons_of_mem _ hw)]
    split
    · rfl
    · have : x ≠ n := by rintro rfl; exact h v List.mem_cons_self
      simp [this]
theorem bindL_get {kindOf : Str → Option NameKind} {x : Str} {v : Value} : ∀ {P : List Str} {vs : List Value} {i : Nat} {m : Str → Option Value}, P.Nodup → P[i]? = some x → vs[i]? = some v → kindOf x = some .local →
    bindL kindOf (P.zip vs) m x = some v
  | [], _, _, _, _, h, _, _ => by simp at h
  | _ :: _, [], _, _, _, _, h, _ => by simp at h
  | p :: P, w :: vs, 0, m, nd, h1, h2, hk => by
    simp at h1 h2; subst h1; subst h2
    show bindL kindOf ((p, w) :: P.zip vs) m p = _
    unfold bindL
    rw [bindL_out fun v hv => (List.nodup_cons.mp nd).1 (List.of_mem_zip hv).1, if_pos hk]
    simp
  | p :: P, w :: vs, i + 1, m, nd, h1, h2, hk => by
    show bindL kindOf ((p, w) :: P.zip vs) m x = _
    unfold bindL
    exact bindL_get (i := i) (List.nodup_cons.mp nd).2 (by simpa using h1) (by simpa using h2) hk
theorem bindC_get {kindOf : Str → Option NameKind} {x : Str} {v : Value} : ∀ {P : List Str} {vs : List Value} {i : Nat} {m : Str → Option Value}, P.Nodup → P[i]? = some x → vs[i]? = some v → kindOf x ≠ some .local →
    bindC kindOf (P.zip vs) m x = some v
  | [], _, _, _, _, h, _, _ => by simp at h
  | _ :: _, [], _, _, _, _, h, _ => by simp at h
  | p :: P, w :: vs, 0, m, nd, h1, h2, hk => by
    simp at h1 h2; subst h1; subst h2
    show bindC kindOf ((p, w) :: P.zip vs) m p = _
    unfold bindC
    rw [bindC_out fun v hv => (List.nodup_cons.mp nd).1 (List.of_mem_zip hv).1, if_neg hk]
    simp
  | p :: P, w :: vs, i + 1, m, nd, h1, h2, hk => by
    show bindC kindOf ((p, w) :: P.zip vs) m x = _
    unfold bindC
    exact bindC_get (i := i) (List.nodup_cons.mp nd).2 (by simpa using h1) (by simpa using h2) hk
def start (N : List Str) (vs : List V) : St := vs.map some ++ List.replicate (N.length - vs.length) none
def cxOf (CX : CXT) (P : Program) (w : World) (K : PySem.W.Frag) (mg : Str → Option Value) (base : Heap) (N : List Str) (qual : Str) (scope : Scope) (f : Addr) (cd : Value) (A : Around) (outer : List Env) (s : Shared) (H : Hp) (E : XK) : Cx where
  prog := P
  w := w
  K := K
  mg := mg
  base := base
  A := A.deeper (envOfC qual scope s.heap.objs.size f cd)
  N := N
  s₀ := s
  H₀ := H
  env := envOfC qual scope s.heap.objs.size f cd
  outer := outer
  stack := envOfC qual scope s.heap.objs.size f cd :: outer
  ex := []
  calm := true
  fn := fun _ => true
  pn := []
  xe := fun e s' => wpAny (model P w) (A.deeper (envOfC qual scope s.heap.objs.size f cd)) (leaving (envOfC qual scope s.heap.objs.size f cd) e) (fun _ s'' => CX outer H s E e s'') (fun e' s'' => CX outer H s E e' s'') s'
theorem cell_has {sc : Scope} {n : Nat} {x : Str} (h : sc.names.lookup x = some .cell) : ∃ c, (cellsFrom n sc.names []).lookup x = some c := by
  have q := PySem.W.cellsFrom_some sc.names n [] (.inl h)
  exact Option.isSome_iff_exists.mp q
theorem inv_start {CX : CXT} {P : Program} {w : World} {K : PySem.W.Frag} {mg : Str → Option Value} {base : Heap} {N ps : List Str} {qual : Str} {scope : Scope} {f : Addr} {cd : Value} {A : Around} {outer : List Env} {s s1 : Shared} {H : Hp} {E : XK} {us : List Value} {vs : List V}
    (S : FnScope N ps scope) (hd : A.handled = none) (e0 : Env0 P w K mg base A outer s H) (hl : vs.length = ps.length) (r : Vals vs us)
    (x : InCallC s s.heap.objs.size (bindL (envOfC qual scope s.heap.objs.size f cd).kindOf (ps.zip us) fun _ => none) (cellsFrom (s.heap.objs.size + 1) scope.names []) (bindC (envOfC qual scope s.heap.objs.size f cd).kindOf (ps.zip us) fun _ => none) s1) :
    Inv (cxOf CX P w K mg base N qual scope f cd A outer s H E) [] (start N vs) H s1 := by
  have hpl : ps.length ≤ N.length := by have := congrArg List.length S.pre; rw [List.length_take] at this; omega
  obtain ⟨h1, tk, rfl, hk⟩ := x.done
  have noA : ∀ b : Addr, b ∉ (cxOf CX P w K mg base N qual scope f cd A outer s H E).ex := fun b z => absurd (show b ∈ ([] : List Addr) from z) (by simp)
  refine ⟨⟨e0.mod, S.kind, rfl, rfl, Nat.le_refl _, fun y z c h1 h2 => ?_, fun y hy => ?_, fun y c _ h => ?_, fun _ => hd, Around.frames_deeper e0.frames, .inr ⟨rfl, rfl⟩, fun b z => absurd z (noA b), e0.bs, e0.bsz, fun b _ _ => noA b, fun b z => absurd z (noA b), e0.funs, e0.frf⟩,
    rfl, e0.bare, Un.kept hk, ⟨_, x.toInCall.ns, fun i y v h1 h2 h3 => ?_⟩, fun y c h => ⟨_, x.cell y c h⟩, e0.hok.fresh (Nat.le_refl _), fun y c h => ?_, fun p hp => absurd (show p ∈ ([] : List (Addr × Obj)) from hp) (by simp), e0.hok.kept hk, ?_⟩
  · exact name_of_addr x.apart (PySem.mem_of_lookup h1) (PySem.mem_of_lookup h2)
  · have hy : scope.names.lookup y = some .cell ∨ scope.names.lookup y = some .free := hy
    rcases hy with hy | hy
    · exact cell_has hy
    · exact absurd rfl (S.nofree _ (PySem.mem_of_lookup hy))
  · exact Nat.le_of_lt (x.above y c (PySem.mem_of_lookup h))
  · have hi : i < vs.length := by
      unfold start at h2
      by_cases hi : i < vs.length
      · exact hi
      · rw [List.getElem?_append_right (by simpa using hi)] at h2
        rw [List.getElem?_replicate] at h2
        split at h2 <;> cases h2
    have ha : vs[i]? = some v := by
      unfold start at h2
      rw [List.getElem?_append_left (by simpa using hi), List.getElem?_map] at h2
      cases e : vs[i]? with
      | none => rw [e] at h2; cases h2
      | some a => rw [e] at h2; cases h2; rfl
    obtain ⟨u, hu, rv⟩ := r.get ha
    have hp : ps[i]? = some y := by
      rw [← S.pre, List.getElem?_take_of_lt (by omega)]; exact h1
    have ndP : ps.Nodup := by rw [← S.pre]; exact S.nd.sublist (List.take_sublist _ _)
    refine ⟨u, rv, ?_⟩
    rcases S.par y (List.mem_of_getElem? hp) with k | k
    · exact .inl ⟨k, bindL_get ndP hp hu k⟩
    · obtain ⟨c, e⟩ := cell_has (n := s.heap.objs.size + 1) k
      refine .inr ⟨.inl k, c, e, ?_⟩
      have q := x.cell y c e
      rw [bindC_get ndP hp hu (by show scope.names.lookup y ≠ _; rw [k]; decide)] at q
      exact q
  · exact e0.hok.fresh (Nat.le_of_lt (x.above y c (PySem.mem_of_lookup h)))
  · unfold start
    show _ = N.length
    rw [List.length_append, List.length_map, List.length_replicate]
    omega
theorem fn_of {CX : CXT} {P : Program} {w : World} {K : PySem.W.Frag} {mg : Str → Option Value} {base : Heap} {k : Nat} {f : Addr} {name qual : Str} {params : Arguments} {body : List Stmt} {scope : Scope} {dV kV doc pm cdv ct oc : Value} {an od : Option Addr}
    {osl : Array (Option Value)} {N ps : List Str} {sp : Sp} (lk : K.lookup f = some ⟨oc, od, .func (PySem.W.fnOf name qual params body scope dV kV doc pm an cdv ct), osl⟩) (hcd : PySem.W.codeIn K cdv qual = true) (S : FnScope N ps scope)
    (len : ∀ vs H Q E, sp vs H Q E → vs.length = ps.length)
    (hbody : ∀ (A : Around) (outer : List Env) (s : Shared) (H : Hp) (vs : List V) (Q : VK) (E : XK), Room k (A.deeper (envOfC qual scope s.heap.objs.size f cdv)) → sp vs H Q E →
      ∃ t, PSs (cxOf CX P w K mg base N qual scope f cdv A outer s H E) body t ∧ t { nx := fun _ H' => Q .non H', rt := Q } (start N vs) H) :
    FnOk P w K mg base CX (k + 1) f (PySem.W.fnOf name qual params body scope dV kV doc pm an cdv ct) ps sp := by
  refine ⟨len, fun A outer s H args us vs Q E hr e0 hb r hsp => ?_⟩
  have hl := len _ _ _ _ hsp
  have KX : K.In s.heap := e0.mod.kin.keeps fun b o e => (e0.bs b o e).1
  have lim : s.heap.NoLimit := e0.mod.nolimit.keeps fun b o e => (e0.bs b o e).1
  have hkind : ∀ y ∈ ps.zip us, scope.names.lookup y.1 = some .local ∨ (scope.names.lookup y.1 = some .cell ∧ ((cellsFrom (s.heap.objs.size + 1) scope.names []).lookup y.1).isSome = true) := fun ⟨n, v⟩ hy => by
    rcases S.par n (List.of_mem_zip hy).1 with q | q
    · exact .inl q
    · exact .inr ⟨q, PySem.W.cellsFrom_some _ _ _ (.inl q)⟩
  refine codeAny_call_function hr.depth (KX _ _ lk) rfl S.co S.gen rfl (PySem.W.codeRec_of KX hcd) (hb _ _ _ _ ?_)
  refine wpAny_newFunctionEnv_cells S.kind hkind fun env he s1 x => ?_
  subst he
  refine ⟨lim.keeps x.toInCall.keep, codeAny_func ?_⟩
  obtain ⟨t, ht, hq⟩ := hbody A outer s H vs Q E (hr.deeper _) hsp
  have I : Inv (cxOf CX P w K mg base N qual scope f cdv A outer s H E) [] (start N vs) H s1 := inv_start S hr.hd e0 hl r x
  refine wpAny_mono (ht [] s1 (start N vs) H _ I hq) (fun fl s' hs => ?_) fun e s' hs => hs
  have fin : ∀ {σ' : St} {H' : Hp} {v : V} {u : Value}, Inv (cxOf CX P w K mg base N qual scope f cdv A outer s H E) [] σ' H' s' → RelV v u → Q v H' → CE outer P w H s Q u s' :=
    fun {σ' H' v u} J rv q => ⟨v, H', J.os, J.bare, J.base, J.hok, rv, q⟩
  cases fl with
  | ret u =>
    obtain ⟨v, σ', H', J, rv, q⟩ := hs
    exact fin J rv q
  | next =>
    obtain ⟨σ', H', J, q⟩ := hs
    exact fin (v := V.non) (u := Value.none) J rfl q
  | brk =>
    obtain ⟨_, _, _, q⟩ := hs
    exact False.elim q
  | cont =>
    obtain ⟨_, _, _, q⟩ := hs
    exact False.elim q
end L2
namespace L2
open PySem PySem.Spec PyProof.Rows
section
variable {X : Cx} {x : Str} {p pos : Pos} {e : Expr} {es : List Expr} {t : TA} {id T : String} {r : List V → Hp → VK → Prop}
def tCB (r : List V → Hp → VK → Prop) (t : TA) : TE := fun σ H Q => t σ H fun vs H1 => r vs H1 Q
theorem pe_callB (hc : CallR X (.builtin id) r) (hg : Gl X x) (hm : X.mg x = none) (hv : bootBuiltins x = some (.builtin id)) (ha : PA X (e :: es) t) (hn : x ≠ "__name__" := by decide) (hdb : (x == ("__debug__" : Str)) = false := by decide)
    (he : starEach (e :: es) X.env = (false, eval e X.env) :: starEach es X.env := by rfl) (hpl : (backTo pos (starEach es X.env)).any (·.1) = false := by rfl) : PE X (.Call (.Name x p) (e :: es) [] pos) (tCB r t) := by
  intro pins s σ H Q I h
  refine wpAny_Call_Name_kw (ld_blt I hg hm hv ?_ hn hdb)
  exact PyProof.Rows.callWith_builtin1 (thn (ha pos pins s σ H _ I h) fun us s1 ⟨vs, H1, I1, r1, q1⟩ => hc pins s1 σ H1 vs us Q I1 r1 q1) he hpl
theorem pe_callTy (hc : CallR X (.type T) r) (hg : Gl X x) (hm : X.mg x = none) (hv : bootBuiltins x = some (.type T)) (ha : PA X (e :: es) t) (hn : x ≠ "__name__" := by decide) (hdb : (x == ("__debug__" : Str)) = false := by decide)
    (he : starEach (e :: es) X.env = (false, eval e X.env) :: starEach es X.env := by rfl) (hpl : (backTo pos (starEach es X.env)).any (·.1) = false := by rfl) : PE X (.Call (.Name x p) (e :: es) [] pos) (tCB r t) := by
  intro pins s σ H Q I h
  refine wpAny_Call_Name_kw (ld_blt I hg hm hv ?_ hn hdb)
  exact PyProof.Rows.callWith_type1 (thn (ha pos pins s σ H _ I h) fun us s1 ⟨vs, H1, I1, r1, q1⟩ => hc pins s1 σ H1 vs us Q I1 r1 q1) he hpl
end
end L2
namespace HT
open PySem PyProof.Rows
section
open PySem.SeqAt
open PySem.AutoSeq1 (wpAny_loadPart')
open PySem.MeetsSeq PySem.MeetsSeq2 PySem.MeetsSeq3
end
section
variable {prog : Program} {w : World} {A : Around} {E : Value → Shared → Prop} {s : Shared}
theorem cat_tup {t b : Addr} {vs ws : List Value} {Q : Value → Shared → Prop} (ht : IsTup s.heap t vs.toArray) (hb : IsTup s.heap b ws.toArray) (hv : vs ≠ [])
    (h1 : ws = [] → Q (.ref t) s) (h2 : ws ≠ [] → Q (.ref s.heap.objs.size) { s with heap := s.heap.push { cls := .type "tuple", data := .seq (vs ++ ws).toArray } })
    (hsz : vs.length + ws.length ≤ sizeLine) : wpAny (model prog w) A (binaryOp .Add (.ref t) (.ref b)) Q E s := by
  obtain ⟨⟨cls, dd, data, sl⟩, ho, hc, n, hd⟩ := id ht
  obtain ⟨⟨cls2, dd2, data2, sl2⟩, ho2, hc2, n2, hd2⟩ := id hb
  simp only at hc hd hc2 hd2
  subst hc hd hc2 hd2
  have e : vs.toArray ++ ws.toArray = (vs ++ ws).toArray := by simp
  by_cases hw : ws = []
  · exact concat_meets ⟨_, ho, rfl⟩ ⟨_, ho2, rfl⟩ noFill_tuple_add seq_tuple_add PySem.F.slot_tuple_add PySem.F.entry_tuple_add (PySem.F.args_tuple_add_2 _ _)
      (tuple_addW1 t b vs.toArray ws.toArray n n2 dd dd2 sl sl2 (by simpa using hv) (by simp [hw])) ⟨ho, ho2, h1 hw⟩
  · refine concat_meets ⟨_, ho, rfl⟩ ⟨_, ho2, rfl⟩ noFill_tuple_add seq_tuple_add PySem.F.slot_tuple_add PySem.F.entry_tuple_add (PySem.F.args_tuple_add_2 _ _)
      (tuple_addW2 t b vs.toArray ws.toArray n n2 dd dd2 sl sl2 (by simpa using hv) (by simpa using hw) (by rw [List.size_toArray, List.size_toArray]; exact hsz)) ⟨ho, ho2, ?_⟩
    rw [e]
    exact h2 hw
def sIx (n d : Nat) : Option Int → Nat
  | none => d
  | some v => if v < 0 then (v + (n : Int)).toNat else min v.toNat n
theorem sIx_none (n d : Nat) : sIx n d none = d := rfl
theorem sIx_nat (n d k : Nat) : sIx n d (some (k : Int)) = min k n := by
  show (if (k : Int) < 0 then ((k : Int) + (n : Int)).toNat else min (k : Int).toNat n) = min k n
  rw [if_neg (by omega), Int.toNat_natCast]
theorem sIx_le (n d : Nat) (hd : d ≤ n) (o : Option Int) : sIx n d o ≤ n := by
  cases o with
  | none => exact hd
  | some v =>
    show (if v < 0 then (v + (n : Int)).toNat else min v.toNat n) ≤ n
    by_cases hv : v < 0
    · rw [if_pos hv]; omega
    · rw [if_neg hv]; exact Nat.min_le_right _ _
theorem clip_eq (v : Int) (n d : Nat) : (if v < 0 then max (v + (n : Int)) 0 else min v (n : Int)) = ((sIx n d (some v) : Nat) : Int) := by
  show (if v < 0 then max (v + (n : Int)) 0 else min v (n : Int)) = (((if v < 0 then (v + (n : Int)).toNat else min v.toNat n) : Nat) : Int)
  by_cases hv : v < 0
  · simp only [if_pos hv]; omega
  · simp only [if_neg hv]; omega
theorem adjust_gen (lo hi : Option Int) (n : Nat) : Builtin.Slice.sliceAdjust lo hi 1 (n : Int) = (((sIx n 0 lo : Nat) : Int), ((sIx n n hi : Nat) : Int)) := by
  have h1 : ¬ ((1 : Int) < 0) := by omega
  unfold Builtin.Slice.sliceAdjust
  simp only [h1, if_false]
  refine Prod.ext ?_ ?_
  · cases lo with
    | none => rfl
    | some v => exact clip_eq v n 0
  · cases hi with
    | none => rfl
    | some v => exact clip_eq v n n
theorem places_gen (i j : Nat) : Builtin.Slice.slicePlaces (i : Int) (j : Int) 1 = j - i := by
  unfold Builtin.Slice.slicePlaces
  have h1 : (1 : Int) > 0 := by omega
  simp only [h1, if_true, Int.ediv_one]
  split <;> omega
theorem slicePart_ {v : Value} {o : Option Int} {Q : Option Int → Shared → Prop} (p : IsPart v o) (h : Q o s) : wpAny (model prog w) A (Builtin.Slice.slicePartIndex v) Q E s := by
  cases p with
  | none => exact slicePart_none h
  | int i t => exact slicePart_int h
theorem sliceApplied_gen {sl : Addr} {vl vu : Value} {lo hi : Option Int} {n : Nat} {Q : Int × Int × Nat → Shared → Prop} (hs : s.heap.IsSliceOf sl vl vu .none) (pl : IsPart vl lo) (pu : IsPart vu hi)
    (h : Q (((sIx n 0 lo : Nat) : Int), 1, sIx n n hi - sIx n 0 lo) s) : wpAny (model prog w) A (Builtin.Slice.sliceApplied (.ref sl) (pure (n : Int))) Q E s := by
  obtain ⟨os, hos, hcs, hds⟩ := id hs
  unfold Builtin.Slice.sliceApplied Builtin.Slice.sliceFields
  refine wpAny_bind (wpAny_bind (wpAny_field hos hds (x := vl) rfl (wpAny_bind (wpAny_field hos hds (x := vu) rfl (wpAny_bind (wpAny_field hos hds (x := .none) rfl (wpAny_pure ?_)))))))
  refine wpAny_bind (slicePart_none ?_)
  show wpAny _ _ (if ((1 : Int) == 0) = true then _ else _) _ _ s
  rw [if_neg (by decide)]
  refine wpAny_bind (slicePart_ pl (wpAny_bind (slicePart_ pu (wpAny_bind (wpAny_pure ?_)))))
  show wpAny _ _ (match Builtin.Slice.sliceAdjust lo hi 1 (n : Int) with | (lo, hi) => pure (lo, (1 : Int), Builtin.Slice.slicePlaces lo hi 1)) _ _ s
  rw [adjust_gen lo hi n]
  show wpAny _ _ (pure (((sIx n 0 lo : Nat) : Int), (1 : Int), Builtin.Slice.slicePlaces ((sIx n 0 lo : Nat) : Int) ((sIx n n hi : Nat) : Int) 1)) _ _ s
  rw [places_gen]
  exact wpAny_pure h
theorem pick_gen (xs : Array Value) (i k : Nat) : ((List.range k).filterMap fun (m : Nat) => xs[((i : Int) + (m : Int) * 1).toNat]?).toArray = ((xs.toList.drop i).take k).toArray := by
  have e : (fun (m : Nat) => xs[((i : Int) + (m : Int) * 1).toNat]?) = fun m => xs[i + m]? := by
    funext m
    have : ((i : Int) + (m : Int) * 1).toNat = i + m := by omega
    rw [this]
  rw [e]
  have := pick_run xs i k
  rw [List.filterMap_map] at this
  have e2 : ((fun x => xs[x]?) ∘ fun x => i + x) = fun m => xs[i + m]? := rfl
  rw [e2] at this
  rw [this]
theorem getItem_tuple_cut {t sl : Addr} {items : Array Value} {vl vu : Value} {lo hi : Option Int} {Q : Value → Shared → Prop} (ht : IsTup s.heap t items) (hs : s.heap.IsSliceOf sl vl vu .none) (pl : IsPart vl lo) (pu : IsPart vu hi)
    (hw : ¬ (sIx items.size 0 lo = 0 ∧ sIx items.size items.size hi = items.size))
    (h : Q (.ref s.heap.objs.size) { s with heap := s.heap.push { cls := .type "tuple", data := .seq ((items.toList.drop (sIx items.size 0 lo)).take (sIx items.size items.size hi - sIx items.size 0 lo)).toArray } })
    (hsz : items.size ≤ sizeLine) : wpAny (model prog w) A (getItem (.ref t) (.ref sl)) Q E s := by
  have htake : sizeOk (.seq ((items.toList.drop (sIx items.size 0 lo)).take (sIx items.size items.size hi - sIx items.size 0 lo)).toArray) := by
    show ((items.toList.drop (sIx items.size 0 lo)).take (sIx items.size items.size hi - sIx items.size 0 lo)).toArray.size ≤ sizeLine
    rw [List.size_toArray, List.length_take, List.length_drop, Array.length_toList]
    omega
  have hj : sIx items.size items.size hi ≤ items.size := sIx_le _ _ (Nat.le_refl _) hi
  obtain ⟨os, hos, hcs, hds⟩ := id hs
  have hTs : s.TypeIs (.ref sl) "slice" := ⟨os, hos, hcs⟩
  unfold getItem
  try with_reducible refine wpAny_holding ?_
  first | refine wpAny_bind (wpAny_pure ?_) | skip
  refine wpAny_bind (wpAny_sequenceKey ht.typeIs (by decide) ?_)
  refine wpAny_bind (wpAny_callSpecial?_slot (name := Str.ofString "__getitem__") ht.typeIs PyProof.Rows.slot_tuple_getitem
    (wpAny_call_entry PyProof.Rows.slot_tuple_getitem ht.typeIs entry_tuple_getitem ?_ (args_tuple_getitem _ _)))
  show wpAny _ _ (Builtin.Tuple.tupleItemsOf (.ref t) >>= _) _ _ s
  refine wpAny_bind (tupleItemsOf_ ht ?_)
  refine wpAny_bind (wpAny_typeOf hTs ?_)
  rw [if_pos (by decide)]
  refine wpAny_bind (sliceApplied_gen hs pl pu ?_)
  have hno : ¬ ((((sIx items.size 0 lo : Nat) : Int) == 0 && (1 : Int) == 1 && (sIx items.size items.size hi - sIx items.size 0 lo) == items.size) = true) := by
    intro q
    rw [Bool.and_eq_true, Bool.and_eq_true] at q
    have q1 : ((sIx items.size 0 lo : Nat) : Int) = 0 := eq_of_beq q.1.1
    have q2 : sIx items.size items.size hi - sIx items.size 0 lo = items.size := eq_of_beq q.2
    exact hw ⟨by omega, by omega⟩
  show wpAny _ _ (if (((sIx items.size 0 lo : Nat) : Int) == 0 && (1 : Int) == 1 && (sIx items.size items.size hi - sIx items.size 0 lo) == items.size) = true then _ else _) _ _ s
  rw [if_neg hno, pick_gen]
  first
    | exact wpAny_bind (m := Builtin.Tuple.tupleExact _) (wpAny_newObj_type (wpAny_pure ⟨_, rfl, wpAny_pure h⟩) htake)
    | exact wpAny_bind (m := Builtin.Tuple.tupleExact _) (wpAny_newObj_type (wpAny_bind (wpAny_pure (wpAny_pure ⟨_, rfl, wpAny_pure h⟩))) htake)
    | exact wpAny_bind (wpAny_bind (m := Builtin.Tuple.tupleExact _) (wpAny_newObj_type (wpAny_pure (wpAny_pure ⟨_, rfl, wpAny_pure h⟩)) htake))
    | exact wpAny_bind (wpAny_bind (m := Builtin.Tuple.tupleExact _) (wpAny_newObj_type (wpAny_pure ⟨_, rfl, wpAny_pure h⟩) htake))
end
end HT
namespace L2
open PySem PySem.Spec PyProof.Rows
abbrev TO := St → Hp → (Option Int → Hp → Prop) → Prop
def PO (X : Cx) (e : Option Expr) (t : TO) : Prop :=
  ∀ (pins : List (Addr × Obj)) (s : Shared) (σ : St) (H : Hp) (Q : Option Int → Hp → Prop), Inv X pins σ H s → t σ H Q →
    wpAny (model X.prog X.w) X.A (evalPart e X.env) (fun u s' => ∃ o H', Inv X pins σ H' s' ∧ IsPart u o ∧ Q o H') X.xe s
def tNoPart : TO := fun _ H Q => Q none H
def tPart (t : TE) : TO := fun σ H Q => t σ H fun x H1 => ∃ i, x = .int i ∧ Q (some i) H1
section
variable {X : Cx} {e : Expr} {te : TE} {lo hi : Option Expr} {tl th : TO} {pos p2 : Pos}
theorem po_none : PO X none tNoPart := by
  intro pins s σ H Q I h
  rw [evalPart_none]
  exact wpAny_pure ⟨none, H, I, .none, h⟩
theorem po_some (h : PE X e te) : PO X (some e) (tPart te) := by
  intro pins s σ H Q I hw
  rw [evalPart_some]
  refine thn (h pins s σ H _ I hw) fun u s1 ⟨x, H1, I1, r1, q1⟩ => ?_
  obtain ⟨i, rfl, q⟩ := q1
  obtain ⟨t, rfl⟩ := r1
  exact ⟨some i, H1, I1, .int i t, q⟩
def SlR (X : Cx) (r : V → Option Int → Option Int → Hp → VK → Prop) : Prop :=
  ∀ (pins : List (Addr × Obj)) (s : Shared) (σ : St) (H : Hp) (x : V) (v vl vu : Value) (lo hi : Option Int) (sl : Addr) (Q : VK), Inv X pins σ H s → RelV x v → s.heap.IsSliceOf sl vl vu .none → IsPart vl lo → IsPart vu hi → r x lo hi H Q →
    ∃ T id, typeLookup (.type T) "__getitem__" = pure (some (.builtin id)) ∧ s.TypeIs v T ∧ wpAny (model X.prog X.w) X.A (getItem v (.ref sl)) (EP X pins σ Q) X.xe s
def tSl (r : V → Option Int → Option Int → Hp → VK → Prop) (te : TE) (tl th : TO) : TE := fun σ H Q => te σ H fun x H1 => tl σ H1 fun l H2 => th σ H2 fun u H3 => r x l u H3 Q
theorem pe_slice {r : V → Option Int → Option Int → Hp → VK → Prop} (hr : SlR X r) (he : PE X e te) (hl : PO X lo tl) (hu : PO X hi th) : PE X (.Subscript e (.Slice lo hi none p2) pos) (tSl r te tl th) := by
  intro pins s σ H Q I h
  refine Subscript_ (thn (he pins s σ H _ I h) fun v s1 ⟨x, H1, I1, r1, q1⟩ => ?_)
  refine wpAny_Slice (thn (hl pins s1 σ H1 _ I1 q1) fun vl s2 ⟨l, H2, I2, pl, q2⟩ => thn (hu pins s2 σ H2 _ I2 q2) fun vu s3 ⟨u, H3, I3, pu, q3⟩ => ?_)
  rw [evalPart_none]
  refine wpAny_pure ?_
  have I4 : Inv X pins σ H3 { s3 with heap := s3.heap.push { cls := .type "slice", data := .fields #[vl, vu, .none] } } := I3.kept (t' := s3.toks) fun b ob q => Heap.get?_push_of_some _ q
  obtain ⟨T, id, hT, ht, hg⟩ := hr pins { s3 with heap := s3.heap.push { cls := .type "slice", data := .fields #[vl, vu, .none] } } σ H3 x v vl vu l u s3.heap.objs.size Q I4 r1 (Heap.IsSliceOf.new ..) pl pu q3
  show wpAny (model X.prog X.w) X.A (subscriptTail e (.Slice lo hi none p2) v (.ref s3.heap.objs.size)) (EP X pins σ Q) X.xe { s3 with heap := s3.heap.push { cls := .type "slice", data := .fields #[vl, vu, .none] } }
  exact tail_any (ops := [.ref s3.heap.objs.size, v]) ht hT hg (by with_unfolding_all rfl)
def cutV (xs : List V) (lo hi : Option Int) : List V := (xs.drop (HT.sIx xs.length 0 lo)).take (HT.sIx xs.length xs.length hi - HT.sIx xs.length 0 lo)
theorem cutV_length (xs : List V) (lo hi : Option Int) : (cutV xs lo hi).length ≤ xs.length := by
  unfold cutV
  rw [List.length_take, List.length_drop]
  omega
def rSlT (K : PySem.W.Frag) : V → Option Int → Option Int → Hp → VK → Prop := fun x lo hi H Q => ∃ a xs, x = .ref a ∧ SqT K H a xs ∧
  ¬ (HT.sIx xs.length 0 lo = 0 ∧ HT.sIx xs.length xs.length hi = xs.length) ∧ ∀ p, H p = none → Q (.ref p) (upd H p (.tup (cutV xs lo hi)))
theorem sl_tup : SlR X (rSlT X.K) := by
  intro pins s σ H x v vl vu lo hi sl Q I rx hs pl pu h
  obtain ⟨a, xs, rfl, hx, hw, q⟩ := h
  cases rx
  obtain ⟨its, r, ht, hz⟩ := I.tuple hx
  have hlen : its.toArray.size = xs.length := by rw [List.size_toArray]; exact r.length.symm
  refine ⟨"tuple", _, PyProof.Rows.slot_tuple_getitem.lookup, ht.typeIs, ?_⟩
  refine HT.getItem_tuple_cut ht hs pl pu (by rw [hlen]; exact hw) ?_ (by rw [hlen]; exact hz)
  rw [hlen]
  refine ⟨.ref s.heap.objs.size, _, I.laid (t' := s.toks) (o := .tup (cutV xs lo hi)) (fun b ob q => Heap.get?_push_of_some _ q) (Nat.le_refl _) ?_, rfl, q _ (I.hok.fresh (Nat.le_refl _))⟩
  exact ⟨Nat.le_trans (cutV_length xs lo hi) hz, _, (r.drop (HT.sIx xs.length 0 lo)).take (HT.sIx xs.length xs.length hi - HT.sIx xs.length 0 lo), IsTup.new _ _⟩
def rCatT (K : PySem.W.Frag) : R2 := fun x y H Q => ∃ a b xs ys, x = .ref a ∧ y = .ref b ∧ SqT K H a xs ∧ SqT K H b ys ∧ xs ≠ [] ∧ xs.length + ys.length ≤ sizeLine ∧
  (ys = [] → Q (.ref a) H) ∧ (ys ≠ [] → ∀ p, H p = none → Q (.ref p) (upd H p (.tup (xs ++ ys))))
theorem Vals.nil_iff {xs : List V} {us : List Value} (r : Vals xs us) : us = [] ↔ xs = [] := by
  cases r with
  | nil => simp
  | cons _ _ => simp
theorem op_catT : OpR X (binaryOp .Add) (rCatT X.K) := by
  intro pins s σ H x y v u Q I rx ry h
  obtain ⟨a, b, xs, ys, rfl, rfl, ha, hb, hx, hz, q1, q2⟩ := h
  cases rx
  cases ry
  obtain ⟨its, r1, p1, _⟩ := I.tuple ha
  obtain ⟨its2, r2, p2, _⟩ := I.tuple hb
  refine HT.cat_tup p1 p2 (fun z => hx (r1.nil_iff.mp z)) (fun z => ⟨.ref a, H, I, rfl, q1 (r2.nil_iff.mp z)⟩) (fun z => ?_) (by rw [← r1.length, ← r2.length]; exact hz)
  refine ⟨.ref s.heap.objs.size, _, I.laid (t' := s.toks) (o := .tup (xs ++ ys)) (fun b ob q => Heap.get?_push_of_some _ q) (Nat.le_refl _) ?_, rfl, q2 (fun w => z (r2.nil_iff.mpr w)) _ (I.hok.fresh (Nat.le_refl _))⟩
  exact ⟨by rw [List.length_append]; exact hz, _, r1.append r2, IsTup.new _ _⟩
end
end L2
namespace L2
open PySem PySem.Spec PyProof.Rows
def ixN (n : Nat) (i : Int) : Option Nat := if 0 ≤ i then (if i < n then some i.toNat else none) else if -(n : Int) ≤ i then some (i + n).toNat else none
def atI {α : Type} (xs : List α) (i : Int) : Option α := (ixN xs.length i).bind fun j => xs[j]?
theorem ixN_seq {n : Nat} {i : Int} {j : Nat} (h : ixN n i = some j) : seqIndex? i n = some j ∧ j < n ∧ -(n : Int) ≤ i ∧ i < n := by
  unfold ixN at h
  by_cases h0 : 0 ≤ i
  · rw [if_pos h0] at h
    by_cases h1 : i < n
    · rw [if_pos h1] at h
      have e : i.toNat = j := Option.some.inj h
      exact ⟨by rw [seqIndex_of h0 h1, e], by omega, by omega, h1⟩
    · rw [if_neg h1] at h; cases h
  · rw [if_neg h0] at h
    by_cases h1 : -(n : Int) ≤ i
    · rw [if_pos h1] at h
      have e : (i + n).toNat = j := Option.some.inj h
      exact ⟨by rw [seqIndex_neg (by omega) h1, e], by omega, h1, by omega⟩
    · rw [if_neg h1] at h; cases h
theorem atI_get {α : Type} {xs : List α} {i : Int} {v : α} (h : atI xs i = some v) : ∃ j, seqIndex? i xs.length = some j ∧ xs[j]? = some v ∧ j < xs.length ∧ -(xs.length : Int) ≤ i ∧ i < xs.length := by
  unfold atI at h
  cases e : ixN xs.length i with
  | none => rw [e] at h; cases h
  | some j =>
    rw [e] at h
    obtain ⟨h1, h2, h3, h4⟩ := ixN_seq e
    exact ⟨j, h1, h, h2, h3, h4⟩
theorem atI_nat {α : Type} {xs : List α} {j : Nat} {v : α} (h : xs[j]? = some v) : atI xs (j : Int) = some v := by
  have hj : j < xs.length := (List.getElem?_eq_some_iff.mp h).1
  have e : ixN xs.length (j : Int) = some j := by
    unfold ixN
    rw [if_pos (by omega), if_pos (by omega)]; simp
  unfold atI; rw [e]; exact h
def PlainIx (b : Expr) : Prop := ∀ o i, subscripted b false o i = operate [o, i] (getItem o i)
def IxR (X : Cx) (r : R2) : Prop :=
  ∀ (value slice : Expr) (pins : List (Addr × Obj)) (s : Shared) (σ : St) (H : Hp) (x y : V) (v u : Value) (Q : VK), Inv X pins σ H s → RelV x v → RelV y u → r x y H Q →
    subscripted slice false v u = operate [v, u] (getItem v u) → wpAny (model X.prog X.w) X.A (subscriptTail value slice v u) (EP X pins σ Q) X.xe s
def MtR (X : Cx) (id : String) (r : V → List V → Hp → VK → Prop) : Prop :=
  ∀ (pins : List (Addr × Obj)) (s : Shared) (σ : St) (H : Hp) (x : V) (xs : List V) (v : Value) (us : List Value) (Q : VK), Inv X pins σ H s → RelV x v → Vals xs us → r x xs H Q →
    wpAny (model X.prog X.w) X.A (call (.builtin id) (v :: us)) (EP X pins σ Q) X.xe s
section
variable {X : Cx} {a b : Expr} {ta tb : TE} {pos : Pos}
theorem pe_ix {r : R2} (hr : IxR X r) (ha : PE X a ta) (hb : PE X b tb) (hs : PlainIx b) : PE X (.Subscript a b pos) (tOp r ta tb) := by
  intro pins s σ H Q I h
  exact Subscript_ (binT ha hb I h fun v u s2 x y H2 I2 rx ry q => hr a b pins s2 σ H2 x y v u Q I2 rx ry q (hs _ _))
def rIxL (K : PySem.W.Frag) : R2 := fun x y H Q => ∃ p xs i v, x = .ref p ∧ y = .int i ∧ SqL K H p xs ∧ atI xs i = some v ∧ Q v H
def rIxT (K : PySem.W.Frag) : R2 := fun x y H Q => ∃ p xs i v, x = .ref p ∧ y = .int i ∧ SqT K H p xs ∧ atI xs i = some v ∧ Q v H
def rIxS : R2 := fun x y H Q => ∃ z i c, x = .str z ∧ y = .int i ∧ z.length ≤ sizeLine ∧ atI z.cps.toList i = some c ∧ Q (.str ⟨#[c]⟩) H
theorem ix_list : IxR X (rIxL X.K) := by
  intro value slice pins s σ H x y v u Q I rx ry h hs
  obtain ⟨p, xs, i, z, rfl, rfl, hq, he, q⟩ := h
  cases rx
  obtain ⟨t, rfl⟩ := ry
  obtain ⟨its, r, pl, hz⟩ := I.list hq
  obtain ⟨j, h1, h2, h3, h4, h5⟩ := atI_get he
  obtain ⟨w, ew, rw'⟩ := r.get h2
  have hl := r.length
  have hn := line63
  have fin : EP X pins σ Q w s := ⟨z, H, I, rw', q⟩
  by_cases h0 : 0 ≤ i
  · have hj : i.toNat = j := by
      rw [seqIndex_of h0 h5] at h1
      exact Option.some.inj h1
    exact item_listR pl.isList h0 (by omega) (by rw [hj]; simpa using ew) fin hs
  · have hj : (i + (its.toArray.size : Int)).toNat = j := by
      rw [seqIndex_neg (by omega) h4] at h1
      rw [List.size_toArray, ← hl]
      exact Option.some.inj h1
    exact subscriptTail_builtinR (x := w) pl.isList.typeIs slot_list_getitem.lookup
      (wpAny_getItem_list_neg (Q := fun r s' => r = w ∧ EP X pins σ Q r s') pl.isList (by omega) (by rw [List.size_toArray] <;> omega) (by omega) (by rw [hj]; simpa using ew) ⟨rfl, fin⟩) hs
theorem ix_tup : IxR X (rIxT X.K) := by
  intro value slice pins s σ H x y v u Q I rx ry h hs
  obtain ⟨p, xs, i, z, rfl, rfl, hq, he, q⟩ := h
  cases rx
  obtain ⟨t, rfl⟩ := ry
  obtain ⟨its, r, pl, hz⟩ := I.tuple hq
  obtain ⟨j, h1, h2, h3, h4, h5⟩ := atI_get he
  obtain ⟨w, ew, rw'⟩ := r.get h2
  have hl := r.length
  have hn := line63
  have fin : EP X pins σ Q w s := ⟨z, H, I, rw', q⟩
  exact subscriptTail_builtinR (x := w) pl.typeIs slot_tuple_getitem.lookup
    (getItem_tuple (j := j) (Q := fun r s' => r = w ∧ EP X pins σ Q r s') pl (by omega) (by omega) (by rw [List.size_toArray, ← hl]; exact h1) (by simpa using ew) ⟨rfl, fin⟩) hs
theorem ix_str : IxR X rIxS := by
  intro value slice pins s σ H x y v u Q I rx ry h hs
  obtain ⟨z, i, c, rfl, rfl, hz, he, q⟩ := h
  obtain ⟨t, rfl⟩ := rx
  obtain ⟨t', rfl⟩ := ry
  obtain ⟨j, h1, h2, h3, h4, h5⟩ := atI_get he
  have hl : z.cps.toList.length = z.length := by simp [Str.length]
  rw [hl] at h1 h4 h5
  have hn := line63
  exact tail_any (typeIs_str s z t) slot_str_getitem.lookup (getItem_str (c := c) (by
    have e1 : decide (i < -(2 ^ 63 : Int)) = false := decide_eq_false (by omega)
    have e2 : decide (i ≥ 2 ^ 63) = false := decide_eq_false (by omega)
    rw [e1, e2, Bool.or_false]) (by rw [h1]; simpa using h2) ⟨.str ⟨#[c]⟩, H, I.tok _, ⟨_, rfl⟩, q⟩) hs
theorem mapSeq_set (its : List Value) (n j : Nat) (u : Value) : Obj.mapSeq (·.setIfInBounds j u) { cls := .type "list", data := .seq its.toArray n } = { cls := .type "list", data := .seq (its.set j u).toArray n } := by
  simp [Obj.mapSeq]
theorem Inv.lst {pins : List (Addr × Obj)} {σ : St} {H : Hp} {s : Shared} {p : Addr} {xs : List V} (I : Inv X pins σ H s) (h : H p = some (.lst xs)) :
    ∃ (its : List Value) (n : Nat), Vals xs its ∧ s.heap.get? p = some { cls := .type "list", data := .seq its.toArray n } ∧ xs.length ≤ sizeLine := by
  obtain ⟨z, its, n, r, e⟩ := I.hok p _ h
  exact ⟨its, n, r, e, z⟩
theorem Inv.lstUpd {pins : List (Addr × Obj)} {σ : St} {H : Hp} {s : Shared} {p : Addr} {xs ys : List V} {its its' : List Value} {n n' : Nat} {f : Obj → Obj} (I : Inv X pins σ H s) (h : H p = some (.lst xs))
    (ho : s.heap.get? p = some { cls := .type "list", data := .seq its.toArray n }) (hf : f { cls := .type "list", data := .seq its.toArray n } = { cls := .type "list", data := .seq its'.toArray n' }) (r : Vals ys its') (hz : ys.length ≤ sizeLine) (t : Nat) :
    Inv X pins σ (upd H p (.lst ys)) { s with heap := s.heap.update p f, toks := t } := by
  have e : (s.heap.update p f).get? p = some { cls := .type "list", data := .seq its'.toArray n' } := by
    rw [Heap.get?_update_self f ho (by rw [hf] <;> rfl), hf]
  refine I.write (x := p) (e := p) (by rw [h]; trivial) (.inl rfl) (fun b u hb q => (Heap.get?_update_other _ _ (Ne.symm hb)).trans q) ⟨_, e⟩ ?_
  exact ⟨hz, its', n', r, e⟩
def rSetL : V → V → V → Hp → (Hp → Prop) → Prop := fun o i v H Q => ∃ p xs k j, o = .ref p ∧ i = .int k ∧ H p = some (.lst xs) ∧ ixN xs.length k = some j ∧ Q (upd H p (.lst (xs.set j v)))
theorem set_list : PSet X rSetL := by
  intro pins s σ H o i v ov iv u Q I ro ri rv h
  obtain ⟨p, xs, k, j, rfl, rfl, hp, hj, q⟩ := h
  cases ro
  obtain ⟨t, rfl⟩ := ri
  obtain ⟨its, n, r, ho, hz⟩ := I.lst hp
  obtain ⟨h1, h2, h3, h4⟩ := ixN_seq hj
  have hl := r.length
  have hn := line63
  have I' : Inv X pins σ (upd H p (.lst (xs.set j v))) { s with heap := s.heap.update p (Obj.mapSeq (·.setIfInBounds j u)) } :=
    I.lstUpd hp ho (mapSeq_set its n j u) (r.set rv j) (by rw [List.length_set]; exact hz) s.toks
  by_cases h0 : 0 ≤ k
  · have hk : k.toNat = j := by
      rw [seqIndex_of h0 h4] at h1
      exact Option.some.inj h1
    exact PySem.W.ki_setAt ho h0 (by omega) (by rw [List.size_toArray, ← hl]; exact h4) (by rw [hk]; exact ⟨_, I', q⟩)
  · have hk : (k + (its.toArray.size : Int)).toNat = j := by
      rw [seqIndex_neg (by omega) h3] at h1
      rw [List.size_toArray, ← hl]
      exact Option.some.inj h1
    exact PySem.W.ki_setBack ho (by omega) (by rw [List.size_toArray, ← hl]; exact h3) (by omega) (by rw [hk]; exact ⟨_, I', q⟩)
theorem slice_bounds (lo hi : Option Int) (n : Nat) : (sliceBounds lo hi none n).1 = ((HT.sIx n 0 lo : Nat) : Int) ∧ (sliceBounds lo hi none n).2.1 = ((HT.sIx n n hi : Nat) : Int) ∧ (sliceBounds lo hi none n).2.2 = 1 := by
  refine ⟨?_, ?_, rfl⟩
  · cases lo with
    | none => simp [sliceBounds, HT.sIx]
    | some i =>
      simp only [sliceBounds, HT.sIx, Option.getD_none, show (1 : Int) > 0 by decide, if_true]
      by_cases h : i < 0
      · simp only [h, if_true] <;> omega
      · simp only [h, if_false] <;> omega
  · cases hi with
    | none => simp [sliceBounds, HT.sIx]
    | some i =>
      simp only [sliceBounds, HT.sIx, Option.getD_none, show (1 : Int) > 0 by decide, if_true]
      by_cases h : i < 0
      · simp only [h, if_true] <;> omega
      · simp only [h, if_false] <;> omega
theorem slicePick_cut (its : List Value) (lo hi : Option Int) : slicePick its.toArray lo hi none = ((its.drop (HT.sIx its.length 0 lo)).take (HT.sIx its.length its.length hi - HT.sIx its.length 0 lo)).toArray := by
  obtain ⟨h1, h2, h3⟩ := slice_bounds lo hi its.toArray.size
  unfold slicePick
  rw [h1, h2, h3]
  simp only [sliceRange_one, pick_run, List.size_toArray] <;> rfl
def rSlL (K : PySem.W.Frag) : V → Option Int → Option Int → Hp → VK → Prop := fun x lo hi H Q => ∃ a xs, x = .ref a ∧ SqL K H a xs ∧ ∀ p, H p = none → Q (.ref p) (upd H p (.lst (cutV xs lo hi)))
theorem sl_list : SlR X (rSlL X.K) := by
  intro pins s σ H x v vl vu lo hi sl Q I rx hs pl pu h
  obtain ⟨a, xs, rfl, hx, q⟩ := h
  cases rx
  obtain ⟨its, r, ht, hz⟩ := I.list hx
  have hlen := r.length
  refine ⟨"list", _, slot_list_getitem.lookup, ht.isList.typeIs, ?_⟩
  refine wpAny_getItem_list_slice ht.isList hs pl pu .none (by simp) ?_ (by rw [List.size_toArray] <;> omega)
  rw [slicePick_cut, ← hlen]
  refine ⟨.ref s.heap.objs.size, _, I.laid (t' := s.toks) (o := .lst (cutV xs lo hi)) (fun b ob q => Heap.get?_push_of_some _ q) (Nat.le_refl _) ?_, rfl, q _ (I.hok.fresh (Nat.le_refl _))⟩
  exact ⟨Nat.le_trans (cutV_length xs lo hi) hz, _, 0, (r.drop (HT.sIx xs.length 0 lo)).take (HT.sIx xs.length xs.length hi - HT.sIx xs.length 0 lo), Heap.get?_push_size _ rfl⟩
def flatV : V → Bool
  | .non => true
  | .bl _ => true
  | .int _ => true
  | .str _ => true
  | _ => false
def eqV : V → V → Bool
  | .non, .non => true
  | .bl a, .bl b => a == b
  | .bl a, .int b => (if a then 1 else 0) == b
  | .int a, .bl b => a == (if b then 1 else 0)
  | .int a, .int b => a == b
  | .str a, .str b => a == b
  | _, _ => false
theorem eqAt_V {A : Around} {s : Shared} {y x : V} {u v : Value} (ry : RelV y u) (rx : RelV x v) (fy : flatV y = true) (fx : flatV x = true) : SeqAt.EqAt A s u v (eqV y x) := by
  cases y with
  | non =>
    cases ry
    cases x with
    | non => cases rx; exact SeqAt.EqAt.same _
    | bl b => cases rx; exact SeqAt.EqAt.none_bool b
    | int b => obtain ⟨t, rfl⟩ := rx; exact SeqAt.EqAt.none_int b t
    | str b => obtain ⟨t, rfl⟩ := rx; exact SeqAt.EqAt.none_str b t
    | _ => exact absurd (show false = true from fx) Bool.false_ne_true
  | bl a =>
    cases ry
    cases x with
    | non => cases rx; exact SeqAt.EqAt.bool_none a
    | bl b => cases rx; exact SeqAt.EqAt.bool_bool a b
    | int b => obtain ⟨t, rfl⟩ := rx; exact SeqAt.EqAt.bool_int a b t
    | str b => obtain ⟨t, rfl⟩ := rx; exact SeqAt.EqAt.bool_str a b t
    | _ => exact absurd (show false = true from fx) Bool.false_ne_true
  | int a =>
    obtain ⟨t', rfl⟩ := ry
    cases x with
    | non => cases rx; exact SeqAt.EqAt.int_none a t'
    | bl b => cases rx; exact SeqAt.EqAt.int_bool a t' b
    | int b => obtain ⟨t, rfl⟩ := rx; exact SeqAt.EqAt.int_int a t' b t
    | str b => obtain ⟨t, rfl⟩ := rx; exact SeqAt.EqAt.int_str a t' b t
    | _ => exact absurd (show false = true from fx) Bool.false_ne_true
  | str a =>
    obtain ⟨t', rfl⟩ := ry
    cases x with
    | non => cases rx; exact SeqAt.EqAt.str_none a t'
    | bl b => cases rx; exact SeqAt.EqAt.str_bool a t' b
    | int b => obtain ⟨t, rfl⟩ := rx; exact SeqAt.EqAt.str_int a t' b t
    | str b => obtain ⟨t, rfl⟩ := rx; exact SeqAt.EqAt.str_str a t' b t
    | _ => exact absurd (show false = true from fx) Bool.false_ne_true
  | _ => exact absurd (show false = true from fy) Bool.false_ne_true
def eqU (x : V) (u : Value) : Bool := match u with
  | .none => eqV .non x
  | .bool b => eqV (.bl b) x
  | .int i _ => eqV (.int i) x
  | .str z _ => eqV (.str z) x
  | _ => false
theorem eqU_of {x y : V} {u : Value} (r : RelV y u) (f : flatV y = true) : eqU x u = eqV y x := by
  cases y with
  | non => cases r; rfl
  | bl b => cases r; rfl
  | int i => obtain ⟨t, rfl⟩ := r; rfl
  | str z => obtain ⟨t, rfl⟩ := r; rfl
  | _ => exact absurd (show false = true from f) Bool.false_ne_true
theorem any_eqU {x : V} : ∀ {xs : List V} {us : List Value}, Vals xs us → xs.all flatV = true → us.any (eqU x) = xs.any fun y => eqV y x
  | _, _, .nil, _ => rfl
  | y :: xs, u :: us, .cons r t, f => by
    rw [List.all_cons, Bool.and_eq_true] at f
    rw [List.any_cons, List.any_cons, eqU_of r f.1, any_eqU t f.2]
theorem mem_eqAt {A : Around} {s : Shared} {x : V} {v : Value} (rx : RelV x v) (fx : flatV x = true) : ∀ {xs : List V} {us : List Value}, Vals xs us → xs.all flatV = true → ∀ u ∈ us, SeqAt.EqAt A s u v (eqU x u)
  | _, _, .nil, _ => fun u hu => by cases hu
  | y :: xs, u :: us, .cons r t, f => fun u' hu => by
    rw [List.all_cons, Bool.and_eq_true] at f
    rcases List.mem_cons.mp hu with rfl | hu
    · rw [eqU_of r f.1]; exact eqAt_V r rx f.1 fx
    · exact mem_eqAt rx fx t f.2 u' hu
def inV (x : V) (xs : List V) : Bool := xs.any fun y => eqV y x
def rIn (K : PySem.W.Frag) (neg : Bool) : R2 := fun x y H Q => ∃ p xs, y = .ref p ∧ (SqL K H p xs ∨ SqT K H p xs) ∧ flatV x = true ∧ xs.all flatV = true ∧ Q (.bl (if neg then !inV x xs else inV x xs)) H
theorem op_in_seq : OpR X (compareOp .In) (rIn X.K false) := by
  intro pins s σ H x y v u Q I rx ry h
  obtain ⟨p, xs, rfl, hq, fx, fs, q⟩ := h
  cases ry
  rcases hq with hq | hq
  · obtain ⟨its, r, pl, hz⟩ := I.list hq
    refine SeqAt.in_listAt (eqU x) pl.isList (fun w hw => mem_eqAt rx fx r fs w (by simpa using hw)) ⟨.bl _, H, I, rfl, ?_⟩
    rw [show its.toArray.any (eqU x) = its.any (eqU x) by simp, any_eqU r fs]
    exact q
  · obtain ⟨its, r, pl, hz⟩ := I.tuple hq
    refine SeqAt.in_tupleAt (eqU x) pl (fun w hw => mem_eqAt rx fx r fs w (by simpa using hw)) ⟨.bl _, H, I, rfl, ?_⟩
    rw [show its.toArray.any (eqU x) = its.any (eqU x) by simp, any_eqU r fs]
    exact q
theorem call_len_seq : CallR X (.builtin "len") (fun xs H Q => ∃ p ys, xs = [.ref p] ∧ (SqL X.K H p ys ∨ SqT X.K H p ys) ∧ Q (.int ys.length) H) := by
  intro pins s σ H xs us Q I r h
  obtain ⟨p, ys, rfl, hq, q⟩ := h
  obtain ⟨u, rfl, rx⟩ := vals1 r
  cases rx
  have hn := line63
  rcases hq with hq | hq
  · obtain ⟨its, r', pl, hz⟩ := I.list hq
    have hlen := r'.length
    exact Calls.call_len_list pl.isList (by simp only [List.size_toArray] <;> omega) ⟨.int ys.length, H, I.tok _, ⟨s.toks + 1, by rw [List.size_toArray, hlen]⟩, q⟩
  · obtain ⟨its, r', pl, hz⟩ := I.tuple hq
    have hlen := r'.length
    exact len_tuple pl (by simp only [List.size_toArray] <;> omega) ⟨.int ys.length, H, I.tok _, ⟨s.toks + 1, by rw [List.size_toArray, hlen]⟩, q⟩
theorem call_list_of : CallR X (.type "list") (fun xs H Q => ∃ p ys, xs = [.ref p] ∧ (SqL X.K H p ys ∨ SqT X.K H p ys) ∧ ∀ l, H l = none → Q (.ref l) (upd H l (.lst ys))) := by
  intro pins s σ H xs us Q I r h
  obtain ⟨p, ys, rfl, hq, q⟩ := h
  obtain ⟨u, rfl, rx⟩ := vals1 r
  cases rx
  have fin : ∀ (its : List Value), Vals ys its → ys.length ≤ sizeLine → ∀ (h' : Heap) (c' : Nat), (∀ b o', s.heap.get? b = some o' → h'.get? b = some o') →
      h'.get? s.heap.objs.size = some { cls := .type "list", dict := none, data := .seq its.toArray c', slots := #[] } → EP X pins σ Q (.ref s.heap.objs.size) { s with heap := h' } := fun its r' hz h' c' kp e =>
    ⟨.ref s.heap.objs.size, _, I.laid (t' := s.toks) kp (Nat.le_refl _) (show ObjOk X.prog X.w _ h' _ (.lst ys) from ⟨hz, its, c', r', e⟩), rfl, q _ (I.hok.fresh (Nat.le_refl _))⟩
  rcases hq with hq | hq
  · obtain ⟨its, r', pl, hz⟩ := I.list hq
    have hlen := r'.length
    obtain ⟨o, ho, hc, n, hd⟩ := pl.isList
    exact call_list_seq p (.inl rfl) ho hc hd (fun h' c' kp e => fin its r' hz h' c' kp e) (by simp only [List.size_toArray] <;> omega)
  · obtain ⟨its, r', pl, hz⟩ := I.tuple hq
    have hlen := r'.length
    obtain ⟨o, ho, hc, n, hd⟩ := pl
    exact call_list_seq p (.inr rfl) ho hc hd (fun h' c' kp e => fin its r' hz h' c' kp e) (by simp only [List.size_toArray] <;> omega)
theorem call_tuple_of : CallR X (.type "tuple") (fun xs H Q => ∃ p ys, xs = [.ref p] ∧ ((SqL X.K H p ys ∧ ∀ l, H l = none → Q (.ref l) (upd H l (.tup ys))) ∨ (SqT X.K H p ys ∧ Q (.ref p) H))) := by
  intro pins s σ H xs us Q I r h
  obtain ⟨p, ys, rfl, h⟩ := h
  obtain ⟨u, rfl, rx⟩ := vals1 r
  cases rx
  rcases h with ⟨hq, q⟩ | ⟨hq, q⟩
  · obtain ⟨its, r', pl, hz⟩ := I.list hq
    have hlen := r'.length
    refine call_tuple_list pl.isList (fun h' kp => ?_) (by simp only [List.size_toArray] <;> omega)
    have I1 : Inv X pins σ H { s with heap := h' } := I.kept (t' := s.toks) kp
    have I2 : Inv X pins σ (upd H h'.objs.size (.tup ys)) { s with heap := h'.push { cls := .type "tuple", data := .seq its.toArray } } :=
      I1.laid (t' := s.toks) (fun b o e => Heap.get?_push_of_some _ e) (Nat.le_refl _) (show ObjOk X.prog X.w _ _ _ (.tup ys) from ⟨hz, its, r', IsTup.new _ _⟩)
    exact ⟨.ref h'.objs.size, _, I2, rfl, q _ (I1.hok.fresh (Nat.le_refl _))⟩
  · obtain ⟨its, r', pl, hz⟩ := I.tuple hq
    exact call_tuple_same pl ⟨.ref p, H, I, rfl, q⟩
def tyV (K : PySem.W.Frag) (T : String) (x : V) (H : Hp) : Prop := match x with
  | .str _ => T = "str"
  | .int _ => T = "int"
  | .ref p => (T = "list" ∧ ∃ xs, SqL K H p xs) ∨ (T = "tuple" ∧ ∃ o, K.lookup p = some o ∧ o.cls = .type "tuple" ∧ o.dict = none) ∨
      (T = "dict" ∧ ((∃ kvs, H p = some (.dK kvs)) ∨ ∃ kvs, H p = some (.dT kvs))) ∨ (T = "set" ∧ ∃ S n, H p = some (.set S n))
  | _ => False
theorem tyV_is {pins : List (Addr × Obj)} {σ : St} {H : Hp} {s : Shared} {T : String} {x : V} {v : Value} (I : Inv X pins σ H s) (r : RelV x v) (ty : tyV X.K T x H) :
    s.TypeIs v T ∧ ∀ a, v = .ref a → ∃ ob, s.heap.get? a = some ob ∧ ob.dict = none := by
  cases x with
  | str z =>
    obtain ⟨t, rfl⟩ := r
    cases (show T = "str" from ty)
    exact ⟨typeIs_str s z t, fun _ e => nomatch e⟩
  | int i =>
    obtain ⟨t, rfl⟩ := r
    cases (show T = "int" from ty)
    exact ⟨typeIs_int s i t, fun _ e => nomatch e⟩
  | ref p =>
    cases r
    rcases ty with ⟨rfl, xs, hq⟩ | ⟨rfl, o, hk, hc, hd⟩ | ⟨rfl, hk⟩ | ⟨rfl, S, n, hk⟩
    · obtain ⟨its, _, pl, _⟩ := I.list hq
      refine ⟨pl.isList.typeIs, fun a e => ?_⟩
      cases e
      obtain ⟨o, n, e, c, hd, _⟩ := pl
      exact ⟨o, e, hd⟩
    · refine ⟨⟨o, I.kIn p o hk, hc⟩, fun a e => ?_⟩
      cases e
      exact ⟨o, I.kIn _ o hk, hd⟩
    · have z : ∃ o, s.heap.get? p = some o ∧ o.ExactDict := by
        rcases hk with ⟨kvs, hk⟩ | ⟨kvs, hk⟩
        · obtain ⟨_, _, _, _, o, _, _, e, ex, _⟩ := I.hok p _ hk
          exact ⟨o, e, ex⟩
        · obtain ⟨_, _, _, _, o, _, _, e, ex, _⟩ := I.hok p _ hk
          exact ⟨o, e, ex⟩
      obtain ⟨o, e, ex⟩ := z
      refine ⟨⟨o, e, ex.1⟩, fun a e2 => ?_⟩
      cases e2
      exact ⟨o, e, ex.2.1⟩
    · obtain ⟨o, _, _, _, e, ex, _⟩ := I.hok p _ hk
      refine ⟨⟨o, e, ex.1⟩, fun a e2 => ?_⟩
      cases e2
      exact ⟨o, e, ex.2.1⟩
  | _ => exact False.elim ty
def tBM (K : PySem.W.Frag) (T : String) (r : V → List V → Hp → VK → Prop) (to : TE) (t : TA) : TE := fun σ H Q => to σ H fun x H1 => tyV K T x H1 ∧ t σ H1 fun xs H2 => r x xs H2 Q
variable {o e : Expr} {es : List Expr} {to : TE} {t : TA} {name : Str} {apos cpos : Pos} {T id : String} {r : V → List V → Hp → VK → Prop}
theorem pe_bm (pa : PlainAttrs T) (slot : Slot T name id) (hty : typeOf (.builtin id) = pure (.type "method_descriptor")) (hm : MtR X id r) (ho : PE X o to) (ha : PA X (e :: es) t)
    (hbase : attributeBase o name X.env (eval o X.env) = eval o X.env := by rfl)
    (hfew : ((backTo cpos (starEach (e :: es) X.env)).all (fun x => !x.1) && (backToKw cpos (keywordEach [] X.env)).all (fun x => x.1.isSome)
      && decide ((e :: es).length + ([] : List Keyword).length + (if ([] : List Keyword).isEmpty then 0 else 1) < 30)) = true := by rfl)
    (hline : (apos.endLine == cpos.line) = true := by rfl) (hs : starEach (e :: es) X.env = (false, eval e X.env) :: starEach es X.env := by rfl) (hplain : (backTo cpos (starEach es X.env)).any (·.1) = false := by rfl) :
    PE X (.Call (.Attribute o name apos) (e :: es) [] cpos) (tBM X.K T r to t) := by
  intro pins s σ H Q I h
  refine wpAny_Call_method_late hbase hfew hline rfl (thn (ho pins s σ H _ I h) fun v s1 ⟨x, H1, I1, r1, ty, q1⟩ => ?_)
  obtain ⟨h1, h2⟩ := tyV_is I1 r1 ty
  refine ⟨T, id, pa, slot, hty, h1, h2, ?_⟩
  have hA := ha cpos pins s1 σ H1 _ I1 q1
  rw [hs] at hA ⊢
  refine Calls.callWith_builtin (by show (false || (backTo cpos (starEach es X.env)).any (·.1)) = false; rw [hplain] <;> rfl) (Calls.evalArgs_plain ?_)
  exact thn hA fun us s2 ⟨vs, H2, I2, r2, q2⟩ => hm pins s2 σ H2 x vs v us Q I2 r1 r2 q2
end
end L2
namespace L2
open PySem PySem.Spec PyProof.Rows
def MtM (X : Cx) (id : String) (r : V → List V → Hp → VK → Prop) : Prop :=
  ∀ (pins : List (Addr × Obj)) (s : Shared) (σ : St) (H : Hp) (x : V) (xs : List V) (v : Value) (us : List Value) (Q : VK), Inv X pins σ H s → RelV x v → Vals xs us → r x xs H Q →
    wpAny (model X.prog X.w) X.A (call (.builtin id) (v :: us)) (EP X pins σ Q) X.xe s
theorem Vals.one : ∀ {x : V} {us : List Value}, Vals [x] us → ∃ u, us = [u] ∧ RelV x u
  | _, _, .cons r .nil => ⟨_, rfl, r⟩
theorem Vals.rep {xs : List V} {us : List Value} (h : Vals xs us) : ∀ k : Nat, Vals (List.replicate k xs).flatten (List.replicate k us).flatten
  | 0 => .nil
  | k + 1 => by
    rw [List.replicate_succ, List.replicate_succ, List.flatten_cons, List.flatten_cons]
    exact Vals.append h (Vals.rep h k)
theorem foldl_rep (its : List Value) : ∀ (k : Nat) (acc : List Value),
    List.foldl (fun x1 x2 => x1 ++ x2) acc.toArray (List.replicate k its.toArray) = (acc ++ (List.replicate k its).flatten).toArray
  | 0, acc => by simp
  | k + 1, acc => by
    have e : acc.toArray ++ its.toArray = (acc ++ its).toArray := by simp
    have e2 : (acc ++ its) ++ (List.replicate k its).flatten = acc ++ (List.replicate (k + 1) its).flatten := by
      rw [List.replicate_succ, List.flatten_cons, List.append_assoc]
    rw [← e2, ← foldl_rep its k (acc ++ its), ← e, List.replicate_succ, List.foldl_cons]
section
variable {X : Cx} {pins : List (Addr × Obj)} {σ : St} {H : Hp} {s : Shared} {l b : Addr} {xs ys zs : List V}
theorem Inv.lset {its its' : List Value} {n : Nat} {f : Array Value → Array Value} {t' : Nat} (I : Inv X pins σ H s) (hH : H l = some (.lst xs))
    (e : s.heap.get? l = some { cls := .type "list", data := .seq its.toArray n }) (hf : f its.toArray = its'.toArray) (hv : Vals ys its') (hz : ys.length ≤ sizeLine) :
    Inv X pins σ (upd H l (.lst ys)) { s with heap := s.heap.update l (Obj.mapSeq f), toks := t' } := by
  have q := PySem.IsL.update e f
  rw [hf] at q
  refine I.write (x := l) (e := l) (by rw [hH]; exact trivial) (.inl rfl) (fun b' u hb hu => (Heap.get?_update_other s.heap (Obj.mapSeq f) (Ne.symm hb)).trans hu) ⟨_, q⟩ ?_
  exact ⟨hz, its', _, hv, q⟩
theorem Inv.lnew {its : List Value} {t' : Nat} (I : Inv X pins σ H s) (hv : Vals ys its) (hz : ys.length ≤ sizeLine) :
    Inv X pins σ (upd H s.heap.objs.size (.lst ys)) { s with heap := s.heap.push { cls := .type "list", data := .seq its.toArray }, toks := t' } :=
  I.laid (fun _ _ q => Heap.get?_push_of_some _ q) (Nat.le_refl _) ⟨hz, its, 0, hv, Heap.get?_push_size _ rfl⟩
theorem Inv.fresh (I : Inv X pins σ H s) : H s.heap.objs.size = none := I.hok.fresh (Nat.le_refl _)
theorem Inv.lstM (I : Inv X pins σ H s) (hH : H l = some (.lst xs)) : xs.length ≤ sizeLine ∧ ∃ (its : List Value) (n : Nat), Vals xs its ∧ xs.length = its.length ∧ s.heap.get? l = some { cls := .type "list", data := .seq its.toArray n } := by
  obtain ⟨z, its, n, r, e⟩ := I.hok l _ hH
  exact ⟨z, its, n, r, r.length, e⟩
theorem notLongL {n : Nat} (h : n ≤ sizeLine) : Builtin.List.listTooLong n = false := by
  unfold Builtin.List.listTooLong
  exact decide_eq_false (by omega)
end
section
variable {X : Cx}
def rAppend : V → List V → Hp → VK → Prop := fun x vs H Q => ∃ l xs y, x = .ref l ∧ vs = [y] ∧ H l = some (.lst xs) ∧ xs.length < sizeLine ∧ Q .non (upd H l (.lst (xs ++ [y])))
theorem mt_append : MtM X "list.append" rAppend := by
  intro pins s σ H x vs v us Q I rx rv h
  obtain ⟨l, xs, y, rfl, rfl, hH, hz, q⟩ := h
  cases rx
  obtain ⟨u, rfl, ru⟩ := rv.one
  obtain ⟨z, its, n, r, hl, e⟩ := I.lstM hH
  refine call_meets F.slot_list_append ⟨_, e, rfl⟩ F.entry_list_append (F.args_list_append_2 _ _) (PySem.list_append l its.toArray n u (by rw [List.size_toArray]; omega)) ⟨e, ?_⟩
  refine ⟨.non, _, I.lset (its' := its ++ [u]) hH e (by simp) (r.append (.cons ru .nil)) ?_, rfl, q⟩
  rw [List.length_append, List.length_singleton]
  omega
def rCat : R2 := fun x y H Q => ∃ l b xs zs, x = .ref l ∧ y = .ref b ∧ H l = some (.lst xs) ∧ H b = some (.lst zs) ∧ xs.length + zs.length ≤ sizeLine ∧ ∀ p, H p = none → Q (.ref p) (upd H p (.lst (xs ++ zs)))
theorem op_cat : OpR X (binaryOp .Add) rCat := by
  intro pins s σ H x y v u Q I rx ry h
  obtain ⟨l, b, xs, zs, rfl, rfl, hH, hB, hz, q⟩ := h
  cases rx
  cases ry
  obtain ⟨z, its, n, r, hl, e⟩ := I.lstM hH
  obtain ⟨z2, its2, n2, r2, hl2, e2⟩ := I.lstM hB
  refine PySem.P.add_list e e2 ?_ (by rw [List.size_toArray, List.size_toArray]; omega)
  have ea : its.toArray ++ its2.toArray = (its ++ its2).toArray := by simp
  rw [ea]
  exact ⟨.ref _, _, I.lnew (t' := s.toks) (r.append r2) (by rw [List.length_append]; omega), rfl, q _ I.fresh⟩
def rRep : R2 := fun x y H Q => ∃ l k xs, x = .ref l ∧ y = .int k ∧ H l = some (.lst xs) ∧ -(2 ^ 63) ≤ k ∧ k < 2 ^ 63 ∧ xs.length * k.toNat ≤ sizeLine ∧
  ∀ p, H p = none → Q (.ref p) (upd H p (.lst (List.replicate k.toNat xs).flatten))
theorem len_rep {α : Type} (xs : List α) (k : Nat) : (List.replicate k xs).flatten.length = k * xs.length := by
  induction k with
  | zero => simp
  | succ k ih => rw [List.replicate_succ, List.flatten_cons, List.length_append, ih, Nat.succ_mul, Nat.add_comm]
theorem op_rep : OpR X (binaryOp .Mult) rRep := by
  intro pins s σ H x y v u Q I rx ry h
  obtain ⟨l, k, xs, rfl, rfl, hH, h1, h2, hz, q⟩ := h
  cases rx
  obtain ⟨t, rfl⟩ := ry
  obtain ⟨z, its, n, r, hl, e⟩ := I.lstM hH
  have hlen : its.toArray.size * k.toNat ≤ sizeLine := by rw [List.size_toArray, ← hl]; exact hz
  have hcap : ¬ its.toArray.size * k.toNat > (2 ^ 63 - 1) / 8 := by
    have : (sizeLine : Nat) ≤ (2 ^ 63 - 1) / 8 := by decide
    omega
  have hfit : ¬ (!Builtin.List.listFitsIndex k) = true := by
    rw [fitsIndex_both h1 h2]
    exact Bool.false_ne_true
  have hlong : ¬ Builtin.List.listTooLong (its.toArray.size * k.toNat) = true := by
    rw [notLongL hlen]
    exact Bool.false_ne_true
  have hnew : List.foldl (fun x1 x2 => x1 ++ x2) #[] (List.replicate (if its.toArray.isEmpty = true then 0 else k.toNat) its.toArray) = (List.replicate k.toNat its).flatten.toArray := by
    have f0 : ∀ m : Nat, List.foldl (fun x1 x2 => x1 ++ x2) #[] (List.replicate m its.toArray) = (List.replicate m its).flatten.toArray := fun m => by
      have := foldl_rep its m []
      rw [List.nil_append] at this
      exact this
    rw [f0]
    cases its with
    | nil => simp
    | cons a r' => rw [if_neg (by simp)]
  refine wpAny_binaryOp_repeat_ref (T := "list") (U := "int") (by decide) ⟨_, e, rfl⟩ (fun s' => typeIs_int s' k t) noFill_list_mul F.fills_int_mul F.slot_int_rmul repeat_list F.slot_int_index.lookup
    (call_meets F.slot_int_rmul (typeIs_int s k t) F.entry_int_rmul (F.args_int_rmul_2 _ _) (int___rmul___int_list k t l its.toArray n)
      ⟨e, rfl, ⟨_, e, rfl⟩, call_meets F.slot_list_mul ⟨_, e, rfl⟩ F.entry_list_mul (F.args_list_mul_2 _ _) (AutoListH.list___mul___list_int_3 l its.toArray n k t hfit hcap hlong) ⟨e, ?_⟩⟩)
  rw [hnew]
  exact ⟨.ref _, _, I.lnew (t' := s.toks) (r.rep k.toNat) (by rw [len_rep, Nat.mul_comm]; exact hz), rfl, q _ I.fresh⟩
end
section
variable {prog : Program} {w : World} {A : Around} {E : Value → Shared → Prop} {s : Shared}
end
section
variable {X : Cx}
end
end L2
namespace L2
open PySem PySem.Spec PyProof.Rows
section
variable {κ : Type} [DecidableEq κ]
def valV (kvs : List (κ × V)) (k : κ) : Option V := (kvs.find? fun kv => decide (kv.1 = k)).map (·.2)
def putK (kvs : List (κ × V)) (k : κ) (v : V) : List (κ × V) :=
  if (kvs.any fun kv => decide (kv.1 = k)) = true then kvs.map (fun kv => if kv.1 = k then (kv.1, v) else kv) else kvs ++ [(k, v)]
theorem valV_pos {p : κ × V} {r : List (κ × V)} {k : κ} (e : p.1 = k) : valV (p :: r) k = some p.2 := by simp [valV, List.find?_cons, e]
theorem valV_neg {p : κ × V} {r : List (κ × V)} {k : κ} (e : ¬ p.1 = k) : valV (p :: r) k = valV r k := by simp [valV, List.find?_cons, e]
theorem valV_any (k : κ) : ∀ kvs : List (κ × V), (kvs.any fun kv => decide (kv.1 = k)) = (valV kvs k).isSome
  | [] => rfl
  | p :: r => by
    rw [List.any_cons]
    by_cases e : p.1 = k
    · simp only [valV_pos e, decide_eq_true e, Bool.true_or, Option.isSome_some]
    · rw [valV_neg e, decide_eq_false e, Bool.false_or]; exact valV_any k r
theorem valV_map (k j : κ) (y : V) : ∀ kvs : List (κ × V), valV (kvs.map fun kv => if kv.1 = k then (kv.1, y) else kv) j = (valV kvs j).map fun x => if j = k then y else x
  | [] => rfl
  | p :: r => by
    have ih := valV_map k j y r
    rw [List.map_cons]
    by_cases h : p.1 = k
    · rw [if_pos h]
      by_cases e : p.1 = j
      · rw [valV_pos (p := (p.1, y)) e, valV_pos e, Option.map_some, if_pos (e.symm.trans h)]
      · rw [valV_neg (p := (p.1, y)) e, valV_neg e, ih]
    · rw [if_neg h]
      by_cases e : p.1 = j
      · rw [valV_pos (p := p) e, valV_pos e, Option.map_some, if_neg (fun z => h (e.trans z))]
      · rw [valV_neg (p := p) e, valV_neg e, ih]
theorem valV_snoc (k j : κ) (y : V) : ∀ kvs : List (κ × V), valV kvs k = none → valV (kvs ++ [(k, y)]) j = if j = k then some y else valV kvs j
  | [], _ => by
    by_cases e : k = j
    · rw [if_pos e.symm]; exact valV_pos (p := (k, y)) e
    · rw [if_neg (fun z => e z.symm)]; exact valV_neg (p := (k, y)) e
  | p :: r, hn => by
    rw [List.cons_append]
    have hk : ¬ p.1 = k := fun z => by rw [valV_pos z] at hn; cases hn
    rw [valV_neg hk] at hn
    have ih := valV_snoc k j y r hn
    by_cases e : p.1 = j
    · rw [valV_pos e, valV_pos e, if_neg (fun z => hk (e.trans z))]
    · rw [valV_neg e, valV_neg e, ih]
theorem valV_put (kvs : List (κ × V)) (k j : κ) (y : V) : valV (putK kvs k y) j = if j = k then some y else valV kvs j := by
  unfold putK
  by_cases a : (kvs.any fun kv => decide (kv.1 = k)) = true
  · rw [if_pos a, valV_map]
    rw [valV_any] at a
    by_cases e : j = k
    · obtain ⟨x, hx⟩ := Option.isSome_iff_exists.mp a
      rw [if_pos e, e, hx, Option.map_some, if_pos rfl]
    · rw [if_neg e]
      cases valV kvs j with
      | none => rfl
      | some x => rw [Option.map_some, if_neg e]
  · rw [if_neg a]
    refine valV_snoc k j y kvs ?_
    rw [valV_any] at a
    cases q : valV kvs k with
    | none => rfl
    | some x => rw [q] at a; exact (a rfl).elim
theorem length_putK (kvs : List (κ × V)) (k : κ) (v : V) : (putK kvs k v).length ≤ kvs.length + 1 := by
  unfold putK
  split
  · rw [List.length_map]; omega
  · rw [List.length_append, List.length_cons, List.length_nil]; omega
theorem RelO.isSome_eq {o : Option V} {u : Option Value} (r : RelO o u) : o.isSome = u.isSome := by
  cases o with
  | none => cases u with
    | none => rfl
    | some _ => exact (show False from r).elim
  | some _ => cases u with
    | none => exact (show False from r).elim
    | some _ => rfl
theorem KV.val {kvs : List (κ × V)} {vs : List (κ × Value)} (r : KV kvs vs) (k : κ) : RelO (valV kvs k) (valueAt vs k) := by
  unfold KV at r
  induction r with
  | nil => exact True.intro
  | @cons p q ps qs h t ih =>
    obtain ⟨h1, h2⟩ := h
    by_cases e : p.1 = k
    · have e' : q.1 = k := h1.symm.trans e
      have b : valueAt (q :: qs) k = some q.2 := by simp [valueAt, List.find?_cons, e']
      rw [valV_pos e, b]; exact h2
    · have e' : ¬ q.1 = k := fun z => e (h1.trans z)
      have b : valueAt (q :: qs) k = valueAt qs k := by simp [valueAt, List.find?_cons, e']
      rw [valV_neg e, b]; exact ih
theorem KV.any {kvs : List (κ × V)} {vs : List (κ × Value)} (r : KV kvs vs) (k : κ) : (kvs.any fun kv => decide (kv.1 = k)) = vs.any fun kv => decide (kv.1 = k) := by
  unfold KV at r
  induction r with
  | nil => rfl
  | cons h t ih => rw [List.any_cons, List.any_cons, ih, h.1]
theorem KV.repl {kvs : List (κ × V)} {vs : List (κ × Value)} (r : KV kvs vs) (k : κ) {y : V} {u : Value} (ry : RelV y u) :
    KV (kvs.map fun kv => if kv.1 = k then (kv.1, y) else kv) (vs.map fun kv => if kv.1 = k then (kv.1, u) else kv) := by
  unfold KV at r ⊢
  induction r with
  | nil => exact .nil
  | @cons p q ps qs h t ih =>
    rw [List.map_cons, List.map_cons]
    refine .cons ?_ ih
    obtain ⟨h1, h2⟩ := h
    by_cases e : p.1 = k
    · rw [if_pos e, if_pos (h1.symm.trans e)]; exact ⟨h1, ry⟩
    · rw [if_neg e, if_neg (fun z => e (h1.trans z))]; exact ⟨h1, h2⟩
theorem KV.put {kvs : List (κ × V)} {vs : List (κ × Value)} (r : KV kvs vs) (k : κ) {y : V} {u : Value} (ry : RelV y u) : KV (putK kvs k y) (stored vs k u) := by
  unfold putK stored
  rw [r.any k]
  by_cases e : (vs.any fun kv => decide (kv.1 = k)) = true
  · rw [if_pos e, if_pos e]; exact r.repl k ry
  · rw [if_neg e, if_neg e]; exact Paired.snoc r ⟨rfl, ry⟩
theorem KV.length {kvs : List (κ × V)} {vs : List (κ × Value)} (r : KV kvs vs) : kvs.length = vs.length := Paired.length r
end
theorem kV_is {P : Program} {w : World} {k : Key} {u : Value} (r : RelV (kV k) u) : (mixKind P w).is k u = true := by
  cases k with
  | inl i => obtain ⟨t, e⟩ := (show ∃ t, u = Value.int i t from r); subst e; exact mixKind_int P w i t
  | inr x => obtain ⟨t, e⟩ := (show ∃ t, u = Value.str x t from r); subst e; exact mixKind_str P w x t
theorem items_are {P : Program} {w : World} : ∀ {ks : List Key} {us : List Value}, Vals (ks.map kV) us → ItemsAre (mixKind P w) ks us
  | [], _, r => by rw [List.map_nil] at r; cases r; exact .nil
  | k :: ks, _, r => by
    rw [List.map_cons] at r
    cases r with
    | cons h t => exact .cons (kV_is h) (items_are t)
abbrev KT (H : Hp) : List (List Key × V) → List (List Key × Addr × Value) → Prop := Paired fun p q => p.1 = q.1 ∧ H q.2.1 = some (.tup (p.1.map kV)) ∧ RelV p.2 q.2.2
theorem KT.val {H : Hp} {kvs : List (List Key × V)} {xs : List (List Key × Addr × Value)} (r : KT H kvs xs) (k : List Key) : RelO (valV kvs k) ((atKey xs k).map (·.2)) := by
  induction r with
  | nil => exact True.intro
  | @cons p q ps qs h t ih =>
    obtain ⟨h1, _, h2⟩ := h
    by_cases e : p.1 = k
    · have e' : q.1 = k := h1.symm.trans e
      have b : atKey (q :: qs) k = some q.2 := by simp [atKey, List.find?_cons, e']
      rw [valV_pos e, b]; exact h2
    · have e' : ¬ q.1 = k := fun z => e (h1.trans z)
      have b : atKey (q :: qs) k = atKey qs k := by simp [atKey, List.find?_cons, e']
      rw [valV_neg e, b]; exact ih
theorem KT.repl {H : Hp} {kvs : List (List Key × V)} {xs : List (List Key × Addr × Value)} (r : KT H kvs xs) (k : List Key) {y : V} {u : Value} (ry : RelV y u) :
    KT H (kvs.map fun kv => if kv.1 = k then (kv.1, y) else kv) (xs.map (putAt k u)) := by
  induction r with
  | nil => exact .nil
  | @cons p q ps qs h t ih =>
    rw [List.map_cons, List.map_cons]
    refine .cons ?_ ih
    obtain ⟨h1, h2, h3⟩ := h
    unfold putAt
    by_cases e : p.1 = k
    · rw [if_pos e, if_pos (h1.symm.trans e)]; exact ⟨h1, h2, ry⟩
    · rw [if_neg e, if_neg (fun z => e (h1.trans z))]; exact ⟨h1, h2, h3⟩
theorem KT.put {H : Hp} {kvs : List (List Key × V)} {xs : List (List Key × Addr × Value)} (r : KT H kvs xs) (k : List Key) {b : Addr} {y : V} {u : Value} (hb : H b = some (.tup (k.map kV))) (ry : RelV y u) :
    KT H (putK kvs k y) (storedH xs k b u) := by
  have e : (kvs.any fun kv => decide (kv.1 = k)) = (atKey xs k).isSome := by
    rw [valV_any, (r.val k).isSome_eq, Option.isSome_map]
  unfold putK storedH
  rw [e]
  by_cases q : (atKey xs k).isSome = true
  · rw [if_pos q, if_pos q]; exact r.repl k ry
  · rw [if_neg q, if_neg q]; exact Paired.snoc r ⟨rfl, hb, ry⟩
theorem KT.keeps {H H' : Hp} {kvs : List (List Key × V)} {xs : List (List Key × Addr × Value)} (r : KT H kvs xs) (ht : ∀ b ys, H b = some (.tup ys) → H' b = some (.tup ys)) : KT H' kvs xs :=
  Paired.mapP r fun _ _ z => ⟨z.1, ht _ _ z.2.1, z.2.2⟩
section
variable {P : Program} {w : World} {H : Hp} {h : Heap} {a : Addr}
theorem rd_of {u : HO} (ok : HOk P w H h) (e : Rd H a u) : ObjOk P w H h a u := e.ok ok
theorem dk_rd {kvs : List (Key × V)} (ok : HOk P w H h) (e : Rd H a (.dK kvs)) : kvs.length ≤ sizeLine ∧ (a == sysModules) = false ∧ ∃ vs, KV kvs vs ∧ h.DictOf (mixKind P w) a vs :=
  show ObjOk P w H h a (.dK kvs) from rd_of ok e
theorem dk_of {kvs : List (Key × V)} (ok : HOk P w H h) (e : H a = some (.dK kvs)) : kvs.length ≤ sizeLine ∧ (a == sysModules) = false ∧ ∃ vs, KV kvs vs ∧ h.DictOf (mixKind P w) a vs := dk_rd ok (.inl e)
theorem key_of {ks : List Key} (ok : HOk P w H h) (e : H a = some (.tup (ks.map kV))) : (tupleKind (mixKind P w)).is h ks a := by
  obtain ⟨_, its, r, o, h1, h2, n, h3⟩ := (show ObjOk P w H h a (.tup (ks.map kV)) from ok a _ e)
  exact ⟨o, its.toArray, n, h1, h2, h3, by simpa using items_are r⟩
theorem dt_rd {kvs : List (List Key × V)} (ok : HOk P w H h) (e : Rd H a (.dT kvs)) : kvs.length ≤ sizeLine ∧ (a == sysModules) = false ∧
    ∃ xs, KT H kvs xs ∧ h.DictOfH (tupleKind (mixKind P w)) a xs := by
  obtain ⟨z, y, xs, r, o, es, ep, h1, h2, h3, h4, h5⟩ := (show ObjOk P w H h a (.dT kvs) from rd_of ok e)
  refine ⟨z, y, xs, r, o, es, ep, h1, h2, h3, h4, fun x hx => ?_, h5⟩
  have all : ∀ {l : List (List Key × V)} {m : List (List Key × Addr × Value)}, KT H l m → ∀ x ∈ m, (tupleKind (mixKind P w)).is h x.1 x.2.1 := by
    intro l m q
    induction q with
    | nil => intro x hx; exact nomatch hx
    | @cons p q ps qs hq t ih =>
      intro x hx
      rcases List.mem_cons.mp hx with e | hx
      · subst e
        exact key_of ok (by rw [← hq.1]; exact hq.2.1)
      · exact ih x hx
  exact all r x hx
theorem dt_of {kvs : List (List Key × V)} (ok : HOk P w H h) (e : H a = some (.dT kvs)) : kvs.length ≤ sizeLine ∧ (a == sysModules) = false ∧
    ∃ xs, KT H kvs xs ∧ h.DictOfH (tupleKind (mixKind P w)) a xs := dt_rd ok (.inl e)
end
def DGet (H : Hp) (a : Addr) (y : V) (r : Option V) : Prop :=
  (∃ kvs k, Rd H a (.dK kvs) ∧ y = kV k ∧ r = valV kvs k) ∨ ∃ kvs k b, Rd H a (.dT kvs) ∧ y = .ref b ∧ H b = some (.tup (k.map kV)) ∧ r = valV kvs k
def DPut (H : Hp) (a : Addr) (y v : V) (H' : Hp) : Prop :=
  (∃ kvs k, H a = some (.dK kvs) ∧ y = kV k ∧ kvs.length < sizeLine ∧ H' = upd H a (.dK (putK kvs k v))) ∨
  ∃ kvs k b, H a = some (.dT kvs) ∧ y = .ref b ∧ H b = some (.tup (k.map kV)) ∧ kvs.length < sizeLine ∧ H' = upd H a (.dT (putK kvs k v))
theorem DGet.t {H : Hp} {a b : Addr} {kvs : List (List Key × V)} {k : List Key} (e : H a = some (.dT kvs)) (eb : H b = some (.tup (k.map kV))) : DGet H a (.ref b) (valV kvs k) := .inr ⟨kvs, k, b, .inl e, rfl, eb, rfl⟩
theorem DPut.t {H : Hp} {a b : Addr} {kvs : List (List Key × V)} {k : List Key} {v : V} (e : H a = some (.dT kvs)) (eb : H b = some (.tup (k.map kV))) (hl : kvs.length < sizeLine) :
    DPut H a (.ref b) v (upd H a (.dT (putK kvs k v))) := .inr ⟨kvs, k, b, e, rfl, eb, hl, rfl⟩
section
variable {X : Cx} {pins : List (Addr × Obj)} {σ : St} {H : Hp} {s : Shared} {a : Addr} {y v : V} {u r : Value} {o : Option V} {A : Around} {E : Value → Shared → Prop}
theorem Inv.big (I : Inv X pins σ H s) : sysModules < s.heap.objs.size := by
  have h : mainGlobals < s.heap.objs.size := (I.mod.glob.keeps I.bk).lt
  exact Nat.lt_trans (by decide) h
theorem d_getItem {Q : Value → Shared → Prop} (hu : A.units + 1 < cLine) (I : Inv X pins σ H s) (g : DGet H a y (some v)) (ry : RelV y u) (h : ∀ w' s', Inv X pins σ H s' → RelV v w' → Q w' s') :
    wpAny (model X.prog X.w) A (getItem (.ref a) u) Q E s := by
  rcases g with ⟨kvs, k, e, ey, l⟩ | ⟨kvs, k, b, e, ey, eb, l⟩
  · subst ey
    obtain ⟨z, hd, vs, rel, dd⟩ := dk_rd I.hok e
    obtain ⟨w', hw, rw'⟩ := RelO.some_of (v := v) (o := valueAt vs k) (by rw [l]; exact rel.val k)
    exact wpAny_getItem_of (kV_is ry) dd.mapOf hw (h w' _ (I.tok _) rw')
  · subst ey
    cases (show u = Value.ref b from ry)
    obtain ⟨z, hd, xs, rel, dd⟩ := dt_rd I.hok e
    obtain ⟨w', hw, rw'⟩ := RelO.some_of (v := v) (o := (atKey xs k).map (·.2)) (by rw [l]; exact rel.val k)
    obtain ⟨p, hp, hp2⟩ := Option.map_eq_some_iff.mp hw
    refine wpAny_getItem_heap (tupleKind_room_in1 hu) (key_of I.hok eb) dd hp ?_
    rw [hp2]
    exact h w' _ (I.tok _) rw'
theorem d_write {h' : Heap} {t' : Nat} {ob : HO} (I : Inv X pins σ H s) (mu : Mut (H a)) (hs : Heap.SameBut a s.heap h') (he : ∃ q, h'.get? a = some q) (new : ObjOk X.prog X.w (upd H a ob) h' a ob) :
    Inv X pins σ (upd H a ob) { s with heap := h', toks := t' } :=
  I.write (x := a) (e := a) mu (.inl rfl) (fun b q hb z => (hs.2 b hb).trans z) he new
theorem dk_new {P : Program} {w : World} {H' : Hp} {h' : Heap} {kvs : List (Key × V)} {vs : List (Key × Value)} (z : kvs.length ≤ sizeLine) (hd : (a == sysModules) = false) (rel : KV kvs vs) (dd : h'.DictOf (mixKind P w) a vs) :
    ObjOk P w H' h' a (.dK kvs) := ⟨z, hd, vs, rel, dd⟩
theorem d_setItem {H' : Hp} {Q : Unit → Shared → Prop} (hu : A.units + 1 < cLine) (I : Inv X pins σ H s) (g : DPut H a y v H') (ry : RelV y u) (rv : RelV v r) (h : ∀ s', Inv X pins σ H' s' → Q () s') :
    wpAny (model X.prog X.w) A (setItem (.ref a) u r) Q E s := by
  rcases g with ⟨kvs, k, e, ey, l, eH⟩ | ⟨kvs, k, b, e, ey, eb, l, eH⟩
  · subst ey eH
    obtain ⟨z, hd, vs, rel, dd⟩ := dk_of I.hok e
    have hz : vs.length ≤ sizeLine := by rw [← rel.length]; exact z
    have hl : (putK kvs k v).length ≤ sizeLine := by have := length_putK kvs k v; omega
    refine wpAny_setItem_pairs (hsz := hz) (kV_is ry) dd fun h' dd' hs => h _ ?_
    have he : ∃ q, h'.get? a = some q := let ⟨q, _, _, hq, _⟩ := dd'; ⟨q, hq⟩
    exact d_write I (by rw [e]; exact True.intro) hs he (dk_new hl hd (rel.put k rv) dd')
  · subst ey eH
    cases (show u = Value.ref b from ry)
    obtain ⟨z, hd, xs, rel, dd⟩ := dt_of I.hok e
    have hz : xs.length ≤ sizeLine := by rw [← Paired.length rel]; exact z
    have hl : (putK kvs k v).length ≤ sizeLine := by have := length_putK kvs k v; omega
    refine wpAny_setItem_heap (hsz := hz) (tupleKind_room_in1 hu) (key_of I.hok eb) dd fun h' dd' hs => h _ ?_
    obtain ⟨q, es, ep, hq, h2, h3, h4, _, h5⟩ := dd'
    refine d_write I (by rw [e]; exact True.intro) hs ⟨q, hq⟩ ⟨hl, hd, _, (rel.put k eb rv).keeps fun c ys ec => ?_, q, es, ep, hq, h2, h3, h4, h5⟩
    rw [upd_ne (ne_of ec e (fun z => nomatch z))]
    exact ec
end
section
variable {X : Cx} {pins : List (Addr × Obj)} {σ : St} {H : Hp} {s : Shared} {a : Addr} {kvs : List (Key × V)} {k : Key} {u : Value} {A : Around} {E : Value → Shared → Prop}
end
def NoSl (i : Expr) : Prop := ∀ ov iv, subscripted i false ov iv = operate [ov, iv] (getItem ov iv)
theorem subD_of {prog : Program} {w : World} {A : Around} {E : Value → Shared → Prop} {s : Shared} {env : Env} {value slice : Expr} {pos : Pos} {T id : String} {Q : Value → Shared → Prop}
    (hl : typeLookup (.type T) "__getitem__" = pure (some (.builtin id))) (hs : NoSl slice)
    (h : wpAny (model prog w) A (eval value env) (fun o s₁ => wpAny (model prog w) A (eval slice env) (fun i s₂ => s₂.TypeIs o T ∧ wpAny (model prog w) A (getItem o i) Q E s₂) E s₁) E s) :
    wpAny (model prog w) A (eval (.Subscript value slice pos) env) Q E s := by
  refine Subscript_ (wpAny_mono h (fun o s₁ h₁ => wpAny_mono h₁ (fun i s₂ h₂ => ?_) fun _ _ x => x) fun _ _ x => x)
  obtain ⟨hT, h₂⟩ := h₂
  unfold subscriptTail
  refine wpAny_bind ?_
  rw [getitemInPython_of_ne hT.not_modules]
  refine wpAny_bind (wpAny_specialOf hT hl ?_)
  have fin : wpAny (model prog w) A (subscripted slice false o i) (fun r s₃ => wpAny (model prog w) A (letTemporaryGo value o r >>= fun _ => pure r) Q E s₃) E s₂ := by
    rw [hs o i]
    exact wpAny_operating (wpAny_mono h₂ (fun r s₃ h₃ => wpAny_bind (wpAny_letTemporaryGo (wpAny_pure h₃))) fun _ _ x => x)
  first
    | exact wpAny_pure (wpAny_bind fin)
    | exact wpAny_bind (wpAny_pure (wpAny_bind fin))
    | exact wpAny_bind fin
theorem dict_typeIs {X : Cx} {pins : List (Addr × Obj)} {σ : St} {H : Hp} {s : Shared} {a : Addr} {y : V} {o : Option V} (I : Inv X pins σ H s) (g : DGet H a y o) : s.TypeIs (.ref a) "dict" := by
  rcases g with ⟨kvs, k, e, _, _⟩ | ⟨kvs, k, b, e, _, _, _⟩
  · obtain ⟨_, _, vs, _, dd⟩ := dk_rd I.hok e
    exact dd.typeIs
  · obtain ⟨_, _, xs, _, dd⟩ := dt_rd I.hok e
    exact dd.typeIs
def tDGet (td ty : TE) : TE := fun σ H Q => td σ H fun x H1 => ty σ H1 fun y H2 => ∃ a v, x = .ref a ∧ DGet H2 a y (some v) ∧ Q v H2
def sDPut (td ty tv : TE) : TS := fun D σ H => tv σ H fun v H1 => td σ H1 fun x H2 => ty σ H2 fun y H3 => ∃ a H4, x = .ref a ∧ DPut H3 a y v H4 ∧ D.nx σ H4
section
variable {X : Cx} {o i e value : Expr} {pos pos' tpos : Pos} {td ty tv : TE}
theorem pe_dget (hu : X.A.units + 1 < cLine) (ho : PE X o td) (hi : PE X i ty) (hs : NoSl i) : PE X (.Subscript o i pos) (tDGet td ty) := by
  intro pins s σ H Q I h
  refine subD_of PySem.F.slot_dict_getitem.lookup hs (thn (ho pins s σ H _ I h) fun u s1 ⟨x, H1, I1, rx, q1⟩ => thn (hi pins s1 σ H1 _ I1 q1) fun iv s2 ⟨y, H2, I2, ry, a, v, ex, g, q2⟩ => ?_)
  subst ex
  obtain rfl : u = Value.ref a := rx
  exact ⟨dict_typeIs I2 g, d_getItem hu I2 g ry fun w' s3 I3 rw' => ⟨v, H2, I3, rw', q2⟩⟩
theorem ps_dput (hu : X.A.units + 1 < cLine) (ho : PE X o td) (hi : PE X i ty) (hv : PE X value tv) (hs : swapsWith value (some (.Subscript o i pos')) pos.line X.env = pure false) :
    PS X (.Assign [.Subscript o i pos'] value pos) (sDPut td ty tv) := by
  intro pins s σ H D I h
  refine wpAny_Assign_Subscript (thn (hv pins s σ H _ I h) fun r s1 ⟨v, H1, I1, rv, q1⟩ => thn (ho pins s1 σ H1 _ I1 q1) fun u s2 ⟨x, H2, I2, rx, q2⟩ => thn (hi pins s2 σ H2 _ I2 q2) fun iv s3 ⟨y, H3, I3, ry, a, H4, ex, g, q3⟩ => ?_) hs
  subst ex
  obtain rfl : u = Value.ref a := rx
  exact d_setItem hu I3 g ry rv fun s4 I4 => ⟨σ, H4, I4, q3⟩
end
theorem dt_empty {P : Program} {w : World} {H : Hp} (h : Heap) (hb : sysModules < h.objs.size) : ObjOk P w H (h.push { cls := .type "dict", data := .dict #[] }) h.objs.size (.dT []) :=
  ⟨Nat.zero_le _, beq_eq_false_iff_ne.mpr (Ne.symm (Nat.ne_of_lt hb)), [], .nil, _, #[], 0, Heap.get?_push_size _ rfl, ⟨rfl, rfl, rfl⟩, rfl, rfl, List.nodup_nil⟩
def tDNewT : TE := fun _ H Q => ∀ p, H p = none → Q (.ref p) (upd H p (.dT []))
section
variable {X : Cx} {pos : Pos}
theorem pe_dnewT : PE X (.Dict [] [] pos) tDNewT := fun pins s σ H Q I h =>
  wpAny_Dict_empty ⟨.ref s.heap.objs.size, _, I.laid (a := s.heap.objs.size) (o := .dT []) (t' := s.toks) (fun _ _ q => Heap.get?_push_of_some _ q) (Nat.le_refl _) (dt_empty s.heap I.big), rfl, h _ (I.hok.fresh (Nat.le_refl _))⟩
end
section
variable {X : Cx} {pins : List (Addr × Obj)} {σ : St} {H : Hp} {s : Shared} {a : Addr} {y d : V} {u r : Value} {o : Option V} {A : Around} {E : Value → Shared → Prop}
end
section
variable {X : Cx} {o e f : Expr} {apos cpos : Pos} {td ty tx : TE}
end
section
variable {X : Cx} {pins : List (Addr × Obj)} {σ : St} {H : Hp} {s : Shared} {a : Addr} {kvs : List (Key × V)} {A : Around} {E : Value → Shared → Prop}
end
section
variable {X : Cx} {pins : List (Addr × Obj)} {σ : St} {H : Hp} {s : Shared} {a : Addr} {y : V} {u : Value} {A : Around} {E : Value → Shared → Prop}
end
end L2
namespace Att
open PySem PySem.W PySem.Calls PyProof.Rows
theorem ints_of_wellAll {P : Params} {h : Heap} : ∀ (ns : List Int) (vs : List Value), WellAll P h vs (ns.map WData.int) → IntsAre vs ns := by
  intro ns
  induction ns with
  | nil =>
    intro vs w
    rw [List.map_nil] at w
    cases w
    exact .nil
  | cons n ns ih =>
    intro vs w
    rw [List.map_cons] at w
    cases w with
    | cons a b =>
      cases a
      exact .cons _ _ (ih _ b)
theorem script_of {l : OpenLaw} {n : Nat} (hn : l.most = some n) {P : Params} {h : Heap} {args : List WData} {vals : List Value}
    (hpre : l.row.toRowW.claim.pre args = true) (hwl : WellAll P h vals args) :
    ∃ a vs ns, vals = [Value.ref a] ∧ args = [WData.list (ns.map WData.int)] ∧ h.get? a = some { cls := .type "list", data := .seq vs.toArray } ∧ IntsAre vs ns ∧ ns.length ≤ n := by
  have hsh : WShape.hasAll [] args [.list .int] = true := (pre_splitW hpre).1
  have hc : l.pre.holds [] { args := args } = true := (pre_splitW hpre).2
  obtain ⟨d, r, rfl, h1, h2⟩ := hasAllW_cons hsh
  obtain rfl := hasAllW_nil h2
  obtain ⟨xs, rfl, h3⟩ := hasW_list h1
  obtain ⟨ns, rfl⟩ := items_int h3
  have hlen : ns.length ≤ n := by
    unfold OpenLaw.pre at hc
    have h4 : (WTm.not (.lt (.lit (.int (n : Int))) (.len (.arg 0)))).holds [] { args := [.list (ns.map .int)] } = true := by
      have h4 := (holds_andW hc).1
      rw [hn] at h4
      exact h4
    have h5 := condW_of h4 (w_not (w_lt w_lit (w_len_list (w_arg rfl))))
    rw [List.length_map] at h5
    refine Nat.le_of_not_lt fun q => ?_
    have q' : (n : Int) < ((ns.length : Nat) : Int) := by omega
    first
      | (rw [decide_eq_true q'] at h5; exact absurd h5 (by decide))
      | (simp at h5; omega)
  cases hwl with
  | cons w1 w2 =>
    cases w2
    cases w1 with
    | list ho hall => exact ⟨_, _, ns, rfl, rfl, ho, ints_of_wellAll ns _ hall, hlen⟩
theorem post_true (l : OpenLaw) (args : List WData) : l.row.toRowW.claim.post args (.bool true) args = true :=
  postW_of (r := l.row.toRowW) (X := (true == true))
    (show WShape.has [] (.bool true) .bool = true by first | rfl | decide | simp [WShape.has, WShape.arms, WShape.armsAll])
    (show (WTm.eq .res (.lit (.bool true))).value [] { args := args, res := some (.bool true), after := args } = some (.bool (true == true)) from w_eq_bool (w_res rfl) w_lit) rfl
theorem attach_call {l : OpenLaw} {n : Nat} {q : Program} {loose : List Str} {XP : (Str → Option Value) → Heap → Prop} {YP : World → Heap → Prop} {d : DefRec}
    (hn : l.most = some n) (hdf : d.params.defaults = [])
    (call : ∀ (w : World) (s₀ s₁ : Shared) (mg mb : Str → Option Value) (fa : Addr) (o : Obj) (pm cd doc : Value) (a : Addr) (vs : List Value) (ns : List Int),
      Ground q loose [] XP w s₀ mg mb s₁.heap → YP w s₁.heap →
      s₁.heap.get? fa = some o → o.data = .func (docDef d.name d.params d.body d.scope pm cd doc) → s₁.heap.CodeRec cd d.name → mg d.name = some (.ref fa) →
      s₁.heap.get? a = some { cls := .type "list", data := .seq vs.toArray } → IntsAre vs ns → ns.length ≤ n → s₁.gens = #[] →
      codeAny (model l.prog w) callerA (.call (.ref fa) ⟨[.ref a], []⟩) (fun r s' => r = .ok (.ret (.bool true)) ∧ OldK s₁.heap s'.heap ∧ s'.os = s₁.os ∧ AllBare s'.gens) s₁) :
    WalkO q loose XP YP l.row.toRowW d [] (fun f vs => PySem.call f vs) := by
  intro w s₀ s₁ mg mb G Y fa o pm cd doc dV kV ho hd hcd hD hmg hg args vals as hpre hlay hrd hwl hlo
  obtain rfl : dV = .none := Dflts.none hD hdf
  obtain rfl : kV = .none := Dflts.noKw hD
  obtain ⟨a, vs, ns, rfl, rfl, hobj, hints, hlen⟩ := script_of hn hpre hwl
  refine enter_call (codeAny_mono (call w s₀ s₁ mg mb fa o pm cd doc a vs ns G Y ho (fd_plain hd) hcd hmg hobj hints hlen hg) fun r s' hq => ?_)
  obtain ⟨rfl, h2, h3, h4⟩ := hq
  exact ⟨.inl ⟨.bool true, .bool true, [], rfl, fun _ => rfl, .bool true, post_true l _, fun _ => ⟨List.Pairwise.nil, fun _ hm => (nomatch hm)⟩⟩, h2, h3, h4⟩
section
variable {prog : Program} {w : World} {A : Around} {E : Value → Shared → Prop} {s : Shared} {K : Frag}
end
end Att
namespace L2
open PySem PySem.Spec PyProof.Rows
theorem vals_ints : ∀ {vs : List Value} {ns : List Int}, IntsAre vs ns → Vals (ns.map V.int) vs
  | _, _, .nil => .nil
  | _, _, .cons n t h => .cons ⟨t, rfl⟩ (vals_ints h)
def Only (H : Hp) : Prop := ∀ b, H b = none ∨ ∃ o xs, H b = some (.frz o (.lst xs))
theorem law_call {P : Program} {w : World} {K : PySem.W.Frag} {mg mb : Str → Option Value} {CX : CXT} {k : Nat} {fa a : Addr} {fd : FuncData} {x : Str} {sp : Sp} {s₁ : Shared} {vs : List Value} {ns : List Int}
    (KX : K.In s₁.heap) (hns : s₁.heap.Ns mainGlobals mg) (hb : s₁.heap.Ns builtinsNs mb) (hbb : ∀ x : Str, x ≠ "__name__" → mb x = bootBuiltins x) (hlim : s₁.heap.NoLimit) (hg : s₁.gens = #[])
    (ha : s₁.heap.get? a = some { cls := .type "list", data := .seq vs.toArray }) (hi : IntsAre vs ns) (hl : ns.length ≤ sizeLine) (hr : Room k callerA)
    (F : ∀ base : Heap, K.In base → base.Ns mainGlobals mg → FnOk P w K mg base CX k fa fd [x] sp) (hbind : ∀ (s : Shared) (u : Value), BindsTo s fd ⟨[u], []⟩ [(x, u)])
    (hsp : ∀ H : Hp, Only H → SqL K H a (ns.map V.int) → sp [.ref a] H (fun v _ => v = .bl true) fun _ _ _ => False)
    (hCX : ∀ H e s', CX [] H s₁ (fun _ _ _ => False) e s' → False) :
    codeAny (model P w) callerA (.call (.ref fa) ⟨[.ref a], []⟩) (fun r s' => r = .ok (.ret (.bool true)) ∧ OldK s₁.heap s'.heap ∧ s'.os = s₁.os ∧ AllBare s'.gens) s₁ := by
  have rv := vals_ints hi
  have lenV := hi.length
  have core : ∀ H : Hp, Only H → SqL K H a (ns.map V.int) → HOk P w H s₁.heap → (∀ b, H b ≠ none → b = a) → (H a ≠ none → K.lookup a = none) →
      codeAny (model P w) callerA (.call (.ref fa) ⟨[.ref a], []⟩) (fun r s' => r = .ok (.ret (.bool true)) ∧ OldK s₁.heap s'.heap ∧ s'.os = s₁.os ∧ AllBare s'.gens) s₁ := by
    intro H hO hS hok hA hK
    have base_of : ∀ {b : Addr} {o : Obj}, s₁.heap.get? b = some o → H b = none → (hidT s₁.heap H).get? b = some o := fun e n => hidT_get e n
    have noA : ∀ {b : Addr} {o : Obj} {es : Array DictEntry} {ep : Nat}, s₁.heap.get? b = some o → o.data = .dict es ep → H b = none := fun {b o es ep} e d => by
      cases q : H b with
      | none => rfl
      | some u =>
        have e' : b = a := hA b (by rw [q]; simp)
        subst e'
        rw [ha] at e; cases e
        have d' : Data.seq vs.toArray _ = Data.dict es ep := d
        cases d'
    have nsK : ∀ {b : Addr} {m : Str → Option Value}, s₁.heap.Ns b m → (hidT s₁.heap H).Ns b m := fun {b m} ⟨o, es, ep, e, d, r⟩ => ⟨o, es, ep, base_of e (noA e d), d, r⟩
    have hKb : K.In (hidT s₁.heap H) := fun b o e => base_of (KX b o e) (by
      cases q : H b with
      | none => rfl
      | some u =>
        have e' : b = a := hA b (by rw [q]; simp)
        subst e'
        rw [hK (by rw [q]; simp)] at e; cases e)
    have hM : Mod K mg (hidT s₁.heap H) := ⟨hKb, nsK hns, ⟨mb, nsK hb, hbb⟩, let ⟨mc, h1, h2⟩ := hlim; ⟨mc, nsK h1, h2⟩⟩
    have e0 : Env0 P w K mg (hidT s₁.heap H) callerA [] s₁ H := ⟨rfl, hM, fun b o e => of_hidT e, Nat.le_of_eq (hidT_size _ _), trivial, fun b hb => absurd (show b ∈ ([] : List Addr) from hb) (by simp), hok, .of_eq hg⟩
    refine codeAny_mono ((F _ hKb (nsK hns)).run callerA [] s₁ H ⟨[.ref a], []⟩ [.ref a] [.ref a] _ _ hr e0 (hbind s₁ (.ref a)) (.cons rfl .nil) (hsp H hO hS)) fun r s' h => ?_
    cases r with
    | error e => exact (hCX H e s' h).elim
    | ok fl =>
      cases fl with
      | next => exact False.elim h
      | brk => exact False.elim h
      | cont => exact False.elim h
      | ret u =>
        obtain ⟨v, H', os, bare, un, hok', r', q⟩ := h
        have q' : v = .bl true := q
        subst q'
        obtain rfl : u = Value.bool true := r'
        refine ⟨rfl, OldK.of_keep fun b o e => ?_, os, bare⟩
        cases q : H b with
        | none => exact un.keep b o e q (by intro z; exact absurd (show b ∈ ([] : List Addr) from z) (by simp)) (by simp)
        | some u =>
          rcases hO b with z | ⟨ob, xs, z⟩
          · rw [q] at z; cases z
          · have z2 := un.frzs b ob _ z
            obtain ⟨e1, _⟩ := hok b _ z
            obtain ⟨e2, _⟩ := hok' b _ z2
            rw [e] at e1; cases e1
            exact e2
  cases hk : K.lookup a with
  | some o =>
    have e := KX a o hk
    rw [ha] at e
    cases e
    refine core (fun _ => none) (fun _ => .inl rfl) (.inr ⟨_, vs.toArray, _, hk, rfl, rfl, rfl, by rw [List.size_toArray, lenV]; exact hl, by simpa using rv⟩) (fun b u z => by have z' : (none : Option HO) = some u := z; cases z') (fun b z => absurd rfl z) fun z => absurd rfl z
  | none =>
    refine core (fun b => if b = a then some (.frz { cls := .type "list", data := .seq vs.toArray } (.lst (ns.map V.int))) else none) (fun b => ?_) (.inl (.inr ⟨{ cls := .type "list", data := .seq vs.toArray }, if_pos rfl⟩)) (fun b u z => ?_) (fun b z => ?_) fun _ => hk
    · by_cases hb : b = a
      · exact .inr ⟨_, _, if_pos hb⟩
      · exact .inl (if_neg hb)
    · by_cases hb : b = a
      · have z' := (if_pos hb).symm.trans z
        cases z'
        subst hb
        exact ⟨ha, by rw [List.length_map]; exact hl, vs, _, rv, ha⟩
      · have z' := (if_neg hb).symm.trans z
        cases z'
    · by_cases hb : b = a
      · exact hb
      · exact absurd (if_neg hb) z
end L2
namespace L2
open PySem PySem.Spec PyProof.Rows
theorem walk_of {l : PySem.W.OpenLaw} {n k : Nat} {q : Program} {loose : List Str} {XP : (Str → Option Value) → Heap → Prop} {YP : World → Heap → Prop} {d : DefRec} {K : Params → PySem.W.Frag} {CX : World → CXT} {sp : World → Sp} {x : Str}
    (hn : l.most = some n) (hn2 : n ≤ sizeLine) (hdf : d.params.defaults = []) (hr : Room k callerA)
    (hY : ∀ (w : World) (h : Heap), YP w h → (K w.params).In h)
    (F : ∀ (w : World) (mg : Str → Option Value) (fa : Addr) (h : Heap), (K w.params).In h → h.Ns mainGlobals mg → mg d.name = some (.ref fa) →
      ∃ fd : FuncData, (∀ (s : Shared) (u : Value), BindsTo s fd ⟨[u], []⟩ [(x, u)]) ∧
        ∀ base : Heap, (K w.params).In base → base.Ns mainGlobals mg → FnOk l.prog w (K w.params) mg base (CX w) k fa fd [x] (sp w))
    (hsp : ∀ (w : World) (H : Hp) (a : Addr) (ns : List Int), ns.length ≤ n → Only H → SqL (K w.params) H a (ns.map V.int) → sp w [.ref a] H (fun v _ => v = .bl true) fun _ _ _ => False)
    (hCX : ∀ (w : World) (H : Hp) (s : Shared) (e : Value) (s' : Shared), CX w [] H s (fun _ _ _ => False) e s' → False) :
    PySem.W.WalkO q loose XP YP l.row.toRowW d [] (fun f vs => PySem.call f vs) := by
  refine Att.attach_call hn hdf fun w s₀ s₁ mg mb fa o pm cd doc a vs ns G Y ho hd hcd hmg hobj hints hlen hg => ?_
  have KX := hY w _ Y
  obtain ⟨fd, hb, hF⟩ := F w mg fa _ KX G.T.g hmg
  exact law_call KX G.T.g G.T.b G.T.builtins G.T.nolimit hg hobj hints (Nat.le_trans hlen hn2) hr hF hb (fun H hO hS => hsp w H a ns hlen hO hS) fun H e s' => hCX w H s₁ e s'
theorem walk_ofK {l : PySem.W.OpenLaw} {n k : Nat} {q : Program} {loose : List Str} {XP : (Str → Option Value) → Heap → Prop} {YP : World → Heap → Prop} {d : DefRec} {K : Params → PySem.W.Frag} {CX : CXT} {sp : PySem.W.Frag → Sp} {x : Str}
    (hn : l.most = some n) (hn2 : n ≤ sizeLine) (hdf : d.params.defaults = []) (hr : Room k callerA)
    (hY : ∀ (w : World) (h : Heap), YP w h → (K w.params).In h)
    (F : ∀ (w : World) (mg : Str → Option Value) (fa : Addr) (h : Heap), (K w.params).In h → h.Ns mainGlobals mg → mg d.name = some (.ref fa) →
      ∃ fd : FuncData, (∀ (s : Shared) (u : Value), BindsTo s fd ⟨[u], []⟩ [(x, u)]) ∧
        ∀ base : Heap, (K w.params).In base → base.Ns mainGlobals mg → FnOk l.prog w (K w.params) mg base CX k fa fd [x] (sp (K w.params)))
    (hsp : ∀ (K : PySem.W.Frag) (H : Hp) (a : Addr) (ns : List Int), ns.length ≤ n → Only H → SqL K H a (ns.map V.int) → sp K [.ref a] H (fun v _ => v = .bl true) fun _ _ _ => False)
    (hCX : ∀ (H : Hp) (s : Shared) (e : Value) (s' : Shared), CX [] H s (fun _ _ _ => False) e s' → False) :
    PySem.W.WalkO q loose XP YP l.row.toRowW d [] (fun f vs => PySem.call f vs) :=
  walk_of (K := K) (CX := fun _ => CX) (sp := fun w => sp (K w.params)) hn hn2 hdf hr hY F (fun w H a ns h1 h2 h3 => hsp (K w.params) H a ns h1 h2 h3) fun _ H s e s' => hCX H s e s'
end L2
namespace L2
open PySem PySem.Spec PyProof.Rows
def defArgs (s : Stmt) : Arguments := match s with
  | .FunctionDef _ a _ _ _ _ _ _ _ _ => a
  | _ => { posonlyargs := [], args := [], vararg := none, kwonlyargs := [], kw_defaults := [], kwarg := none, defaults := [] }
def defBody (s : Stmt) : List Stmt := match s with
  | .FunctionDef _ _ b _ _ _ _ _ _ _ => b
  | _ => []
def defScope (s : Stmt) : Scope := match s with
  | .FunctionDef _ _ _ _ _ _ sc _ _ _ => sc
  | _ => { kind := .function, names := [], isGenerator := false, isCoroutine := false }
abbrev CX0 : CXT := fun _ _ _ _ _ _ => False
abbrev E0 : XK := fun _ _ _ => False
theorem pass0 {X : Cx} : Passes CX0 X E0 := fun _ _ _ _ _ _ _ h => h.elim
structure Fun (K : PySem.W.Frag) (x qual : Str) (st : Stmt) (f : Addr) (fd : FuncData) : Prop where
  ex : ∃ (oc : Value) (od : Option Addr) (kV doc pm : Value) (an : Option Addr) (cdv ct : Value) (osl : Array (Option Value)),
    fd = PySem.W.fnOf x qual (defArgs st) (defBody st) (defScope st) .none kV doc pm an cdv ct ∧ K.lookup f = some ⟨oc, od, .func fd, osl⟩ ∧ PySem.W.codeIn K cdv qual = true
  kp : PySem.W.keepIn K (.ref f) = true
section
variable {P : Program} {w : World} {K : PySem.W.Frag} {mg : Str → Option Value} {base : Heap}
theorem Fun.ok {x qual : Str} {st : Stmt} {f : Addr} {fd : FuncData} {N ps : List Str} {k : Nat} {sp : Sp} (F : Fun K x qual st f fd) (S : FnScope N ps (defScope st)) (len : ∀ vs H Q E, sp vs H Q E → vs.length = ps.length)
    (hbody : ∀ (cdv : Value) (A : Around) (outer : List Env) (s : Shared) (H : Hp) (vs : List V) (Q : VK) (E : XK), Room k (A.deeper (envOfC qual (defScope st) s.heap.objs.size f cdv)) → sp vs H Q E →
      ∃ t, PSs (cxOf CX0 P w K mg base N qual (defScope st) f cdv A outer s H E).nox (defBody st) t ∧ t { nx := fun _ H' => Q .non H', rt := Q } (start N vs) H) : FnOk P w K mg base CX0 (k + 1) f fd ps sp := by
  obtain ⟨oc, od, kV, doc, pm, an, cdv, ct, osl, rfl, lk, hcd⟩ := F.ex
  refine fn_of lk hcd S len fun A outer s H vs Q E hr hsp => ?_
  obtain ⟨t, h, q⟩ := hbody cdv A outer s H vs Q E hr hsp
  exact ⟨t, h.nox, q⟩
theorem Fun.binds {x qual : Str} {st : Stmt} {f : Addr} {fd : FuncData} {ps : List Str} (F : Fun K x qual st f fd)
    (h : ∀ (kV doc pm : Value) (an : Option Addr) (cdv ct : Value) (us : List Value), us.length = ps.length → bindArgs (PySem.W.fnOf x qual (defArgs st) (defBody st) (defScope st) .none kV doc pm an cdv ct) ⟨us, []⟩ = pure (ps.zip us)) : Binds K fd ps [] := by
  obtain ⟨oc, od, kV, doc, pm, an, cdv, ct, osl, rfl, lk, hcd⟩ := F.ex
  exact .all (h kV doc pm an cdv ct)
theorem fun_mk {x qual : Str} {st : Stmt} {f : Addr} {oc : Value} {od an : Option Addr} {osl : Array (Option Value)} {kV doc pm cdv ct : Value} (l : K.lookup f = some ⟨oc, od, .func (PySem.W.fnOf x qual (defArgs st) (defBody st) (defScope st) .none kV doc pm an cdv ct), osl⟩)
    (c : PySem.W.codeIn K cdv qual = true) (k : PySem.W.keepIn K (.ref f) = true) : Fun K x qual st f (PySem.W.fnOf x qual (defArgs st) (defBody st) (defScope st) .none kV doc pm an cdv ct) := ⟨⟨oc, od, kV, doc, pm, an, cdv, ct, osl, rfl, l, c⟩, k⟩
end
theorem hu_of {A : Around} {k : Nat} (hr : Room k A) : A.units + 1 < cLine := Nat.lt_of_le_of_lt (Nat.add_le_add_left (by decide : 1 ≤ 64) _) hr.units
theorem small1000 {n : Nat} (h : n ≤ 1000) : n < sizeLine := Nat.lt_of_le_of_lt h (by decide)
section
variable {X : Cx}
theorem pv (i : Nat) {x : Str} {pos : Pos} (hN : X.N[i]? = some x := by rfl) (hv : Vis X.env.scope x := by first | exact Or.inl rfl | exact Or.inr (Or.inl rfl) | exact Or.inr (Or.inr rfl)) (hd : (x == ("__debug__" : Str)) = false := by decide)
    (hcd : (x == ("__classdict__" : Str)) = false := by decide) : PE X (.Name x pos) (tVar i) := pe_var hN hv hd hcd
end
theorem iteF {A B : Prop} (h : B) : if false = true then A else B := by
  rw [if_neg Bool.false_ne_true]
  exact h
theorem iteT {A B : Prop} (h : A) : if true = true then A else B := by
  rw [if_pos rfl]
  exact h
theorem ite2 {c A B : Prop} [Decidable c] (h1 : c → A) (h2 : ¬ c → B) : if c then A else B := by
  by_cases h : c
  · rw [if_pos h]
    exact h1 h
  · rw [if_neg h]
    exact h2 h
def Same (H H' : Hp) : Prop := ∀ b o, H b = some o → H' b = some o
theorem Same.refl (H : Hp) : Same H H := fun _ _ h => h
theorem Same.trans {H H1 H2 : Hp} (a : Same H H1) (b : Same H1 H2) : Same H H2 := fun c o h => b c o (a c o h)
theorem Same.free {H H' : Hp} (e : Same H H') {l : Addr} (h : H' l = Option.none) : H l = Option.none := by
  cases q : H l with
  | none => rfl
  | some o =>
    rw [e l o q] at h
    cases h
section
variable {κ : Type} [DecidableEq κ]
theorem nd_snoc : ∀ {l : List κ} {k : κ}, l.Nodup → ¬ k ∈ l → (l ++ [k]).Nodup
  | [], k, _, _ => by simp
  | a :: r, k, h, hk => by
    obtain ⟨h1, h2⟩ := List.nodup_cons.mp h
    show (a :: (r ++ [k])).Nodup
    refine List.nodup_cons.mpr ⟨fun m => ?_, nd_snoc h2 fun m => hk (List.mem_cons.mpr (Or.inr m))⟩
    rcases List.mem_append.mp m with q | q
    · exact h1 q
    · exact hk (List.mem_cons.mpr (Or.inl (List.mem_singleton.mp q).symm))
end
end L2
namespace L2
open PySem PySem.Spec PyProof.Rows
section
variable {prog : Program} {w : World} {A : Around} {R : Result → Shared → Prop} {s : Shared}
theorem comp_loop {elt tg iter : Expr} {ifs : List Expr} {sc : Scope} {pos : Pos} {it acc : Value} {ce : Env} (J : Nat → Shared → Prop)
    (turn : ∀ n s, J n s → wpAny (model prog w) A (pyNext it) (fun r s1 => match r with
      | none => R (.ok .next) s1
      | some v => wpAny (model prog w) A (letOwnedTupleGo tg it v) (fun _ s2 => wpAny (model prog w) A (assign tg ce v) (fun _ s3 =>
          wpAny (model prog w) A (forIn ifs true fun c r => if r = true then do let ok ← isTrue c ce (eval c ce); pure (ForInStep.yield ok) else pure (ForInStep.yield r)) (fun ok s4 =>
            if ok = true then
              wpAny (model prog w) A (eval elt ce) (fun x s5 => wpAny (model prog w) A (call (.builtin "list.append") [acc, x]) (fun _ s6 => ∃ m, m < n ∧ J m s6) (fun _ _ => False) s5) (fun _ _ => False) s4
            else ∃ m, m < n ∧ J m s4) (fun _ _ => False) s3) (fun _ _ => False) s2) (fun _ _ => False) s1) (fun _ _ => False) s)
    (n : Nat) (h : J n s) : codeAny (model prog w) A (.compLoop (.ListComp elt [⟨tg, iter, ifs, 0⟩] sc pos) 0 it acc ce) R s := by
  refine codeAny_loop rfl J (fun n s hJ => ?_) n h
  show wpAny _ A ((compTurn (.ListComp elt [⟨tg, iter, ifs, 0⟩] sc pos) 0 it acc ce).onRaise (fun x => do noteFrame x ce; theTreesLotGoes x)) _ _ s
  refine wpAny_noted ?_
  rw [compTurn_list]
  refine wpAny_bind (wpAny_standAt (wpAny_bind (wpAny_mono (turn n s hJ) (fun r s1 h1 => ?_) fun _ _ f => f.elim)))
  cases r with
  | none => exact wpAny_pure h1
  | some v =>
    refine wpAny_bind (wpAny_mono h1 (fun _ s2 h2 => ?_) fun _ _ f => f.elim)
    refine wpAny_bind (wpAny_mono h2 (fun _ s3 h3 => ?_) fun _ _ f => f.elim)
    refine wpAny_bind (wpAny_mono h3 (fun ok s4 h4 => ?_) fun _ _ f => f.elim)
    cases ok with
    | false => exact wpAny_pure ⟨rfl, h4⟩
    | true =>
      refine wpAny_bind (wpAny_bind (wpAny_mono h4 (fun x s5 h5 => ?_) fun _ _ f => f.elim))
      exact wpAny_bind (wpAny_mono h5 (fun _ s6 h6 => wpAny_pure (wpAny_pure ⟨rfl, h6⟩)) fun _ _ f => f.elim)
end
def compCx (X : Cx) (N : List Str) (sc : Scope) (cl : List (Str × Addr)) (s : Shared) (H : Hp) (fp : List Addr) : Cx where
  prog := X.prog
  w := X.w
  K := X.K
  mg := X.mg
  base := X.base
  A := X.A
  N := N
  s₀ := s
  H₀ := H
  env := compEnvC sc cl (s.heap.objs.size + 1) X.env
  outer := X.stack
  stack := X.stack
  ex := fp
  fn := fun _ => false
  calm := X.calm
  pn := []
  xe := fun _ _ => False
def compSt (own : List Str) (fr : List (Str × Nat)) (σ : St) : St := own.map (fun _ => none) ++ fr.map fun p => (σ[p.2]?).join
def KeepS (σ σ' : St) : Prop := σ.length = σ'.length ∧ ∀ (i : Nat) v, σ[i]? = some (some v) → σ'[i]? = some (some v)
def Fresh (g : TG) (σ : St) : Prop := ∀ x H (Q : St → Hp → Prop), g x σ H Q → g x σ H fun σ' H' => KeepS σ σ' ∧ Q σ' H'
theorem KeepS.set {σ : St} {i : Nat} (h : σ[i]? = some none) (v : V) : KeepS σ (σ.set i (some v)) := by
  refine ⟨by simp, fun j u e => ?_⟩
  by_cases hj : i = j
  · subst hj; rw [h] at e; cases e
  · rw [List.getElem?_set_ne hj]; exact e
theorem fresh_name {σ : St} {i : Nat} (h : σ[i]? = some none) : Fresh (gName i) σ := fun x H Q q => ⟨KeepS.set h x, q⟩
def PTs (X : Cx) (ifs : List Expr) (t : TT) : Prop :=
  ∀ (pins : List (Addr × Obj)) (s : Shared) (σ : St) (H : Hp) (Q : Bool → Hp → Prop), Inv X pins σ H s → t σ H Q →
    wpAny (model X.prog X.w) X.A (forIn ifs true fun c r => if r = true then do let ok ← isTrue c X.env (eval c X.env); pure (ForInStep.yield ok) else pure (ForInStep.yield r)) (TP X pins σ Q) X.xe s
theorem pts_nil {X : Cx} : PTs X [] (fun _ H Q => Q true H) := fun _ _ _ H _ I h => wpAny_tests_nil ⟨H, I, h⟩
def LCb (own : List Str) (fr : List (Str × Nat)) (g : TG) (tt : TT) (te : TE) (σ : St) (Q : VK) (J : It) (H1 : Hp) : Prop := ∃ W : Nat → Nat → List V → Hp → Prop, (∃ m, W 0 m [] H1) ∧ ∀ i m ys H, W i m ys H →
  (J.stop i H ∧ ∀ p, H p = none → Q (.ref p) (upd H p (.lst ys))) ∨ (J.go i H ∧ ys.length < sizeLine ∧ ∀ x H', J.yld i H x H' → g x (compSt own fr σ) H' fun σ2 H2 => tt σ2 H2 fun b H3 =>
    if b = true then te σ2 H3 fun y H4 => ∃ m', m' < m ∧ W (i + 1) m' (ys ++ [y]) H4 else ∃ m', m' < m ∧ W (i + 1) m' ys H3)
def tLC (own : List Str) (fr : List (Str × Nat)) (wi : TI) (g : TG) (tt : TT) (te : TE) : TE := fun σ H Q => wi σ H fun J H1 => LCb own fr g tt te σ Q J H1
abbrev accObj (us : List Value) : Obj := { cls := .type "list", data := .seq us.toArray us.length }
theorem acc_snoc (us : List Value) (u : Value) : ({ cls := .type "list", data := .seq (us.toArray.push u) (us.length + 1) } : Obj) = accObj (us ++ [u]) := by
  unfold accObj
  rw [List.length_append, List.length_singleton, List.push_toArray]
structure Caps (X : Cx) (sc : Scope) (cl : List (Str × Addr)) (fr : List (Str × Nat)) : Prop where
  clos : closureFor sc X.env = pure cl
  sub : ∀ x c, cl.lookup x = some c → X.env.cells.lookup x = some c
  has : ∀ x, ((relabel sc X.env).names.lookup x = some .cell ∨ (relabel sc X.env).names.lookup x = some .free) → ∃ c, cl.lookup x = some c
  cap : ∀ p ∈ fr, X.N[p.2]? = some p.1 ∧ X.env.kindOf p.1 ≠ some .local ∧ Vis X.env.scope p.1 ∧ ((relabel sc X.env).names.lookup p.1 = some .cell ∨ (relabel sc X.env).names.lookup p.1 = some .free)
structure CompSc (sc : Scope) : Prop where
  kind : sc.kind = .function
  cell : ∀ y ∈ sc.names, y.2 ≠ .cell
  nms : ∀ y ∈ sc.names, y.2 = .local → sc.names.lookup y.1 = some .local
section
variable {X : Cx}
theorem Inv.stkNot {pins : List (Addr × Obj)} {σ : St} {H : Hp} {s : Shared} (I : Inv X pins σ H s) {b : Addr} (h1 : b ≠ X.env.locals) (h2 : b ∉ X.fs) : b ∉ frs X.stack := fun z => by
  rcases List.mem_cons.mp (I.stkSub b z) with e | e
  · exact h1 e
  · exact h2 e
theorem compSt_get {own : List Str} {fr : List (Str × Nat)} {σ : St} {N : List Str} (hN : N = own ++ fr.map (·.1)) {i : Nat} {x : Str} {v : V} (h1 : N[i]? = some x) (h2 : (compSt own fr σ)[i]? = some (some v)) :
    ∃ p ∈ fr, p.1 = x ∧ σ[p.2]? = some (some v) := by
  unfold compSt at h2
  subst hN
  by_cases hi : i < own.length
  · rw [List.getElem?_append_left (by simpa using hi), List.getElem?_map] at h2
    rw [List.getElem?_eq_getElem hi] at h2
    cases h2
  · rw [List.getElem?_append_right (by simpa using hi), List.length_map, List.getElem?_map] at h2
    rw [List.getElem?_append_right (by simpa using hi), List.getElem?_map] at h1
    cases e : fr[i - own.length]? with
    | none => rw [e] at h1; cases h1
    | some p =>
      rw [e] at h1 h2
      refine ⟨p, List.mem_of_getElem? e, Option.some.inj h1, ?_⟩
      have h2' : (σ[p.2]?).join = some v := Option.some.inj h2
      cases e3 : σ[p.2]? with
      | none => rw [e3] at h2'; cases h2'
      | some o => rw [e3] at h2'; rw [show o = some v from h2']
theorem Inv.block {pins : List (Addr × Obj)} {σ : St} {H : Hp} {s : Shared} {own : List Str} {fr : List (Str × Nat)} {sc : Scope} {cl : List (Str × Addr)} {fp : List Addr} {h1 : Heap} {m : Str → Option Value} {tk : Nat}
    (I : Inv X pins σ H s) (hf : ∀ b ∈ fp, FpOk X pins H b) (hfl : ∀ b ∈ fp, b < s.heap.objs.size) (S : CompSc sc) (C : Caps X sc cl fr)
    (old : ∀ b o, s.heap.get? b = some o → h1.get? b = some o) (hn : h1.Ns (s.heap.objs.size + 1) m) (hD : h1.get? s.heap.objs.size = some (accObj [])) :
    Inv (compCx X (own ++ fr.map (·.1)) sc cl s H fp) [(s.heap.objs.size, accObj [])] (compSt own fr σ) H { s with heap := h1, toks := tk } := by
  have cellLt : ∀ x c, cl.lookup x = some c → c < s.heap.objs.size := fun x c e => by
    obtain ⟨v, z⟩ := I.cell x c (C.sub x c e)
    exact z.lt
  have sizeC : s.heap.objs.size ≤ s.heap.objs.size + 1 := Nat.le_succ _
  refine ⟨⟨I.ok.mod, S.kind, I.ok.glob, I.ok.blt, sizeC, fun x y c e1 e2 => I.ok.inj x y c (C.sub x c e1) (C.sub y c e2), fun x hx => C.has x hx, fun _ _ z => (by cases z), I.ok.hd, I.ok.frames, .inl rfl, fun b hb => ⟨?_, fun x c e z => ?_⟩,
    I.bs, Nat.le_trans I.ok.bsz I.sz, fun b o e hb => ?_, fun b hb z => ?_, I.stack, I.stkFree⟩, rfl, I.bare, Un.kept old, ⟨m, hn, fun i x v e1 e2 e3 => ?_⟩, fun x c e => ?_, I.hok.fresh sizeC, fun x c e => I.freeC x c (C.sub x c e), fun p hp => ?_, I.hok.kept old, ?_⟩
  · exact Nat.ne_of_lt (Nat.lt_succ_of_lt (hfl b hb))
  · exact (hf b hb).2.2.2.2.1 x c (C.sub x c e) z
  · rcases (hf b hb).2.2.2.1 with z | z
    · exact I.ok.noex b o e z
    · exact absurd (Nat.lt_of_lt_of_le (Heap.lt_size e) (Nat.le_trans I.ok.bsz z)) (Nat.lt_irrefl _)
  · exact I.stkNot (hf b hb).2.1 (hf b hb).2.2.1 z
  · obtain ⟨p, hp, rfl, e4⟩ := compSt_get rfl e1 e2
    obtain ⟨c1, c2, c3, c4⟩ := C.cap p hp
    obtain ⟨m0, hn0, hl⟩ := I.loc
    obtain ⟨u, r, l⟩ := hl p.2 p.1 v c1 e4 c3
    refine ⟨u, r, .inr ⟨c4, ?_⟩⟩
    rcases l with ⟨k, _⟩ | ⟨_, c, hc, ho, hoe, hod⟩
    · exact absurd k c2
    · obtain ⟨c', hc'⟩ := C.has p.1 c4
      have := C.sub p.1 c' hc'
      rw [hc] at this
      cases this
      exact ⟨c, hc', ho, old _ _ hoe, hod⟩
  · obtain ⟨v, o, ho, hd⟩ := I.cell x c (C.sub x c e)
    exact ⟨v, o, old _ _ ho, hd⟩
  · have hp' : p = (s.heap.objs.size, accObj []) := by simpa [compCx] using hp
    subst hp'
    refine ⟨hD, I.hok.fresh (Nat.le_refl _), ?_, ?_, fun v z => by cases z⟩
    · exact Nat.ne_of_lt (Nat.lt_succ_self _)
    · exact I.stkNot (Nat.ne_of_gt I.lt) (I.nofs (Nat.le_refl _))
  · show (compSt own fr σ).length = (own ++ fr.map (·.1)).length
    unfold compSt
    rw [List.length_append, List.length_append, List.length_map, List.length_map, List.length_map]
theorem HOk.track {P : Program} {w : World} {H : Hp} {h : Heap} {a : Addr} {o : HO} (x : HOk P w H h) (hn : H a = none) (new : ObjOk P w (upd H a o) h a o) : HOk P w (upd H a o) h := fun b u e => by
  by_cases hb : b = a
  · subst hb; rw [upd_same] at e; cases e; exact new
  · rw [upd_ne hb] at e
    exact (x b u e).stay (fun c v _ q => q) (fun c q => by rw [upd_ne (ne_of_none q hn)]; exact q) fun c xs q => by rw [upd_ne (ne_of_none q hn)]; exact q
theorem Inv.unblock {pins : List (Addr × Obj)} {σ : St} {H H3 : Hp} {s s4 : Shared} {N : List Str} {σ3 : St} {sc : Scope} {cl : List (Str × Addr)} {fp : List Addr} {h' : Heap} {ys : List V} {us : List Value}
    (I : Inv X pins σ H s) (hf : ∀ b ∈ fp, FpOk X pins H b) (I4 : Inv (compCx X N sc cl s H fp) [(s.heap.objs.size, accObj us)] σ3 H3 s4) (hv : Vals ys us) (hz : ys.length ≤ sizeLine)
    (hs : Heap.SameBut (s.heap.objs.size + 1) s4.heap h') : Inv X pins σ (upd H3 s.heap.objs.size (.lst ys)) { s4 with heap := h' } := by
  obtain ⟨eD, nD, neD, _, _⟩ := I4.pin (s.heap.objs.size, accObj us) (List.mem_append_right _ (by simp))
  have eD : s4.heap.get? s.heap.objs.size = some (accObj us) := eD
  have nD : H3 s.heap.objs.size = none := nD
  have b4 : Un (frs X.stack) fp H H3 s.heap s4.heap := I4.base
  have nC : H3 (s.heap.objs.size + 1) = none := I4.free
  have neC : ∀ b o, s.heap.get? b = some o → b ≠ s.heap.objs.size + 1 := fun b o e => Nat.ne_of_lt (Nat.lt_succ_of_lt (Heap.lt_size e))
  have neD' : ∀ b o, s.heap.get? b = some o → b ≠ s.heap.objs.size := fun b o e => Nat.ne_of_lt (Heap.lt_size e)
  have k4 : ∀ b o, b ≠ s.heap.objs.size + 1 → s4.heap.get? b = some o → h'.get? b = some o := fun b o hb e => hs.extBut b o hb e
  refine I.call' (s' := { s4 with heap := h' }) (ch := fp) I4.os ⟨fun b o e n h1 h2 => k4 b o (neC b o e) (b4.keep b o e n h1 h2), fun b o e n h1 h2 => ?_, fun b o e n h2 => ?_, fun b o e h2 => ?_,
    fun b xs e => ?_, fun b o u e => ?_, fun b ps e => ?_⟩ ?_ I4.bare fun b hb => ⟨(hf b hb).2.2.2.1, (hf b hb).2.1, (hf b hb).2.2.2.2.1, (hf b hb).2.2.2.2.2⟩
  · obtain ⟨sl, q⟩ := b4.slot b o e n h1 h2
    exact ⟨sl, k4 b _ (neC b o e) q⟩
  · rw [upd_ne (neD' b o e)]; exact b4.free b o e n h2
  · obtain ⟨o', q⟩ := b4.there b o e h2
    exact ⟨o', k4 b _ (neC b o e) q⟩
  · have q := b4.tups b xs e
    rw [upd_ne (ne_of_none q nD)]; exact q
  · have q := b4.frzs b o u e
    rw [upd_ne (ne_of_none q nD)]; exact q
  · obtain ⟨more, q⟩ := b4.tbls b ps e
    exact ⟨more, by rw [upd_ne (ne_of_none q nD)]; exact q⟩
  · have hk : HOk X.prog X.w H3 h' := fun b u e => (I4.hok b u e).stay (fun c v hc q => k4 c v (fun z => by
      subst z
      rcases hc with hc | hc
      · subst hc; rw [nC] at e; cases e
      · rw [nC] at hc; cases hc) q) (fun _ q => q) fun _ _ q => q
    refine hk.track nD ⟨hz, us, us.length, hv, k4 _ _ (Nat.ne_of_lt (Nat.lt_succ_self _)) eD⟩
theorem comp_core {elt tg iter : Expr} {ifs : List Expr} {sc : Scope} {pos : Pos} {own : List Str} {fr : List (Str × Nat)} {cl : List (Str × Addr)} {g : TG} {tt : TT} {te : TE} {RR : Value → Addr → Result → Shared → Prop} {E : Value → Shared → Prop}
    {pins : List (Addr × Obj)} {σ : St} {H2 : Hp} {s2 : Shared} {Q : VK} {it : Addr} {fp : List Addr} {tn : Nat → Heap → Prop} {J : It} (hc : X.calm = true) (S : CompSc sc) (C : Caps X sc cl fr)
    (hg : ∀ s H fp, PG (compCx X (own ++ fr.map (·.1)) sc cl s H fp) tg g) (hfr : ∀ σ, Fresh g (compSt own fr σ)) (ht : ∀ s H fp, PTs (compCx X (own ++ fr.map (·.1)) sc cl s H fp) ifs tt)
    (he : ∀ s H fp, PE (compCx X (own ++ fr.map (·.1)) sc cl s H fp) elt te) (I2 : Inv X pins σ H2 s2) (T : Turn X.prog X.w X.K tg J fp it tn) (st2 : tn 0 s2.heap) (f2 : ∀ b ∈ fp, FpOk X pins H2 b) (hW : LCb own fr g tt te σ Q J H2)
    (hRR : ∀ s5 H4 ys us, Inv (compCx X (own ++ fr.map (·.1)) sc cl s2 H2 fp) [(s2.heap.objs.size, accObj us)] (compSt own fr σ) H4 s5 → Vals ys us → ys.length ≤ sizeLine → (∀ p, H4 p = none → Q (.ref p) (upd H4 p (.lst ys))) →
      RR (.ref s2.heap.objs.size) (s2.heap.objs.size + 1) (.ok .next) s5) :
    wpAny (model X.prog X.w) X.A (newList []) (fun acc s3 => wpAny (model X.prog X.w) X.A (newFunctionEnv sc X.env.globals cl [] X.env.qual none .none (some X.env)) (fun ce s4 =>
      codeAny (model X.prog X.w) X.A (.compStart (.ListComp elt [⟨tg, iter, ifs, 0⟩] sc pos) 0 (.ref it) acc { ce with scope := relabel sc X.env }) (RR acc ce.locals) s4) E s3) E s2 := by
  obtain ⟨W, ⟨m0, w0⟩, turn⟩ := hW
  have fpl : ∀ b ∈ fp, b < s2.heap.objs.size := fun b hb => by
    obtain ⟨o, e, _⟩ := T.obj _ _ st2 b hb
    exact Heap.lt_size e
  refine wpAny_newObj_type (wpAny_newFunctionEnv S.cell (by intro y hy; simp at hy) (fun h₁ hns₁ hsb₁ => ?_) S.kind)
  dsimp only at hns₁ hsb₁ ⊢
  generalize hH2 : s2.heap.push { cls := .type "list", dict := none, data := .seq ([] : List Value).toArray } = G at hns₁ hsb₁ ⊢
  have hC : G.objs.size = s2.heap.objs.size + 1 := by rw [← hH2, Heap.size_push]
  rw [hC] at hns₁ hsb₁ ⊢
  have old : ∀ b o, s2.heap.get? b = some o → h₁.get? b = some o := fun b o e => by
    exact hsb₁.extBut b o (Nat.ne_of_lt (Nat.lt_succ_of_lt (Heap.lt_size e))) (Heap.get?_push_of_some _ (hH2 ▸ Heap.get?_push_of_some _ e))
  have hacc : h₁.get? s2.heap.objs.size = some (accObj []) := hsb₁.extBut _ _ (Nat.ne_of_lt (Nat.lt_succ_self _)) (Heap.get?_push_of_some _ (hH2 ▸ Heap.get?_push_size _ rfl))
  have I3 := I2.block (own := own) (tk := s2.toks + ([] : List (Str × Value)).length) f2 fpl S C old hns₁ hacc
  have stat : ∀ {H' : Hp} {us : List Value}, (∀ b ∈ fp, H' b = none) → ∀ b ∈ fp, FpOk (compCx X (own ++ fr.map (·.1)) sc cl s2 H2 fp) [(s2.heap.objs.size, accObj us)] H' b := fun {H' us} hn b hb => by
    obtain ⟨_, g1, g2, g3, g4, g5⟩ := f2 b hb
    have hbl := fpl b hb
    refine ⟨hn b hb, ?_, I2.stkNot g1 g2, .inl hb, fun x c e => g4 x c (C.sub x c e), fun p hp => ?_⟩
    · exact Nat.ne_of_lt (Nat.lt_succ_of_lt hbl)
    · have hp' : p = (s2.heap.objs.size, accObj us) := by simpa [compCx] using hp
      subst hp'
      exact Nat.ne_of_gt hbl
  have loop : ∀ s3 : Shared, s3 = { s2 with heap := h₁, toks := s2.toks + ([] : List (Str × Value)).length } →
      codeAny (model X.prog X.w) X.A (.compLoop (.ListComp elt [⟨tg, iter, ifs, 0⟩] sc pos) 0 (.ref it) (.ref s2.heap.objs.size) (compEnvC sc cl (s2.heap.objs.size + 1) X.env))
        (RR (.ref s2.heap.objs.size) (s2.heap.objs.size + 1)) s3 := by
    rintro s3 rfl
    refine comp_loop (fun n s' => ∃ i ys us H', Vals ys us ∧ Inv (compCx X (own ++ fr.map (·.1)) sc cl s2 H2 fp) [(s2.heap.objs.size, accObj us)] (compSt own fr σ) H' s' ∧ tn i s'.heap ∧ (∀ b ∈ fp, H' b = none) ∧ ys.length ≤ sizeLine ∧ W i n ys H') ?_ m0
      ⟨0, [], [], H2, .nil, I3, T.keep _ _ _ st2 fun b _ o e => old b o e, fun b hb => (f2 b hb).1, Nat.zero_le _, w0⟩
    rintro n s4 ⟨i, ys, us, H4, hv, I4, st4, fr4, hz, w4⟩
    rcases turn i n ys H4 w4 with ⟨stop, fin⟩ | ⟨go, hlt, step⟩
    · refine thn (T.done (compCx X (own ++ fr.map (·.1)) sc cl s2 H2 fp) rfl rfl rfl hc i _ s4 _ H4 _ I4 (stat fr4) st4 stop) fun r s5 ⟨hr, I5⟩ => ?_
      subst hr
      exact hRR s5 H4 ys us I5 hv hz fin
    · refine thn (T.item (compCx X (own ++ fr.map (·.1)) sc cl s2 H2 fp) rfl rfl rfl hc i _ s4 _ H4 _ I4 (stat fr4) st4 go) fun r s5 ⟨u, hr, h5⟩ => ?_
      subst hr
      refine thn h5 fun _ s6 ⟨x, H6, I6, r6, y6, st6, fr6⟩ => ?_
      have I6' := I6.pinned (stat fr6) (T.obj _ _ st6)
      refine thn (hg s2 H2 fp _ s6 _ H6 x u _ I6' r6 (hfr σ x H6 _ (step x H6 y6))) fun _ s7 ⟨σ7, H7, I7, k7, q7⟩ => ?_
      refine thn (ht s2 H2 fp _ s7 σ7 H7 _ I7 q7) fun ok s8 ⟨H8, I8, q8⟩ => ?_
      have fps : ∀ {pins' : List (Addr × Obj)} {σ' : St} {H' : Hp} {s' : Shared}, Inv (compCx X (own ++ fr.map (·.1)) sc cl s2 H2 fp) ([(s2.heap.objs.size, accObj us)] ++ pinsAt fp s6.heap) σ' H' s' → ∀ b ∈ fp, (∀ o, s6.heap.get? b = some o → s'.heap.get? b = some o) ∧ H' b = none := fun {pins' σ' H' s'} I' b hb => by
        obtain ⟨o, e, _⟩ := T.obj _ _ st6 b hb
        have z := I'.pin (b, o) (List.mem_append_right _ (List.mem_append_right _ (mem_pinsAt hb e)))
        exact ⟨fun o' e' => by rw [e] at e'; cases e'; exact z.1, z.2.1⟩
      cases ok with
      | false =>
        rw [if_neg Bool.false_ne_true] at q8
        obtain ⟨m', hm, w8⟩ := q8
        rw [if_neg Bool.false_ne_true]
        exact ⟨m', hm, i + 1, ys, us, H8, hv, (I8.unpinned).weak k7.1 k7.2, T.keep _ _ _ st6 fun b hb o e => (fps (pins' := []) I8 b hb).1 o e, fun b hb => (fps (pins' := []) I8 b hb).2, hz, w8⟩
      | true =>
        rw [if_pos rfl] at q8
        rw [if_pos rfl]
        refine thn (he s2 H2 fp _ s8 σ7 H8 _ I8 q8) fun y s9 ⟨v, H9, I9, r9, m', hm, w9⟩ => ?_
        have pD := I9.pin (s2.heap.objs.size, accObj us) (List.mem_append_right _ (List.mem_append_left _ (by simp)))
        have zD : s9.heap.get? s2.heap.objs.size = some (accObj us) := pD.1
        have nD : H9 s2.heap.objs.size = none := pD.2.1
        refine append_at (hsz := by show us.toArray.size ≤ sizeLine; rw [List.size_toArray, ← hv.length]; exact hz) zD fun h5 hs5 hD5 => ?_
        have Ia : Inv (compCx X (own ++ fr.map (·.1)) sc cl s2 H2 fp) (pinsAt fp s6.heap) σ7 H9 s9 := I9.pins_of fun p hp => I9.pin p (List.mem_append_right _ (List.mem_append_right _ hp))
        have neD : s2.heap.objs.size ≠ s2.heap.objs.size + 1 := Nat.ne_of_lt (Nat.lt_succ_self _)
        have Ib : Inv (compCx X (own ++ fr.map (·.1)) sc cl s2 H2 fp) (pinsAt fp s6.heap) σ7 H9 { s9 with heap := h5, toks := s9.toks } := Ia.turned (it := s2.heap.objs.size) (fun b o hb e => hs5.extBut b o hb e) nD neD (.inr (Nat.le_refl _)) (fun x c e z => by
            obtain ⟨v', q⟩ := I2.cell x c (C.sub x c e)
            have q' := q.lt
            rw [z] at q'
            exact Nat.lt_irrefl _ q') fun p hp z => by
            have hp' : p ∈ pinsAt fp s6.heap := by simpa [compCx] using hp
            have q' := fpl p.1 (of_pinsAt hp').1
            rw [z] at q'
            exact Nat.lt_irrefl _ q'
        have Ic : Inv (compCx X (own ++ fr.map (·.1)) sc cl s2 H2 fp) [(s2.heap.objs.size, accObj (us ++ [y]))] σ7 H9 { s9 with heap := h5, toks := s9.toks } := Ib.pins_of fun p hp => by
          have hp' : p = (s2.heap.objs.size, accObj (us ++ [y])) := by simpa using hp
          subst hp'
          exact ⟨hD5.trans (congrArg some (acc_snoc us y)), nD, neD, pD.2.2.2.1, fun v z => by cases z⟩
        refine ⟨m', hm, i + 1, ys ++ [v], us ++ [y], H9, hv.append (.cons r9 .nil), Ic.weak k7.1 k7.2, T.keep _ _ _ st6 fun b hb o e => ?_, fun b hb => (fps (pins' := []) I9 b hb).2, ?_, w9⟩
        · exact hs5.extBut b o (Nat.ne_of_lt (fpl b hb)) ((fps (pins' := []) I9 b hb).1 o e)
        · rw [List.length_append]; exact hlt
  exact codeAny_compStart_list (loop _ rfl) (T.self _ 0 _ _ _ (T.keep _ _ _ st2 fun b _ o e => old b o e) (loop _ rfl))
theorem pe_lcomp {elt tg iter : Expr} {ifs : List Expr} {sc : Scope} {pos : Pos} {own : List Str} {fr : List (Str × Nat)} {cl : List (Str × Addr)} {wi : TI} {g : TG} {tt : TT} {te : TE} (hc : X.calm = true) (hi : PI X tg iter wi) (S : CompSc sc) (C : Caps X sc cl fr)
    (hg : ∀ s H fp, PG (compCx X (own ++ fr.map (·.1)) sc cl s H fp) tg g) (hfr : ∀ σ, Fresh g (compSt own fr σ)) (ht : ∀ s H fp, PTs (compCx X (own ++ fr.map (·.1)) sc cl s H fp) ifs tt)
    (he : ∀ s H fp, PE (compCx X (own ++ fr.map (·.1)) sc cl s H fp) elt te) (hs : ∀ x, foldedSetIterable iter X.env x = pure x := by intro _; rfl) :
    PE X (.ListComp elt [⟨tg, iter, ifs, 0⟩] sc pos) (tLC own fr wi g tt te) := by
  intro pins s σ H Q I h
  rw [eval_ListComp]
  refine wpAny_comprehension_free (use := none) rfl hs C.clos S.kind S.nms (thn (hi pins s σ H _ I h) fun xv s1 h1 => thn h1 fun itv s2 h2 => ?_)
  obtain ⟨it, fp, tn, J, H2, e, I2, T, st2, f2, hW⟩ := h2
  subst e
  refine comp_core (RR := fun acc A => compPost (model X.prog X.w) X.A X.xe none (EP X pins σ Q) acc A) hc S C hg hfr ht he I2 T st2 f2 hW fun s5 H4 ys us I5 hv hz fin => ?_
  obtain ⟨m5, hn5, _⟩ := id I5.loc
  have nD : H4 s2.heap.objs.size = none := (I5.pin (s2.heap.objs.size, accObj us) (List.mem_append_right _ (by simp))).2.1
  exact ⟨m5, hn5, fun h' hs' => ⟨.ref s2.heap.objs.size, upd H4 s2.heap.objs.size (.lst ys), I2.unblock f2 I5 hv hz hs', rfl, fin _ nD⟩⟩
theorem ps_setC {i : Nat} {y : Str} {py spos : Pos} {elt tg iter : Expr} {ifs : List Expr} {sc : Scope} {pos : Pos} {own : List Str} {fr : List (Str × Nat)} {cl : List (Str × Addr)} {wi : TI} {g : TG} {tt : TT} {te : TE} (hN : X.N.Nodup) (hy : X.N[i]? = some y)
    (hx : Loc X.env.scope y) (hc : X.calm = true) (hi : PI X tg iter wi) (S : CompSc sc) (C : Caps X sc cl fr)
    (hg : ∀ s H fp, PG (compCx X (own ++ fr.map (·.1)) sc cl s H fp) tg g) (hfr : ∀ σ, Fresh g (compSt own fr σ)) (ht : ∀ s H fp, PTs (compCx X (own ++ fr.map (·.1)) sc cl s H fp) ifs tt)
    (he : ∀ s H fp, PE (compCx X (own ++ fr.map (·.1)) sc cl s H fp) elt te) (hs : ∀ x, foldedSetIterable iter X.env x = pure x := by intro _; rfl)
    (hsw : swapsWith (.ListComp elt [⟨tg, iter, ifs, 0⟩] sc pos) (some (.Name y py)) spos.line X.env = pure true := by rfl) (hf : X.fn y = true ∨ X.env.scope.names.lookup y = some .local := by first | exact .inl rfl | exact .inr rfl | assumption) :
    PS X (.Assign [.Name y py] (.ListComp elt [⟨tg, iter, ifs, 0⟩] sc pos) spos) (tAsg (tLC own fr wi g tt te) (gName i)) := by
  intro pins s σ H D I h
  rw [exec_Assign_Name_used _ _ _ _ hsw]
  refine wpAny_bind (wpAny_standAt (wpAny_bind ?_))
  show wpAny _ X.A (do let _ ← comprehension (.ListComp elt [⟨tg, iter, ifs, 0⟩] sc pos) sc X.env _ (newList []) false (eval iter X.env) (some (assign (.Name y py) X.env))) _ _ s
  refine wpAny_bind (thn (wpAny_comprehension_free (use := some (assign (.Name y py) X.env)) (Q := fun _ s' => SP X pins D .next s') rfl hs C.clos S.kind S.nms
    (thn (hi pins s σ H _ I h) fun xv s1 h1 => thn h1 fun itv s2 h2 => ?_)) fun _ s' hq => wpAny_pure (wpAny_pure hq))
  obtain ⟨it, fp, tn, J, H2, e, I2, T, st2, f2, hW⟩ := h2
  subst e
  refine comp_core (RR := fun acc A => compPost (model X.prog X.w) X.A X.xe (some (assign (.Name y py) X.env)) (fun _ s' => SP X pins D .next s') acc A) hc S C hg hfr ht he I2 T st2 f2 hW fun s5 H4 ys us I5 hv hz fin => ?_
  obtain ⟨m5, hn5, _⟩ := id I5.loc
  have nD : H4 s2.heap.objs.size = none := (I5.pin (s2.heap.objs.size, accObj us) (List.mem_append_right _ (by simp))).2.1
  have nC : H4 (s2.heap.objs.size + 1) = none := I5.free
  have I6 : Inv X pins σ (upd H4 s2.heap.objs.size (.lst ys)) s5 := I2.unblock f2 I5 hv hz (Heap.SameBut.refl _ _)
  show wpAny _ X.A (assign (.Name y py) X.env (.ref s2.heap.objs.size)) _ _ s5
  refine wpAny_assign_Name (store_ok2 (v := .ref s2.heap.objs.size) I6 hN hy hx rfl (fun s7 I7 ⟨a, hsb, ha⟩ => ?_) hf)
  have Clt : s2.heap.objs.size < s2.heap.objs.size + 1 := Nat.lt_succ_self _
  have neL : s2.heap.objs.size + 1 ≠ X.env.locals := Nat.ne_of_gt (Nat.lt_trans I2.lt Clt)
  have neCell : ∀ x c, X.env.cells.lookup x = some c → c ≠ s2.heap.objs.size + 1 := fun x c e => by
    obtain ⟨v', q⟩ := I2.cell x c e
    exact Nat.ne_of_lt (Nat.lt_trans q.lt Clt)
  have neA : s2.heap.objs.size + 1 ≠ a := by
    rcases ha with rfl | ha
    · exact neL
    · exact Ne.symm (neCell _ _ ha)
  refine ⟨m5, hn5.sameBut hsb neA, fun h' hs' => ⟨_, _, ?_, fin _ nD⟩⟩
  exact I7.turned (it := s2.heap.objs.size + 1) (t' := s7.toks) (fun b o hb e => hs'.extBut b o hb e) (by rw [upd_ne (Nat.ne_of_gt Clt)]; exact nC) neL (.inr (Nat.le_trans I2.sz (Nat.le_of_lt Clt))) neCell fun p hp z => by
    have q := Heap.lt_size (I2.pin p hp).1
    rw [z] at q
    exact absurd (Nat.lt_trans Clt q) (Nat.lt_irrefl _)
end
end L2
namespace L2
open PySem PySem.Spec PyProof.Rows
def Its (z : Str) : It := ⟨fun i _ => i < z.cps.size, fun i H x H' => H' = H ∧ ∃ c, z.cps[i]? = some c ∧ x = .str ⟨#[c]⟩, fun i _ => z.cps.size ≤ i⟩
theorem striter_obj {h : Heap} {it : Addr} {ty : String} {z : Str} {t : Tok} {i : Nat} (st : h.IsStrIter it ty z t i) : ∀ b ∈ [it], ∃ o, h.get? b = some o ∧ ∀ v, o.data ≠ .cell v := fun b hb => by
  have e : b = it := by simpa using hb
  subst e
  obtain ⟨o, e, c, d⟩ := st
  exact ⟨o, e, fun v z => by rw [d] at z; cases z⟩
theorem turn_strA {P : Program} {w : World} {K : PySem.W.Frag} {tg : Expr} (z : Str) (t : Tok) (it : Addr) : Turn P w K tg (Its z) [it] it (fun i h => h.IsStrIter it "str_ascii_iterator" z t i) where
  mem := by simp
  obj := fun i h st => striter_obj st
  keep := fun i h h' st k => let ⟨o, ho, r⟩ := st; ⟨o, k it (by simp) o ho, r⟩
  item := by
    intro X hP hw hK hc i pins s σ H E I hf st hg
    subst hP hw hK
    obtain ⟨f0, f1, f2, f3, f4, f5⟩ := hf it (by simp)
    have hg : i < z.cps.size := hg
    refine wpAny_pyNext_ascii_item st (c := z.cps[i]) (by simp [hg]) fun h' st' sb => ?_
    have I1 : Inv X pins σ H { s with heap := h', toks := s.toks + 1 } := I.turned (fun b o hb e => (sb.2 b hb).trans e) f0 f1 f3 f4 f5
    obtain ⟨o, e, c, d⟩ := id st'
    exact ⟨_, rfl, go_of (s := { s with heap := h', toks := s.toks + 1 }) e c d (by decide) ⟨.str ⟨#[z.cps[i]]⟩, H, I1, ⟨_, rfl⟩, ⟨rfl, _, by simp [hg], rfl⟩, st', fun b hb => (hf b hb).1⟩⟩
  done := by
    intro X hP hw hK hc i pins s σ H E I hf st hg
    subst hP hw hK
    obtain ⟨f0, f1, f2, f3, f4, f5⟩ := hf it (by simp)
    have hg : z.cps.size ≤ i := hg
    exact wpAny_pyNext_ascii_end (I.ok.hd hc) st (by simp [hg]) fun h' eb => ⟨rfl, I.turned (t' := s.toks) (fun b o hb e => eb b o hb e) f0 f1 f3 f4 f5⟩
  self := fun _ _ _ _ _ st h => wpAny_pyIter_striter_ascii st h
theorem turn_strW {P : Program} {w : World} {K : PySem.W.Frag} {tg : Expr} (z : Str) (t : Tok) (it : Addr) : Turn P w K tg (Its z) [it] it (fun i h => h.IsStrIter it "str_iterator" z t i) where
  mem := by simp
  obj := fun i h st => striter_obj st
  keep := fun i h h' st k => let ⟨o, ho, r⟩ := st; ⟨o, k it (by simp) o ho, r⟩
  item := by
    intro X hP hw hK hc i pins s σ H E I hf st hg
    subst hP hw hK
    obtain ⟨f0, f1, f2, f3, f4, f5⟩ := hf it (by simp)
    have hg : i < z.cps.size := hg
    refine wpAny_pyNext_wide_item st (c := z.cps[i]) (by simp [hg]) fun h' st' sb => ?_
    have I1 : Inv X pins σ H { s with heap := h', toks := s.toks + 1 } := I.turned (fun b o hb e => (sb.2 b hb).trans e) f0 f1 f3 f4 f5
    obtain ⟨o, e, c, d⟩ := id st'
    exact ⟨_, rfl, go_of (s := { s with heap := h', toks := s.toks + 1 }) e c d (by decide) ⟨.str ⟨#[z.cps[i]]⟩, H, I1, ⟨_, rfl⟩, ⟨rfl, _, by simp [hg], rfl⟩, st', fun b hb => (hf b hb).1⟩⟩
  done := by
    intro X hP hw hK hc i pins s σ H E I hf st hg
    subst hP hw hK
    obtain ⟨f0, f1, f2, f3, f4, f5⟩ := hf it (by simp)
    have hg : z.cps.size ≤ i := hg
    exact wpAny_pyNext_wide_end (I.ok.hd hc) st (by simp [hg]) fun h' eb => ⟨rfl, I.turned (t' := s.toks) (fun b o hb e => eb b o hb e) f0 f1 f3 f4 f5⟩
  self := fun _ _ _ _ _ st h => wpAny_pyIter_striter_wide st h
section
variable {X : Cx} {tg : Expr}
def iStr (tl : TE) : TI := fun σ H R => tl σ H fun x H1 => ∃ z, x = .str z ∧ R (Its z) H1
theorem pi_str {l : Expr} {tl : TE} (hl : PE X l tl) : PI X tg l (iStr tl) := by
  intro pins s σ H R I h
  refine thn (hl pins s σ H _ I h) fun v s1 ⟨x, H1, I1, r1, q1⟩ => ?_
  obtain ⟨z, e, q⟩ := q1
  subst e
  obtain ⟨t, rfl⟩ := r1
  have fin : ∀ b ∈ [s1.heap.objs.size], FpOk X pins H1 b := fun b hb => by
    have e : b = s1.heap.objs.size := by simpa using hb
    subst e
    exact I1.fpOk (Nat.le_refl _) (I1.hok.fresh (Nat.le_refl _))
  cases ha : z.cps.all (· < 128)
  · exact wpAny_pyIter_wide ha ⟨s1.heap.objs.size, [s1.heap.objs.size], _, _, H1, rfl, I1.kept (t' := s1.toks) fun b o e => Heap.get?_push_of_some _ e, turn_strW z t _, ⟨_, Heap.get?_push_size _ rfl, rfl, rfl⟩, fin, q⟩
  · exact wpAny_pyIter_ascii ha ⟨s1.heap.objs.size, [s1.heap.objs.size], _, _, H1, rfl, I1.kept (t' := s1.toks) fun b o e => Heap.get?_push_of_some _ e, turn_strA z t _, ⟨_, Heap.get?_push_size _ rfl, rfl, rfl⟩, fin, q⟩
end
section
variable {X : Cx}
theorem call_isinst : CallR X (.builtin "isinstance") (fun xs H Q => ∃ x T t b, xs = [x, .ty T] ∧ TyOf X.K H x t ∧ PySem.W.kitOne X.K t (.type T) = some b ∧ Q (.bl b) H) := by
  intro pins s σ H xs us Q I r h
  obtain ⟨x, T, t, b, rfl, ty, e, q⟩ := h
  obtain ⟨u, v, rfl, ru, rv⟩ := vals2 r
  cases (show v = Value.type T from rv)
  exact isinst_ok I ru ty e fun tk => ⟨.bl b, H, I.tok tk, rfl, q⟩
theorem op_fdivL : OpR X (binaryOp .FloorDiv) (rI (fun _ j => 0 < j ∧ j.natAbs.log2 < 9000) fun i j => .int (i / j)) := opI fun i j _ _ _ _ _ hc q => by
  have h1 : (0 : Int) < j := hc.1
  exact floordiv_int (by omega) (by rw [Int.fdiv_eq_ediv_of_nonneg i (by omega)]; exact q) (.inl (PyProof.noPylong_of_log2 hc.2))
end
section
variable {X : Cx} {pins : List (Addr × Obj)} {σ σ' : St} {H H' : Hp} {s s' : Shared}
theorem Inv.track {a : Addr} {o : HO} (I0 : Inv X pins σ H s) (I : Inv X pins σ' H' s') (ha : s.heap.objs.size ≤ a) (hn : H' a = none) (new : ObjOk X.prog X.w (upd H' a o) s'.heap a o) : Inv X pins σ' (upd H' a o) s' := by
  have ne : ∀ b, b < s.heap.objs.size → b ≠ a := fun b hb z => by omega
  refine ⟨I.ok, I.os, I.bare, ⟨I.base.keep, I.base.slot, fun b u e n hx => ?_, I.base.there, fun b xs e => ?_, fun b u xs e => ?_, fun b ps e => ?_⟩, I.loc, I.cell, ?_, fun x c e => ?_, fun p hp => ?_, I.hok.track hn new, I.len⟩
  · rw [upd_ne (ne b (Nat.lt_of_lt_of_le (Heap.lt_size e) I0.sz))]
    exact I.base.free b u e n hx
  · have q := I.base.tups b xs e
    rw [upd_ne (ne_of_none q hn)]; exact q
  · have q := I.base.frzs b u xs e
    rw [upd_ne (ne_of_none q hn)]; exact q
  · obtain ⟨more, q⟩ := I.base.tbls b ps e
    exact ⟨more, by rw [upd_ne (ne_of_none q hn)]; exact q⟩
  · rw [upd_ne (ne _ I0.lt)]; exact I.free
  · obtain ⟨v, q⟩ := I0.cell x c e
    rw [upd_ne (ne _ q.lt)]; exact I.freeC x c e
  · obtain ⟨h1, h2, h3⟩ := I.pin p hp
    refine ⟨h1, ?_, h3⟩
    rw [upd_ne (ne _ (Heap.lt_size (I0.pin p hp).1))]; exact h2
theorem Inv.turnedN {t' : Nat} {h' : Heap} {ch : List Addr} (I : Inv X pins σ H s) (hf : ∀ b ∈ ch, FpOk X pins H b) (k : ∀ b o, b ∉ ch → s.heap.get? b = some o → h'.get? b = some o) : Inv X pins σ H { s with heap := h', toks := t' } := by
  have nch : ∀ b u, H b = some u → b ∉ ch := fun b u e z => by rw [(hf b z).1] at e; cases e
  refine I.step (g' := s.gens) (d' := s.drawn) (ch := ch) (fun b hb => ⟨(hf b hb).2.2.2.1, (hf b hb).2.1, (hf b hb).2.2.2.2.1, (hf b hb).2.2.2.2.2⟩) (fun b o _ _ hc e _ => k b o hc e) (fun b o _ _ hc e _ => ⟨o.slots, k b o hc e⟩) (fun _ _ _ _ n => n)
    (fun b o hc e => ⟨o, k b o hc e⟩) (fun _ _ e => e) (fun _ _ _ e => e) (fun b ps e => ⟨#[], by rw [e]; simp⟩) (fun m hm => ?_) (fun b u e => ?_) I.bare
  · obtain ⟨o, es, ep, ho, r⟩ := hm
    exact ⟨o, es, ep, k _ o (fun z => (hf _ z).2.1 rfl) ho, r⟩
  · refine (I.hok b u e).stay (fun c v hc q => k c v ?_ q) (fun _ q => q) fun _ _ q => q
    rcases hc with z | z
    · rw [z]; exact nch b u e
    · exact nch c _ z
end
def Ite (K : PySem.W.Frag) (a : Addr) : It :=
  ⟨fun i H => ∃ xs x, SqL K H a xs ∧ xs[i]? = some x, fun i H x H' => ∃ p v, H p = none ∧ (∀ xs, SqL K H a xs → xs[i]? = some v) ∧ x = .ref p ∧ H' = upd H p (.tup [.int i, v]), fun i H => ∃ xs, SqL K H a xs ∧ xs.length = i⟩
theorem turn_enum {P : Program} {w : World} {K : PySem.W.Frag} {es : List Expr} {k : Nat} {tp : Pos} (a it e : Addr) (hae : a ≠ e) (hai : a ≠ it) (hei : e ≠ it) :
    Turn P w K (.Tuple es k tp) (Ite K a) [e, it] e (fun i h => (∃ old, IsEnum h e it i old) ∧ h.IsListIter it a i) where
  mem := by simp
  obj := fun i h st b hb => by
    rcases List.mem_cons.mp hb with rfl | hb
    · obtain ⟨⟨old, q⟩, _⟩ := st
      exact ⟨_, q, fun v z => by cases z⟩
    · have q : b = it := by simpa using hb
      subst q
      obtain ⟨_, o, q, c, d⟩ := st
      exact ⟨o, q, fun v z => by rw [d] at z; cases z⟩
  keep := fun i h h' st kk => ⟨let ⟨old, q⟩ := st.1; ⟨old, kk e (by simp) _ q⟩, st.2.at fun o q => kk it (by simp) o q⟩
  item := by
    intro X hP hw hK hc i pins s σ H E I hf st hg
    subst hP hw hK
    obtain ⟨xs, x, hq, hx⟩ := hg
    obtain ⟨its, rv, p, hz⟩ := I.list hq
    obtain ⟨u, hu, ru⟩ := rv.get hx
    obtain ⟨⟨old, he⟩, hit⟩ := st
    have hil : i < its.toArray.size := by
      have := (List.getElem?_eq_some_iff.mp hu).1
      simpa using this
    refine wpAny_pyNext_enum_itemD (Draws.list (show X.A.in1.handled = none from I.ok.hd hc) it a hai its.toArray) he ⟨hit, p.isList⟩ hil hei (by simp [hei, Ne.symm hae]) fun x' h' tk hP' ho st' hT hsz hk => ?_
    have ex : x' = u := by
      have q : its.toArray[i]? = some x' := hP'
      have q' : its[i]? = some x' := by simpa using q
      rw [hu] at q'
      exact (Option.some.inj q').symm
    subst ex
    refine ⟨_, rfl, wpAny_letOwnedTupleGo_enum ho fun h'' he'' hs'' => ?_⟩
    have I1 : Inv X pins σ H { s with heap := h'', toks := tk + 1 } := I.turnedN hf fun b o hb q => hs''.extBut b o (fun z => hb (by simp [z])) (hk b o (fun z => hb (by simp [z])) (fun z => hb (by simp [z])) q)
    have hTe : s.heap.objs.size ≠ e := Nat.ne_of_gt (Heap.lt_size he)
    have eT : h''.get? s.heap.objs.size = some { cls := .type "tuple", data := .seq #[.int i tk, x'] } := hs''.extBut _ _ hTe hT
    have nT : H s.heap.objs.size = none := I.hok.fresh (Nat.le_refl _)
    refine ⟨.ref s.heap.objs.size, upd H s.heap.objs.size (.tup [.int i, x]), I.track I1 (Nat.le_refl _) nT ⟨?_, [.int i tk, x'], .cons ⟨tk, rfl⟩ (.cons ru .nil), ⟨_, eT, rfl, _, rfl⟩⟩, rfl, ⟨_, x, nT, fun ys hy => by rw [I.list_inj hy hq]; exact hx, rfl, rfl⟩, ⟨⟨_, by simpa using he''⟩, ?_⟩, fun b hb => ?_⟩
    · show 2 ≤ sizeLine
      decide
    · obtain ⟨o, q, r⟩ := st'.1
      exact ⟨o, hs''.extBut _ _ (Ne.symm hei) q, r⟩
    · obtain ⟨o, q⟩ : ∃ o, s.heap.get? b = some o := by
        rcases List.mem_cons.mp hb with rfl | hb
        · exact ⟨_, he⟩
        · have q : b = it := by simpa using hb
          subst q
          obtain ⟨o, q, _⟩ := hit
          exact ⟨o, q⟩
      rw [upd_ne (Nat.ne_of_lt (Heap.lt_size q))]
      exact (hf b hb).1
  done := by
    intro X hP hw hK hc i pins s σ H E I hf st hg
    subst hP hw hK
    obtain ⟨xs, hq, hx⟩ := hg
    obtain ⟨its, rv, p, hz⟩ := I.list hq
    obtain ⟨⟨old, he⟩, hit⟩ := st
    have hl := rv.length
    have hi : i = its.toArray.size := by rw [List.size_toArray]; omega
    have hD := Draws.list (prog := X.prog) (w := X.w) (show X.A.in1.handled = none from I.ok.hd hc) it a hai its.toArray
    rw [hi] at hit
    exact wpAny_pyNext_enum_endD hD he ⟨hit, p.isList⟩ fun h' eb => ⟨rfl, I.turnedN hf fun b o hb q => eb b o (fun z => hb (by simp [z])) q⟩
  self := fun _ _ _ _ _ st h => let ⟨old, q⟩ := st.1; wpAny_pyIter_enum q h
section
variable {X : Cx}
def iEnum (K : PySem.W.Frag) (ta : TA) : TI := fun σ H R => ta σ H fun vs H1 => ∃ a, vs = [.ref a] ∧ (∃ xs, SqL K H1 a xs) ∧ R (Ite K a) H1
theorem pi_enum {es : List Expr} {k : Nat} {tp : Pos} {a : Expr} {ta : TA} {p pos : Pos} (hg : Gl X "enumerate") (hm : X.mg "enumerate" = none) (ha : PA X [a] ta) (hs : starEach [a] X.env = [(false, eval a X.env)] := by rfl) :
    PI X (.Tuple es k tp) (.Call (.Name "enumerate" p) [a] [] pos) (iEnum X.K ta) := by
  intro pins s σ H R I h
  refine Call_ (ld_blt I hg hm boot_enumerate (PyProof.Rows.callWith_type1 (thn (ha pos pins s σ H _ I h) fun us s1 ⟨vs, H1, I1, r1, q1⟩ => ?_) hs rfl))
  obtain ⟨l, e, ⟨xs, hq⟩, q⟩ := q1
  subst e
  obtain ⟨u, rfl, ru⟩ := vals1 r1
  cases ru
  obtain ⟨its, rv, pl, hz⟩ := I1.list hq
  have hlt : l < s1.heap.objs.size := by obtain ⟨_, e, _⟩ := pl.isList; exact Heap.lt_size e
  refine call_enumerate_list pl.isList fun h' he hit hsz hk => ?_
  refine wpAny_pyIter_enum he ?_
  have I2 : Inv X pins σ H1 { s1 with heap := h' } := I1.kept (t' := s1.toks) hk
  refine ⟨s1.heap.objs.size + 1, [s1.heap.objs.size + 1, s1.heap.objs.size], _, _, H1, rfl, I2, turn_enum l s1.heap.objs.size (s1.heap.objs.size + 1) (Nat.ne_of_lt (Nat.lt_succ_of_lt hlt)) (Nat.ne_of_lt hlt) (Nat.ne_of_gt (Nat.lt_succ_self _)), ⟨⟨_, he⟩, hit⟩, fun b hb => ?_, q⟩
  have hb' : s1.heap.objs.size ≤ b := by
    rcases List.mem_cons.mp hb with rfl | hb
    · exact Nat.le_succ _
    · have e : b = s1.heap.objs.size := by simpa using hb
      exact Nat.le_of_eq e.symm
  exact I1.fpOk hb' (I1.hok.fresh hb')
end
theorem for_enum {K : PySem.W.Frag} {a : Addr} {xs : List V} {g : TG} {tb : TS} {D : Ends} {σ : St} {H : Hp} (Pv : Nat → St → Hp → Prop) (h0 : Pv 0 σ H) (hl : ∀ i σ H, i ≤ xs.length → Pv i σ H → SqL K H a xs)
    (hs : ∀ i x σ H p, xs[i]? = some x → Pv i σ H → H p = none → g (.ref p) σ (upd H p (.tup [.int i, x])) fun σ2 H2 => tb { D with nx := Pv (i + 1), ct := Pv (i + 1), bk := D.nx } σ2 H2) (hd : ∀ σ H, Pv xs.length σ H → D.nx σ H) :
    ∃ W : Nat → Nat → St → Hp → Prop, (∃ m, W 0 m σ H) ∧ ∀ i m σ H, W i m σ H →
      ((Ite K a).stop i H ∧ D.nx σ H) ∨ ((Ite K a).go i H ∧ ∃ N : St → Hp → Prop, (∀ σ' H', N σ' H' → ∃ m', m' < m ∧ W (i + 1) m' σ' H') ∧ ∀ x H', (Ite K a).yld i H x H' → g x σ H' fun σ2 H2 => tb { D with nx := N, ct := N, bk := D.nx } σ2 H2) := by
  refine ⟨fun i m σ H => m = xs.length - i ∧ i ≤ xs.length ∧ Pv i σ H, ⟨xs.length, by simp, Nat.zero_le _, h0⟩, ?_⟩
  rintro i m σ H ⟨rfl, hi, p⟩
  have q := hl i σ H hi p
  by_cases hlt : i < xs.length
  · refine .inr ⟨⟨xs, xs[i], q, by simp [hlt]⟩, Pv (i + 1), fun σ' H' p' => ⟨xs.length - (i + 1), by omega, rfl, hlt, p'⟩, fun x H' y => ?_⟩
    obtain ⟨b, v, hb, hv, rfl, rfl⟩ := y
    exact hs i v σ H b (hv xs q) p hb
  · have e : i = xs.length := by omega
    subst e
    exact .inl ⟨⟨xs, q, rfl⟩, hd σ H p⟩
end L2
namespace L2
open PySem PySem.Spec PyProof.Rows
theorem relabel_kind {sc : Scope} {env : Env} {x : Str} {k : NameKind} (h : (relabel sc env).names.lookup x = some k) : ∃ y ∈ sc.names, y.2 = k ∨ y.2 = .free := by
  have hm := PySem.mem_of_lookup h
  obtain ⟨y, hy, e⟩ := List.mem_map.mp hm
  refine ⟨y, hy, ?_⟩
  obtain ⟨n, k0⟩ := y
  dsimp only at e
  split at e
  · rename_i hc
    rw [Bool.and_eq_true, Bool.and_eq_true] at hc
    exact .inr (beq_iff_eq.mp hc.1.1)
  · cases e
    exact .inl rfl
theorem caps0 {X : Cx} {sc : Scope} (h : ∀ y ∈ sc.names, y.2 ≠ .free ∧ y.2 ≠ .cell) : Caps X sc [] [] where
  clos := closureFor_none fun y hy => (h y hy).1
  sub := fun x c e => by cases e
  has := fun x e => by
    exfalso
    rcases e with e | e <;> obtain ⟨y, hy, z⟩ := relabel_kind e <;> rcases z with z | z
    · exact (h y hy).2 z
    · exact (h y hy).1 z
    · exact (h y hy).1 z
    · exact (h y hy).1 z
  cap := fun p hp => nomatch hp
theorem Same.up {H H' : Hp} {p : Addr} {o : HO} (e : Same H H') (h : H' p = none) : Same H (upd H' p o) := fun b u q => by
  rw [upd_ne (ne_of_none (e b u q) h)]
  exact e b u q
theorem Same.new {H : Hp} {p : Addr} {o : HO} (h : H p = none) : Same H (upd H p o) := (Same.refl H).up h
theorem Same.wr {H H' : Hp} {p : Addr} {o : HO} (e : Same H H') (h : H p = none) : Same H (upd H' p o) := fun b u q => by
  rw [upd_ne (ne_of_none q h)]
  exact e b u q
section
variable {X : Cx}
def rIxA (K : PySem.W.Frag) : R2 := fun x y H Q => ∃ p xs i, x = .ref p ∧ y = .int i ∧ SqL K H p xs ∧ 0 ≤ i ∧ i < (xs.length : Int) ∧ ∀ v ∈ xs, Q v H
theorem ix_any : IxR X (rIxA X.K) := by
  intro value slice pins s σ H x y v u Q I rx ry h hs
  obtain ⟨p, xs, i, ex, ey, hq, h0, h1, q⟩ := h
  obtain ⟨j, rfl⟩ := Int.eq_ofNat_of_zero_le h0
  have hj : j < xs.length := by omega
  exact ix_list value slice pins s σ H x y v u Q I rx ry ⟨p, xs, j, xs[j], ex, ey, hq, atI_nat (List.getElem?_eq_getElem hj), q _ (List.getElem_mem hj)⟩ hs
end
theorem atI_in {α : Type} (xs : List α) (i : Int) (h0 : 0 ≤ i) (h1 : i < (xs.length : Int)) : ∃ v, atI xs i = some v := by
  obtain ⟨j, rfl⟩ := Int.eq_ofNat_of_zero_le h0
  have hj : j < xs.length := by omega
  exact ⟨xs[j], atI_nat (List.getElem?_eq_getElem hj)⟩
theorem mod_lo (x : Int) {m : Int} (h : 0 < m) : 0 ≤ x % m := Int.emod_nonneg _ (by omega)
theorem mod_hi (x : Int) {m : Int} (h : 0 < m) : x % m < m := Int.emod_lt_of_pos _ h
theorem cm {x m : Int} (h0 : 0 < m) (h1 : m ≤ 2 ^ 64) : -(2 ^ 64) < x % m ∧ x % m < 2 ^ 64 := by
  have a := mod_lo x h0
  have b := mod_hi x h0
  omega
theorem size_app (x y : Str) : (x ++ y).cps.size = x.cps.size + y.cps.size := Array.size_append
section
variable {X : Cx} {es : List Expr} {t : TA} {pos : Pos}
def tTupA (t : TA) : TE := fun σ H Q => t σ H fun xs H1 => xs.length ≤ sizeLine ∧ ∀ p H', H1 p = none → Same H1 H' → H' p = some (.tup xs) → Q (.ref p) H'
def tLstA (t : TA) : TE := fun σ H Q => t σ H fun xs H1 => xs.length ≤ sizeLine ∧ ∀ p H', H1 p = none → Same H1 H' → H' p = some (.lst xs) → Q (.ref p) H'
theorem pe_tupA {x1} (h : PA X es t) : PE X (.Tuple es x1 pos) (tTupA t) := by
  intro pins s σ H Q I hq
  refine wpAny_Tuple_spliced (thn (h pos pins s σ H _ I hq) fun us s1 ⟨xs, H1, I1, r, z, q⟩ => ⟨by rw [← r.length]; exact z, ?_⟩)
  have hf : H1 s1.heap.objs.size = none := I1.hok.fresh (Nat.le_refl _)
  refine ⟨.ref s1.heap.objs.size, upd H1 s1.heap.objs.size (.tup xs), I1.laid (t' := s1.toks) (fun b u e => Heap.get?_push_of_some _ e) (Nat.le_refl _) ?_, rfl, q _ _ hf (Same.new hf) upd_same⟩
  exact ⟨z, us, r, ⟨_, Heap.get?_push_size _ rfl, rfl, _, rfl⟩⟩
theorem pe_lstA (h : PA X es t) : PE X (.List es pos) (tLstA t) := by
  intro pins s σ H Q I hq
  refine wpAny_List_spliced (thn (h pos pins s σ H _ I hq) fun us s1 ⟨xs, H1, I1, r, z, q⟩ => ⟨by rw [← r.length]; exact z, ?_⟩)
  have hf : H1 s1.heap.objs.size = none := I1.hok.fresh (Nat.le_refl _)
  refine ⟨.ref s1.heap.objs.size, upd H1 s1.heap.objs.size (.lst xs), I1.laid (t' := s1.toks) (fun b u e => Heap.get?_push_of_some _ e) (Nat.le_refl _) ?_, rfl, q _ _ hf (Same.new hf) upd_same⟩
  exact ⟨z, us, 0, r, Heap.get?_push_size _ rfl⟩
theorem OpR.imp {f : Value → Value → Sem Value} {r r' : R2} (h : OpR X f r) (i : ∀ x y H Q, r' x y H Q → r x y H Q) : OpR X f r' := fun pins s σ H x y v u Q I rx ry q => h pins s σ H x y v u Q I rx ry (i x y H Q q)
theorem SlR.imp {r r' : V → Option Int → Option Int → Hp → VK → Prop} (h : SlR X r) (i : ∀ x lo hi H Q, r' x lo hi H Q → r x lo hi H Q) : SlR X r' := fun pins s σ H x v vl vu lo hi sl Q I rx hs pl pu q => h pins s σ H x v vl vu lo hi sl Q I rx hs pl pu (i x lo hi H Q q)
def rCatA : R2 := fun x y H Q => ∃ l b xs zs, x = .ref l ∧ y = .ref b ∧ H l = some (.lst xs) ∧ H b = some (.lst zs) ∧ xs.length + zs.length ≤ sizeLine ∧ ∀ p H', H p = none → Same H H' → H' p = some (.lst (xs ++ zs)) → Q (.ref p) H'
theorem op_catA : OpR X (binaryOp .Add) rCatA := op_cat.imp fun _ _ _ _ ⟨l, b, xs, zs, h1, h2, h3, h4, h5, q⟩ => ⟨l, b, xs, zs, h1, h2, h3, h4, h5, fun p hp => q p _ hp (Same.new hp) upd_same⟩
def rSlLA (K : PySem.W.Frag) : V → Option Int → Option Int → Hp → VK → Prop := fun x lo hi H Q => ∃ a xs, x = .ref a ∧ SqL K H a xs ∧ ∀ p H', H p = none → Same H H' → H' p = some (.lst (cutV xs lo hi)) → Q (.ref p) H'
theorem sl_listA : SlR X (rSlLA X.K) := sl_list.imp fun _ _ _ _ _ ⟨a, xs, h1, h2, q⟩ => ⟨a, xs, h1, h2, fun p hp => q p _ hp (Same.new hp) upd_same⟩
end
end L2
namespace L2
open PySem PySem.Spec PyProof.Rows
def clo (env : Env) : List (Str × NameKind) → List (Str × Addr) → List (Str × Addr)
  | [], acc => acc
  | (n, k) :: r, acc => clo env r (if k == .free then (n, (env.cells.lookup n).getD 0) :: acc else acc)
theorem closure_clo {env : Env} {sc : Scope} (h : ∀ y ∈ sc.names, y.2 = .free → ∃ c, env.cells.lookup y.1 = some c) : closureFor sc env = pure (clo env sc.names []) := by
  have all : ∀ (names : List (Str × NameKind)) (acc : List (Str × Addr)), (∀ y ∈ names, y.2 = .free → ∃ c, env.cells.lookup y.1 = some c) →
      (forIn names acc fun x r => (match x with
        | (name, kind) => if (kind == NameKind.free) = true then do
            let a ← cellOf env name
            pure (ForInStep.yield ((name, a) :: r))
          else pure (ForInStep.yield r) : Sem (ForInStep (List (Str × Addr))))) = pure (clo env names acc) := by
    intro names
    induction names with
    | nil => intro acc _; rfl
    | cons x r ih =>
      intro acc hx
      obtain ⟨n, k⟩ := x
      rw [List.forIn_cons]
      cases hk : (k == NameKind.free) with
      | true =>
        obtain ⟨c, hc⟩ := hx (n, k) List.mem_cons_self (beq_iff_eq.mp hk)
        have e : cellOf env n = pure c := by unfold cellOf; rw [hc]
        dsimp only
        rw [if_pos hk, e]
        refine Eq.trans (by first | rfl | simp) ((ih ((n, c) :: acc) fun y hy => hx y (List.mem_cons_of_mem _ hy)).trans ?_)
        show _ = pure (clo env r (if (k == NameKind.free) = true then (n, (env.cells.lookup n).getD 0) :: acc else acc))
        rw [if_pos hk, show env.cells.lookup n = some c from hc]
        rfl
      | false =>
        dsimp only
        rw [if_neg (by rw [hk]; exact Bool.false_ne_true)]
        refine Eq.trans (by first | rfl | simp) ((ih acc fun y hy => hx y (List.mem_cons_of_mem _ hy)).trans ?_)
        show _ = pure (clo env r (if (k == NameKind.free) = true then (n, (env.cells.lookup n).getD 0) :: acc else acc))
        rw [if_neg (by rw [hk]; exact Bool.false_ne_true)]
  have e := all sc.names [] h
  show ((forIn sc.names [] fun x r => (match x with
        | (name, kind) => if (kind == NameKind.free) = true then do
            let a ← cellOf env name
            pure (ForInStep.yield ((name, a) :: r))
          else pure (ForInStep.yield r) : Sem (ForInStep (List (Str × Addr))))) >>= fun cs => pure cs) = _
  rw [e]
  rfl
theorem clo_sub {env : Env} : ∀ {names : List (Str × NameKind)} {acc : List (Str × Addr)}, (∀ y ∈ names, y.2 = .free → ∃ c, env.cells.lookup y.1 = some c) → (∀ x c, acc.lookup x = some c → env.cells.lookup x = some c) →
    ∀ x c, (clo env names acc).lookup x = some c → env.cells.lookup x = some c
  | [], _, _, h => h
  | (n, k) :: r, acc, hx, h => by
    refine clo_sub (names := r) (fun y hy => hx y (List.mem_cons_of_mem _ hy)) fun x c e => ?_
    cases hk : (k == NameKind.free) with
    | true =>
      rw [hk, if_pos rfl] at e
      obtain ⟨c', hc⟩ := hx (n, k) List.mem_cons_self (beq_iff_eq.mp hk)
      rw [List.lookup_cons] at e
      cases hxn : (x == n) with
      | true =>
        rw [hxn] at e
        have q := beq_iff_eq.mp hxn
        subst q
        have e' : (env.cells.lookup x).getD 0 = c := Option.some.inj e
        have hc' : env.cells.lookup x = some c' := hc
        rw [hc'] at e' ⊢
        exact congrArg some e'
      | false => rw [hxn] at e; exact h x c e
    | false => rw [hk, if_neg Bool.false_ne_true] at e; exact h x c e
theorem clo_has {env : Env} {x : Str} : ∀ {names : List (Str × NameKind)} {acc : List (Str × Addr)}, ((x, NameKind.free) ∈ names ∨ ∃ c, acc.lookup x = some c) → ∃ c, (clo env names acc).lookup x = some c
  | [], _, h => h.elim (fun z => nomatch z) id
  | (n, k) :: r, acc, h => by
    refine clo_has (names := r) ?_
    have put : ∀ c', ∃ c, ((n, c') :: acc).lookup x = some c ∨ (x ≠ n ∧ acc.lookup x = none) := fun c' => by
      rw [List.lookup_cons]
      cases hxn : (x == n) with
      | true => exact ⟨c', .inl rfl⟩
      | false =>
        cases ha : acc.lookup x with
        | some c => exact ⟨c, .inl rfl⟩
        | none => exact ⟨0, .inr ⟨fun z => by subst z; simp at hxn, rfl⟩⟩
    rcases h with h | ⟨c, h⟩
    · rcases List.mem_cons.mp h with q | q
      · cases q
        refine .inr ?_
        rw [if_pos (by rfl), List.lookup_cons]
        simp
      · exact .inl q
    · refine .inr ?_
      cases hk : (k == NameKind.free) with
      | true =>
        rw [if_pos (by rfl)]
        obtain ⟨c1, q | q⟩ := put ((env.cells.lookup n).getD 0)
        · exact ⟨c1, q⟩
        · rw [q.2] at h; cases h
      | false => rw [if_neg Bool.false_ne_true]; exact ⟨c, h⟩
theorem relabel_at {sc : Scope} {env : Env} {x : Str} {k : NameKind} (h : (relabel sc env).names.lookup x = some k) : ∃ y ∈ sc.names, y.1 = x ∧ (y.2 = k ∨ y.2 = .free) := by
  have hm := PySem.mem_of_lookup h
  obtain ⟨y, hy, e⟩ := List.mem_map.mp hm
  refine ⟨y, hy, ?_⟩
  obtain ⟨n, k0⟩ := y
  dsimp only at e
  split at e
  · rename_i hc
    rw [Bool.and_eq_true, Bool.and_eq_true] at hc
    cases e
    exact ⟨rfl, .inr (beq_iff_eq.mp hc.1.1)⟩
  · cases e
    exact ⟨rfl, .inl rfl⟩
theorem caps_of {X : Cx} {sc : Scope} {fr : List (Str × Nat)} (hX : ∀ x, X.env.kindOf x = some .cell → ∃ c, X.env.cells.lookup x = some c) (hcell : ∀ y ∈ sc.names, y.2 ≠ .cell)
    (hfree : ∀ y ∈ sc.names, y.2 = .free → X.env.kindOf y.1 = some .cell)
    (hcap : ∀ p ∈ fr, X.N[p.2]? = some p.1 ∧ X.env.kindOf p.1 = some .cell ∧ (relabel sc X.env).names.lookup p.1 = some .cell) : Caps X sc (clo X.env sc.names []) fr where
  clos := closure_clo fun y hy e => hX _ (hfree y hy e)
  sub := clo_sub (fun y hy e => hX _ (hfree y hy e)) fun x c e => by cases e
  has := fun x e => by
    refine clo_has (.inl ?_)
    rcases e with e | e <;> obtain ⟨y, hy, rfl, z⟩ := relabel_at e <;> rcases z with z | z
    · exact absurd z (hcell y hy)
    · rw [← z]; exact hy
    · rw [← z]; exact hy
    · rw [← z]; exact hy
  cap := fun p hp => by
    obtain ⟨h1, h2, h3⟩ := hcap p hp
    exact ⟨h1, by rw [h2]; decide, .inr (.inl h2), .inl h3⟩
theorem caps_def {X : Cx} {sc : Scope} {fr : List (Str × Nat)} (scX : Scope) (N : List Str) (h1 : X.env.scope = scX) (h2 : X.N = N) (hX : ∀ x, X.env.kindOf x = some .cell → ∃ c, X.env.cells.lookup x = some c)
    (hcell : ∀ y ∈ sc.names, y.2 ≠ .cell) (hfree : ∀ y ∈ sc.names, y.2 = .free → scX.names.lookup y.1 = some .cell)
    (hcap : ∀ p ∈ fr, N[p.2]? = some p.1 ∧ scX.names.lookup p.1 = some .cell ∧ (relabel sc { scope := scX, locals := 0, globals := 0, cells := [] }).names.lookup p.1 = some .cell) : Caps X sc (clo X.env sc.names []) fr := by
  refine caps_of hX hcell (fun y hy e => ?_) fun p hp => ?_
  · show X.env.scope.names.lookup y.1 = some .cell
    rw [h1]
    exact hfree y hy e
  · obtain ⟨a, b, c⟩ := hcap p hp
    refine ⟨by rw [h2]; exact a, ?_, ?_⟩
    · show X.env.scope.names.lookup p.1 = some .cell
      rw [h1]
      exact b
    · have e : relabel sc X.env = relabel sc { scope := scX, locals := 0, globals := 0, cells := [] } := by
        unfold relabel Env.kindOf
        rw [h1]
      rw [e]
      exact c
section
variable {X : Cx}
theorem CallR.imp {f : Value} {r r' : List V → Hp → VK → Prop} (h : CallR X f r) (i : ∀ xs H Q, r' xs H Q → r xs H Q) : CallR X f r' := fun pins s σ H xs us Q I rv q => h pins s σ H xs us Q I rv (i xs H Q q)
def rTupA (K : PySem.W.Frag) : List V → Hp → VK → Prop := fun xs H Q => ∃ p ys, xs = [.ref p] ∧ SqL K H p ys ∧ ∀ l H', H l = none → Same H H' → H' l = some (.tup ys) → Q (.ref l) H'
theorem call_tupA : CallR X (.type "tuple") (rTupA X.K) := call_tuple_of.imp fun _ _ _ ⟨p, ys, h1, h2, q⟩ => ⟨p, ys, h1, .inl ⟨h2, fun l hl => q l _ hl (Same.new hl) upd_same⟩⟩
def rLstA (K : PySem.W.Frag) : List V → Hp → VK → Prop := fun xs H Q => ∃ p ys, xs = [.ref p] ∧ (SqL K H p ys ∨ SqT K H p ys) ∧ ∀ l H', H l = none → Same H H' → H' l = some (.lst ys) → Q (.ref l) H'
theorem call_lstA : CallR X (.type "list") (rLstA X.K) := call_list_of.imp fun _ _ _ ⟨p, ys, h1, h2, q⟩ => ⟨p, ys, h1, h2, fun l hl => q l _ hl (Same.new hl) upd_same⟩
def rCatTA (K : PySem.W.Frag) : R2 := fun x y H Q => ∃ a b xs ys, x = .ref a ∧ y = .ref b ∧ SqT K H a xs ∧ SqT K H b ys ∧ xs ≠ [] ∧ ys ≠ [] ∧ xs.length + ys.length ≤ sizeLine ∧ ∀ l H', H l = none → Same H H' → H' l = some (.tup (xs ++ ys)) → Q (.ref l) H'
theorem op_catTA : OpR X (binaryOp .Add) (rCatTA X.K) := op_catT.imp fun _ _ _ _ ⟨a, b, xs, ys, h1, h2, h3, h4, h5, hne, h6, q⟩ => ⟨a, b, xs, ys, h1, h2, h3, h4, h5, h6, fun e => absurd e hne, fun _ p hp => q p _ hp (Same.new hp) upd_same⟩
def rRepA : R2 := fun x y H Q => ∃ l k xs, x = .ref l ∧ y = .int k ∧ H l = some (.lst xs) ∧ -(2 ^ 63) ≤ k ∧ k < 2 ^ 63 ∧ xs.length * k.toNat ≤ sizeLine ∧ ∀ p H', H p = none → Same H H' → H' p = some (.lst (List.replicate k.toNat xs).flatten) → Q (.ref p) H'
theorem op_repA : OpR X (binaryOp .Mult) rRepA := op_rep.imp fun _ _ _ _ ⟨l, k, xs, h1, h2, h3, h4, h5, h6, q⟩ => ⟨l, k, xs, h1, h2, h3, h4, h5, h6, fun p hp => q p _ hp (Same.new hp) upd_same⟩
end
end L2
namespace L2
open PySem PySem.Spec PyProof.Rows
theorem for_str {z : Str} {g : TG} {tb : TS} {D : Ends} {σ : St} {H : Hp} (Pv : Nat → St → Hp → Prop) (h0 : Pv 0 σ H)
    (hs : ∀ i c σ H, z.cps[i]? = some c → Pv i σ H → g (.str ⟨#[c]⟩) σ H fun σ2 H2 => tb { D with nx := Pv (i + 1), ct := Pv (i + 1), bk := D.nx } σ2 H2) (hd : ∀ σ H, Pv z.cps.size σ H → D.nx σ H) :
    ∃ W : Nat → Nat → St → Hp → Prop, (∃ m, W 0 m σ H) ∧ ∀ i m σ H, W i m σ H →
      ((Its z).stop i H ∧ D.nx σ H) ∨ ((Its z).go i H ∧ ∃ N : St → Hp → Prop, (∀ σ' H', N σ' H' → ∃ m', m' < m ∧ W (i + 1) m' σ' H') ∧ ∀ x H', (Its z).yld i H x H' → g x σ H' fun σ2 H2 => tb { D with nx := N, ct := N, bk := D.nx } σ2 H2) := by
  refine ⟨fun i m σ H => m = z.cps.size - i ∧ i ≤ z.cps.size ∧ Pv i σ H, ⟨z.cps.size, by simp, Nat.zero_le _, h0⟩, ?_⟩
  rintro i m σ H ⟨rfl, hi, p⟩
  by_cases hlt : i < z.cps.size
  · refine .inr ⟨hlt, Pv (i + 1), fun σ' H' p' => ⟨z.cps.size - (i + 1), by omega, rfl, hlt, p'⟩, fun x H' y => ?_⟩
    obtain ⟨rfl, c, hc, rfl⟩ := y
    exact hs i c σ _ hc p
  · have e : i = z.cps.size := by omega
    subst e
    exact .inl ⟨Nat.le_refl _, hd σ H p⟩
theorem lc_any {K : PySem.W.Frag} {a : Addr} {xs : List V} {own : List Str} {fr : List (Str × Nat)} {g : TG} {tt : TT} {te : TE} {σ : St} {H : Hp} {Q : VK} (hz : xs.length ≤ sizeLine) (Pv : Nat → List V → Hp → Prop) (h0 : Pv 0 [] H) (hl : ∀ i ys H, Pv i ys H → SqL K H a xs)
    (hs : ∀ i x ys H' (K1 : V → Hp → Prop) (K0 : Hp → Prop), xs[i]? = some x → Pv i ys H' → (∀ y H4, Pv (i + 1) (ys ++ [y]) H4 → K1 y H4) → (∀ H3, Pv (i + 1) ys H3 → K0 H3) →
      g x (compSt own fr σ) H' fun σ2 H2 => tt σ2 H2 fun b H3 => if b = true then te σ2 H3 K1 else K0 H3)
    (hd : ∀ H' p ys, Pv xs.length ys H' → ys.length ≤ xs.length → H' p = none → Q (.ref p) (upd H' p (.lst ys))) : LCb own fr g tt te σ Q (Itl K a) H := by
  refine ⟨fun i m ys H => m = xs.length - i ∧ i ≤ xs.length ∧ ys.length ≤ i ∧ Pv i ys H, ⟨xs.length, by simp, Nat.zero_le _, Nat.zero_le _, h0⟩, ?_⟩
  rintro i m ys H ⟨rfl, hi, hy, p⟩
  by_cases hlt : i < xs.length
  · refine .inr ⟨⟨xs, xs[i], hl _ _ H p, by simp [hlt]⟩, by omega, fun x H' y => ?_⟩
    obtain ⟨rfl, y⟩ := y
    have hc := y xs (hl _ _ _ p)
    refine hs i x ys H' _ _ hc p (fun y H4 p4 => ⟨xs.length - (i + 1), by omega, rfl, hlt, ?_, p4⟩) fun H3 p3 => ⟨xs.length - (i + 1), by omega, rfl, hlt, by omega, p3⟩
    rw [List.length_append, List.length_singleton]
    omega
  · have e : i = xs.length := by omega
    subst e
    exact .inl ⟨⟨xs, hl _ _ H p, Nat.le_refl _⟩, fun q hq => hd H q ys p hy hq⟩
theorem lc_range {lo : Int} {n : Nat} {own : List Str} {fr : List (Str × Nat)} {g : TG} {tt : TT} {te : TE} {σ : St} {H : Hp} {Q : VK} (hz : n ≤ sizeLine) (Pv : Nat → List V → Hp → Prop) (h0 : Pv 0 [] H)
    (hs : ∀ i ys H' (K1 : V → Hp → Prop) (K0 : Hp → Prop), i < n → Pv i ys H' → (∀ y H4, Pv (i + 1) (ys ++ [y]) H4 → K1 y H4) → (∀ H3, Pv (i + 1) ys H3 → K0 H3) →
      g (.int (lo + i)) (compSt own fr σ) H' fun σ2 H2 => tt σ2 H2 fun b H3 => if b = true then te σ2 H3 K1 else K0 H3)
    (hd : ∀ H' p ys, Pv n ys H' → ys.length ≤ n → H' p = none → Q (.ref p) (upd H' p (.lst ys))) : LCb own fr g tt te σ Q (Itr lo n) H := by
  refine ⟨fun i m ys H => m = n - i ∧ i ≤ n ∧ ys.length ≤ i ∧ Pv i ys H, ⟨n, by simp, Nat.zero_le _, Nat.zero_le _, h0⟩, ?_⟩
  rintro i m ys H ⟨rfl, hi, hy, p⟩
  by_cases hlt : i < n
  · refine .inr ⟨hlt, by omega, fun x H' y => ?_⟩
    obtain ⟨rfl, rfl⟩ := y
    refine hs i ys H' _ _ hlt p (fun y H4 p4 => ⟨n - (i + 1), by omega, rfl, hlt, ?_, p4⟩) fun H3 p3 => ⟨n - (i + 1), by omega, rfl, hlt, by omega, p3⟩
    rw [List.length_append, List.length_singleton]
    omega
  · have e : i = n := by omega
    subst e
    exact .inl ⟨Nat.le_refl _, fun q hq => hd H q ys p hy hq⟩
section
variable {X : Cx} {pins : List (Addr × Obj)} {σ : St} {H : Hp} {s : Shared}
end
theorem nodup_len {α : Type} [DecidableEq α] : ∀ {S ws : List α}, S.Nodup → (∀ x ∈ S, x ∈ ws) → S.length ≤ ws.length
  | [], _, _, _ => Nat.zero_le _
  | x :: S, ws, nd, h => by
    have hx := h x List.mem_cons_self
    have nd' := List.nodup_cons.mp nd
    have ih := nodup_len (S := S) (ws := ws.erase x) nd'.2 fun y hy => (List.mem_erase_of_ne (fun (e : y = x) => nd'.1 (by rw [← e]; exact hy))).mpr (h y (List.mem_cons_of_mem _ hy))
    have el := List.length_erase_of_mem hx
    have pos : 0 < ws.length := List.length_pos_of_mem hx
    show S.length + 1 ≤ ws.length
    omega
section
variable {X : Cx} {K : PySem.W.Frag}
theorem ix_anyK (h : X.K = K) : IxR X (rIxA K) := h ▸ ix_any
theorem ix_listK (h : X.K = K) : IxR X (rIxL K) := h ▸ ix_list
end
def tDctTA : TE := fun _ H Q => ∀ p H', H p = none → Same H H' → H' p = some (.dT []) → Q (.ref p) H'
theorem pe_dctTA {X : Cx} {pos : Pos} : PE X (.Dict [] [] pos) tDctTA := fun pins s σ H Q I h => pe_dnewT pins s σ H Q I fun p hp => h p _ hp (Same.new hp) upd_same
theorem SqL.same {K : PySem.W.Frag} {H H' : Hp} {a : Addr} {xs : List V} (h : SqL K H a xs) (s : Same H H') : SqL K H' a xs := by
  rcases h with (h | ⟨o, h⟩) | h
  · exact .inl (.inl (s _ _ h))
  · exact .inl (.inr ⟨o, s _ _ h⟩)
  · exact .inr h
def rCatS (K : PySem.W.Frag) : R2 := fun x y H Q => ∃ l b xs zs, x = .ref l ∧ y = .ref b ∧ SqL K H l xs ∧ H b = some (.lst zs) ∧ xs.length + zs.length ≤ sizeLine ∧ ∀ p H', H p = none → Same H H' → H' p = some (.lst (xs ++ zs)) → Q (.ref p) H'
theorem op_catS {X : Cx} : OpR X (binaryOp .Add) (rCatS X.K) := by
  intro pins s σ H x y v u Q I rx ry h
  obtain ⟨l, b, xs, zs, rfl, rfl, hH, hB, hz, q⟩ := h
  cases rx
  cases ry
  obtain ⟨its, r, pl, z⟩ := I.list hH
  obtain ⟨⟨cls, dict, data, sl⟩, n, e, c1, c2, c3⟩ := pl
  dsimp only at c1 c2 c3
  subst c1 c2 c3
  obtain ⟨z2, its2, n2, r2, hl2, e2⟩ := I.lstM hB
  have hl := r.length
  refine concat_meets ⟨_, e, rfl⟩ ⟨_, e2, rfl⟩ noFill_list_add seq_list_add PySem.F.slot_list_add PySem.F.entry_list_add (PySem.F.args_list_add_2 _ _) (list_addW l b its.toArray its2.toArray n n2 none none sl #[] (by rw [List.size_toArray, List.size_toArray]; omega)) ⟨e, e2, ?_⟩
  have ea : its.toArray ++ its2.toArray = (its ++ its2).toArray := by simp
  rw [ea]
  exact ⟨.ref _, _, I.lnew (t' := s.toks) (r.append r2) (by rw [List.length_append]; omega), rfl, q _ _ I.fresh (Same.new I.fresh) upd_same⟩
end L2
namespace L2
open PySem PySem.Spec PyProof.Rows
section
variable {X : Cx}
theorem strs_of : ∀ {ys : List Str} {us : List Value}, Vals (ys.map V.str) us → StrsAre us ys
  | [], _, h => by cases h; exact .nil
  | y :: ys, _, h => by
    cases h with
    | cons r t =>
      obtain ⟨k, rfl⟩ := r
      exact .cons y k (strs_of t)
def rJoin (K : PySem.W.Frag) : V → List V → Hp → VK → Prop := fun x vs H Q => ∃ sep p ys, x = .str sep ∧ vs = [.ref p] ∧ SqL K H p (List.map V.str ys) ∧ (ys.map (·.length)).sum + ys.length * sep.length ≤ 16777216 ∧ Q (.str (Txt.join sep ys)) H
theorem mt_join : MtM X "str.join" (rJoin X.K) := by
  intro pins s σ H x vs v us Q I rx rv h
  obtain ⟨sep, p, ys, rfl, rfl, hq, hz, q⟩ := h
  obtain ⟨t, rfl⟩ := rx
  obtain ⟨u, rfl, ru⟩ := rv.one
  cases ru
  obtain ⟨its, r, pl, _⟩ := I.list hq
  exact join_list pl.isList (strs_of r) hz fun t' k => ⟨.str (Txt.join sep ys), H, I.tok _, ⟨_, rfl⟩, q⟩
end
mutual
inductive DV (K : PySem.W.Frag) (H : Hp) : V → PyData → Prop
  | non : DV K H .non .none
  | bl (b : Bool) : DV K H (.bl b) (.bool b)
  | int (i : Int) : DV K H (.int i) (.int i)
  | str (z : Str) : DV K H (.str z) (.str z)
  | lst {p : Addr} {xs : List V} {ds : List PyData} : SqL K H p xs → DVs K H xs ds → DV K H (.ref p) (.list ds)
  | tup {p : Addr} {xs : List V} {ds : List PyData} : SqT K H p xs → DVs K H xs ds → DV K H (.ref p) (.tuple ds)
inductive DVs (K : PySem.W.Frag) (H : Hp) : List V → List PyData → Prop
  | nil : DVs K H [] []
  | cons {x : V} {xs : List V} {d : PyData} {ds : List PyData} : DV K H x d → DVs K H xs ds → DVs K H (x :: xs) (d :: ds)
end
section
variable {X : Cx} {pins : List (Addr × Obj)} {σ : St} {H H' : Hp} {s : Shared} {K : PySem.W.Frag}
mutual
theorem DV.reads (I : Inv X pins σ H s) : ∀ {x : V} {d : PyData} {v : Value}, DV X.K H x d → RelV x v → ∃ as, Reads s.heap v d as
  | _, _, _, .non, r => by cases r; exact ⟨_, .none⟩
  | _, _, _, .bl b, r => by cases r; exact ⟨_, .bool b⟩
  | _, _, _, .int i, r => by obtain ⟨t, rfl⟩ := r; exact ⟨_, .int i t⟩
  | _, _, _, .str z, r => by obtain ⟨t, rfl⟩ := r; exact ⟨_, .str z t⟩
  | _, _, _, .lst h t, r => by
    cases r
    obtain ⟨its, rv, ⟨o, n, e1, e2, _, e3⟩, _⟩ := I.list h
    obtain ⟨as, ra⟩ := DVs.reads I t rv
    exact ⟨_, .list e1 e2 e3 (by simpa using ra)⟩
  | _, _, _, .tup h t, r => by
    cases r
    obtain ⟨its, rv, ⟨o, e1, e2, n, e3⟩, _⟩ := I.tuple h
    obtain ⟨as, ra⟩ := DVs.reads I t rv
    exact ⟨_, .tuple e1 e2 e3 (by simpa using ra)⟩
theorem DVs.reads (I : Inv X pins σ H s) : ∀ {xs : List V} {ds : List PyData} {vs : List Value}, DVs X.K H xs ds → Vals xs vs → ∃ as, ReadsAll s.heap vs ds as
  | _, _, _, .nil, r => by cases r; exact ⟨_, .nil⟩
  | _, _, _, .cons h t, r => by
    cases r with
    | cons r1 r2 =>
      obtain ⟨as, a⟩ := DV.reads I h r1
      obtain ⟨bs, b⟩ := DVs.reads I t r2
      exact ⟨_, .cons a b⟩
end
def rEqD (K : PySem.W.Frag) (u : Nat) (neg : Bool) : R2 := fun x y H Q => ∃ dx dy, DV K H x dx ∧ DV K H y dy ∧ dx.canLay0 = true ∧ dy.canLay0 = true ∧ min dx.depth dy.depth ≤ u ∧ Q (.bl (if neg then !PyData.eqv dx dy else PyData.eqv dx dy)) H
theorem op_eqD {u : Nat} (hu : X.A.units + u < cLine) : OpR X (compareOp .Eq) (rEqD X.K u false) := by
  intro pins s σ H x y v w Q I rx ry h
  obtain ⟨dx, dy, hx, hy, cx, cy, hd, q⟩ := h
  obtain ⟨as, ra⟩ := hx.reads I rx
  obtain ⟨bs, rb⟩ := hy.reads I ry
  exact SeqAt.compareEq_reads ra rb cx cy (by omega) ⟨.bl _, H, I, rfl, q⟩
theorem reads_get {h : Heap} : ∀ {vs : List Value} {ds : List PyData} {as : List Addr} {j : Nat} {v : Value}, ReadsAll h vs ds as → vs[j]? = some v → ∃ d bs, ds[j]? = some d ∧ Reads h v d bs
  | _, _, _, _, _, .nil, e => by cases e
  | _, _, _, 0, _, .cons r t, e => by cases e; exact ⟨_, _, rfl, r⟩
  | _, _, _, j + 1, _, .cons r t, e => by
    obtain ⟨d, bs, h1, h2⟩ := reads_get (j := j) t (by simpa using e)
    exact ⟨d, bs, by simpa using h1, h2⟩
theorem lay_get : ∀ {ds : List PyData} {j : Nat} {d : PyData}, PyData.canLayAll0 ds = true → ds[j]? = some d → d.canLay0 = true
  | [], _, _, _, e => by cases e
  | d :: ds, 0, _, h, e => by
    cases e
    have h' : (d.canLay0 && PyData.canLayAll0 ds) = true := h
    rw [Bool.and_eq_true] at h'
    exact h'.1
  | d :: ds, j + 1, d', h, e => by
    have h' : (d.canLay0 && PyData.canLayAll0 ds) = true := h
    rw [Bool.and_eq_true] at h'
    exact lay_get h'.2 (by simpa using e)
open Classical in
noncomputable def alike (vs : List Value) (ds : List PyData) (dx : PyData) (y : Value) : Bool := decide (∃ (j : Nat) (d : PyData), vs[j]? = some y ∧ ds[j]? = some d ∧ PyData.eqv d dx = true)
open Classical in
theorem alike_at {h : Heap} {vs : List Value} {ds : List PyData} {as : List Addr} {dx : PyData} (r : ReadsAll h vs ds as) (c : PyData.canLayAll0 ds = true) {j : Nat} {y : Value} {d : PyData} (e : vs[j]? = some y) (ed : ds[j]? = some d) : alike vs ds dx y = PyData.eqv d dx := by
  unfold alike
  cases q : PyData.eqv d dx with
  | true => exact decide_eq_true ⟨j, d, e, ed, q⟩
  | false =>
    refine decide_eq_false fun ⟨j', d', e', ed', q'⟩ => ?_
    obtain ⟨d1, b1, x1, r1⟩ := reads_get r e
    obtain ⟨d2, b2, x2, r2⟩ := reads_get r e'
    rw [ed] at x1; cases x1
    rw [ed'] at x2; cases x2
    have := SeqAt.Reads.unique _ _ _ _ _ (lay_get c ed) r1 r2
    rw [← this, q] at q'
    cases q'
theorem alike_any {h : Heap} {dx : PyData} {vs : List Value} {ds : List PyData} {as : List Addr} (r : ReadsAll h vs ds as) (c : PyData.canLayAll0 ds = true) : vs.any (alike vs ds dx) = ds.any fun d => PyData.eqv d dx := by
  have hl := SeqAt.ReadsAll.length _ _ _ r
  rw [Bool.eq_iff_iff, List.any_eq_true, List.any_eq_true]
  constructor
  · rintro ⟨y, hy, q⟩
    obtain ⟨j, hj, e⟩ := List.mem_iff_getElem.mp hy
    obtain ⟨d, _, ed, _⟩ := reads_get r (j := j) (by rw [List.getElem?_eq_getElem hj, e])
    rw [alike_at r c (by rw [List.getElem?_eq_getElem hj, e]) ed] at q
    exact ⟨d, List.mem_of_getElem? ed, q⟩
  · rintro ⟨d, hd, q⟩
    obtain ⟨j, hj, e⟩ := List.mem_iff_getElem.mp hd
    have hj' : j < vs.length := by omega
    refine ⟨vs[j], List.getElem_mem hj', ?_⟩
    rw [alike_at r c (List.getElem?_eq_getElem hj') (by rw [List.getElem?_eq_getElem hj, e])]
    exact q
def rInD (K : PySem.W.Frag) (u : Nat) (neg : Bool) : R2 := fun x y H Q => ∃ dx p ds xs, DV K H x dx ∧ y = .ref p ∧ (SqL K H p xs ∨ SqT K H p xs) ∧ DVs K H xs ds ∧ dx.canLay0 = true ∧ PyData.canLayAll0 ds = true ∧ dx.depth ≤ u ∧
  Q (.bl (if neg then !(ds.any fun d => PyData.eqv d dx) else ds.any fun d => PyData.eqv d dx)) H
theorem op_notInD {u : Nat} (hu : X.A.units + 1 + u < cLine) : OpR X (compareOp .NotIn) (rInD X.K u true) := by
  intro pins s σ H x y v w Q I rx ry h
  obtain ⟨dx, p, ds, xs, hx, rfl, hq, hs, cx, cs, hd, q⟩ := h
  cases ry
  obtain ⟨as, ra⟩ := hx.reads I rx
  have key : ∀ {its : List Value}, Vals xs its → (∀ y ∈ its, SeqAt.EqAt X.A.in1 s y v (alike its ds dx y)) ∧ its.any (alike its ds dx) = ds.any fun d => PyData.eqv d dx := fun {its} rv => by
    obtain ⟨bs, rb⟩ := hs.reads I rv
    refine ⟨fun y hy => ?_, alike_any rb cs⟩
    obtain ⟨j, hj, e⟩ := List.mem_iff_getElem.mp hy
    have ej : its[j]? = some y := by rw [List.getElem?_eq_getElem hj, e]
    obtain ⟨d, _, ed, rd⟩ := reads_get rb ej
    rw [alike_at rb cs ej ed]
    exact SeqAt.eqAt_reads d dx _ s y v _ _ rd ra (lay_get cs ed) cx (by show X.A.units + 1 + _ < cLine; omega)
  rcases hq with hq | hq
  · obtain ⟨its, r, pl, hz⟩ := I.list hq
    obtain ⟨k1, k2⟩ := key r
    refine SeqAt.notIn_listAt (alike its ds dx) pl.isList (fun w hw => k1 w (by simpa using hw)) ⟨.bl _, H, I, rfl, ?_⟩
    rw [List.any_toArray, k2]
    exact q
  · obtain ⟨its, r, pl, hz⟩ := I.tuple hq
    obtain ⟨k1, k2⟩ := key r
    refine SeqAt.notIn_tupleAt (alike its ds dx) pl (fun w hw => k1 w (by simpa using hw)) ⟨.bl _, H, I, rfl, ?_⟩
    rw [List.any_toArray, k2]
    exact q
end
end L2
namespace L2
open PySem PySem.Spec PyProof.Rows
section
variable {X : Cx}
end
section
variable {X : Cx} {K : PySem.W.Frag} {u : Nat}
end
theorem hu64 {A : Around} {k : Nat} (hr : Room k A) : A.units + 64 < cLine := hr.units
theorem hu63 {A : Around} {k : Nat} (hr : Room k A) : A.units + 1 + 63 < cLine := by have := hr.units; omega
def cutS (z : Str) (lo hi : Option Int) : Str := ⟨((z.cps.toList.drop (HT.sIx z.length 0 lo)).take (HT.sIx z.length z.length hi - HT.sIx z.length 0 lo)).toArray⟩
theorem clip_cut (i : Int) (n : Nat) : max 0 (min (if i < 0 then i + (n : Int) else i) (n : Int)) = ((if i < 0 then (i + (n : Int)).toNat else min i.toNat n : Nat) : Int) := by
  by_cases h : i < 0
  · rw [if_pos h, if_pos h]; omega
  · rw [if_neg h, if_neg h]; omega
theorem idx_cut (lo hi : Option Int) (n : Nat) : Builtin.Str.strSliceIndices lo hi 1 n = (List.range (HT.sIx n n hi - HT.sIx n 0 lo)).map (HT.sIx n 0 lo + ·) := by
  rw [← sliceRange_one]
  unfold Builtin.Str.strSliceIndices
  cases lo with
  | none => cases hi with
    | none => rfl
    | some j =>
      show sliceRange 0 (max 0 (min (if j < 0 then j + (n : Int) else j) (n : Int))) 1 = _
      rw [clip_cut]
      rfl
  | some i => cases hi with
    | none =>
      show sliceRange (max 0 (min (if i < 0 then i + (n : Int) else i) (n : Int))) n 1 = _
      rw [clip_cut]
      rfl
    | some j =>
      show sliceRange (max 0 (min (if i < 0 then i + (n : Int) else i) (n : Int))) (max 0 (min (if j < 0 then j + (n : Int) else j) (n : Int))) 1 = _
      rw [clip_cut, clip_cut]
      rfl
section
variable {X : Cx}
def rSlX : V → Option Int → Option Int → Hp → VK → Prop := fun x lo hi H Q => ∃ z, x = .str z ∧ z.length ≤ sizeLine ∧ Q (.str (cutS z lo hi)) H
theorem picked_cut (z : Str) (l u : Option (Int × Tok)) : ((slicePicked z l u none).filterMap (z.cps[·]?)) = (cutS z (l.map (·.1)) (u.map (·.1))).cps.toList := by
  unfold slicePicked cutS
  rw [show ((none : Option (Int × Tok)).map (·.1)).getD 1 = (1 : Int) from rfl, idx_cut, pick_run]
theorem sl_strX : SlR X rSlX := by
  intro pins s σ H x v vl vu lo hi sl Q I rx hs pl pu h
  obtain ⟨z, rfl, hz, q⟩ := h
  obtain ⟨t, rfl⟩ := rx
  refine ⟨"str", _, F.slot_str_getitem.lookup, typeIs_str _ z t, ?_⟩
  have key : ∀ l u : Option (Int × Tok), l.map (·.1) = lo → u.map (·.1) = hi → s.heap.IsSlice sl l u none → wpAny (model X.prog X.w) X.A (getItem (.str z t) (.ref sl)) (EP X pins σ Q) X.xe s := fun l u e1 e2 hsl => by
    refine wpAny_getItem_str_slice (st := none) hsl rfl ?_
    have pc := picked_cut z l u
    rw [e1, e2] at pc
    unfold sliceMade
    split
    · rename_i hall
      have hl : (slicePicked z l u none).length = z.length := by
        rw [Bool.and_eq_true] at hall
        exact beq_iff_eq.mp hall.2
      have e : cutS z lo hi = z := by
        have h1 : (slicePicked z l u none).length = HT.sIx z.length z.length hi - HT.sIx z.length 0 lo := by
          unfold slicePicked
          rw [show ((none : Option (Int × Tok)).map (·.1)).getD 1 = (1 : Int) from rfl, idx_cut, e1, e2, List.length_map, List.length_range]
        have b1 : HT.sIx z.length z.length hi ≤ z.length := by unfold HT.sIx; split <;> (try split) <;> omega
        have h2 : HT.sIx z.length 0 lo = 0 ∨ z.length = 0 := by omega
        unfold cutS
        rcases h2 with h2 | h2
        · rw [h2]
          rw [h2] at h1
          rw [show HT.sIx z.length z.length hi - 0 = z.cps.toList.length from by
            have : z.cps.toList.length = z.length := by simp; rfl
            omega, List.drop_zero, List.take_length]
        · have : z.cps.toList = [] := by
            have : z.cps.size = 0 := h2
            simpa using this
          rw [this]
          obtain ⟨c⟩ := z
          simp at this
          simp [this]
      exact ⟨.str z, H, I, ⟨t, rfl⟩, e ▸ q⟩
    · have e : (⟨((slicePicked z l u none).filterMap (z.cps[·]?)).toArray⟩ : Str) = cutS z lo hi := by
        rw [pc]
      have hle : (cutS z lo hi).length ≤ z.length := by
        unfold cutS
        show (List.toArray _).size ≤ z.length
        rw [List.size_toArray, List.length_take, List.length_drop]
        show _ ≤ z.cps.size
        have : z.cps.toList.length = z.cps.size := by simp
        omega
      rw [e]
      exact ⟨Nat.le_trans hle hz, .str _, H, I.tok _, ⟨_, rfl⟩, q⟩
  cases pl <;> cases pu
  · exact key none none rfl rfl hs
  · exact key none (some (_, _)) rfl rfl hs
  · exact key (some (_, _)) none rfl rfl hs
  · exact key (some (_, _)) (some (_, _)) rfl rfl hs
end
end L2
namespace L2
open PySem PySem.Spec PyProof.Rows
section
variable {X : Cx}
end
end L2
namespace L2
open PySem PySem.Spec PyProof.Rows
section
variable {X : Cx} {tg : Expr}
end
end L2
namespace L2
open PySem PySem.Spec PyProof.Rows
section
variable {P : Program} {w : World} {A : Around} {E : Value → Shared → Prop} {s : Shared}
end
end L2
namespace L2
open PySem PySem.Spec PyProof.Rows
section
variable {X : Cx}
end
end L2
namespace L2
open PySem PySem.Spec PyProof.Rows
end L2
namespace L2
open PySem PySem.Spec PyProof.Rows
section
variable {X : Cx}
end
end L2
namespace L2
open PySem PySem.Spec PyProof.Rows
def strV : V → Str
  | .str z => z
  | .int i => toString i
  | _ => ""
section
variable {X : Cx}
theorem call_strV : CallR X (.type "str") (fun xs H Q => ∃ x, xs = [x] ∧ ((∃ z, x = .str z) ∨ ∃ i : Int, x = .int i ∧ i.natAbs.log2 < 1920) ∧ Q (.str (strV x)) H) := by
  intro pins s σ H xs us Q I r h
  obtain ⟨x, rfl, hx, q⟩ := h
  obtain ⟨u, rfl, ru⟩ := vals1 r
  rcases hx with ⟨z, rfl⟩ | ⟨i, rfl, hi⟩
  · obtain ⟨t, rfl⟩ := ru
    exact PySem.P.str_of_str ⟨.str z, H, I, ⟨t, rfl⟩, q⟩
  · obtain ⟨t, rfl⟩ := ru
    exact PySem.P.str_of_int hi ⟨.str _, H, I.tok _, ⟨_, rfl⟩, q⟩
end
section
variable {X : Cx}
def rJoinT (K : PySem.W.Frag) : V → List V → Hp → VK → Prop := fun x vs H Q => ∃ sep p ys, x = .str sep ∧ vs = [.ref p] ∧ SqT K H p (List.map V.str ys) ∧ (ys.map (·.length)).sum + ys.length * sep.length ≤ 16777216 ∧ Q (.str (Txt.join sep ys)) H
theorem mt_joinT : MtM X "str.join" (rJoinT X.K) := by
  intro pins s σ H x vs v us Q I rx rv h
  obtain ⟨sep, p, ys, rfl, rfl, hq, hz, q⟩ := h
  obtain ⟨t, rfl⟩ := rx
  obtain ⟨u, rfl, ru⟩ := rv.one
  cases ru
  obtain ⟨its, r, pl, _⟩ := I.tuple hq
  exact join_tuple pl (strs_of r) hz fun t' k => ⟨.str (Txt.join sep ys), H, I.tok _, ⟨_, rfl⟩, q⟩
end
theorem lc_tup {K : PySem.W.Frag} {a : Addr} {xs : List V} {own : List Str} {fr : List (Str × Nat)} {g : TG} {tt : TT} {te : TE} {σ : St} {H : Hp} {Q : VK} (hz : xs.length ≤ sizeLine) (Pv : Nat → List V → Hp → Prop) (h0 : Pv 0 [] H) (hl : ∀ i ys H, Pv i ys H → SqT K H a xs)
    (hs : ∀ i x ys H' (K1 : V → Hp → Prop) (K0 : Hp → Prop), xs[i]? = some x → Pv i ys H' → (∀ y H4, Pv (i + 1) (ys ++ [y]) H4 → K1 y H4) → (∀ H3, Pv (i + 1) ys H3 → K0 H3) →
      g x (compSt own fr σ) H' fun σ2 H2 => tt σ2 H2 fun b H3 => if b = true then te σ2 H3 K1 else K0 H3)
    (hd : ∀ H' p ys, Pv xs.length ys H' → ys.length ≤ xs.length → H' p = none → Q (.ref p) (upd H' p (.lst ys))) : LCb own fr g tt te σ Q (Itt K a) H := by
  refine ⟨fun i m ys H => m = xs.length - i ∧ i ≤ xs.length ∧ ys.length ≤ i ∧ Pv i ys H, ⟨xs.length, by simp, Nat.zero_le _, Nat.zero_le _, h0⟩, ?_⟩
  rintro i m ys H ⟨rfl, hi, hy, p⟩
  by_cases hlt : i < xs.length
  · refine .inr ⟨⟨xs, xs[i], hl _ _ H p, by simp [hlt]⟩, by omega, fun x H' y => ?_⟩
    obtain ⟨rfl, y⟩ := y
    have hc := y xs (hl _ _ _ p)
    refine hs i x ys H' _ _ hc p (fun y H4 p4 => ⟨xs.length - (i + 1), by omega, rfl, hlt, ?_, p4⟩) fun H3 p3 => ⟨xs.length - (i + 1), by omega, rfl, hlt, by omega, p3⟩
    rw [List.length_append, List.length_singleton]
    omega
  · have e : i = xs.length := by omega
    subst e
    exact .inl ⟨⟨xs, hl _ _ H p, Nat.le_refl _⟩, fun q hq => hd H q ys p hy hq⟩
end L2
namespace L2
open PySem PySem.Spec PyProof.Rows
mutual
inductive DT (H : Hp) : V → PyData → Prop
  | non : DT H .non .none
  | bl (b : Bool) : DT H (.bl b) (.bool b)
  | int (i : Int) : DT H (.int i) (.int i)
  | str (z : Str) : DT H (.str z) (.str z)
  | tup {p : Addr} {xs : List V} {ds : List PyData} : H p = some (.tup xs) → DTs H xs ds → DT H (.ref p) (.tuple ds)
inductive DTs (H : Hp) : List V → List PyData → Prop
  | nil : DTs H [] []
  | cons {x : V} {xs : List V} {d : PyData} {ds : List PyData} : DT H x d → DTs H xs ds → DTs H (x :: xs) (d :: ds)
end
mutual
theorem DT.same {H H' : Hp} (e : Same H H') : ∀ {x : V} {d : PyData}, DT H x d → DT H' x d
  | _, _, .non => .non
  | _, _, .bl b => .bl b
  | _, _, .int i => .int i
  | _, _, .str z => .str z
  | _, _, .tup h t => .tup (e _ _ h) (DTs.same e t)
theorem DTs.same {H H' : Hp} (e : Same H H') : ∀ {xs : List V} {ds : List PyData}, DTs H xs ds → DTs H' xs ds
  | _, _, .nil => .nil
  | _, _, .cons h t => .cons (DT.same e h) (DTs.same e t)
end
mutual
theorem DT.dv {K : PySem.W.Frag} {H : Hp} : ∀ {x : V} {d : PyData}, DT H x d → DV K H x d
  | _, _, .non => .non
  | _, _, .bl b => .bl b
  | _, _, .int i => .int i
  | _, _, .str z => .str z
  | _, _, .tup h t => .tup (SqT.of h) (DTs.dv t)
theorem DTs.dv {K : PySem.W.Frag} {H : Hp} : ∀ {xs : List V} {ds : List PyData}, DTs H xs ds → DVs K H xs ds
  | _, _, .nil => .nil
  | _, _, .cons h t => .cons (DT.dv h) (DTs.dv t)
end
section
variable {H : Hp}
theorem dv_str {v : V} {z : Str} (h : DT H v (.str z)) : v = .str z := by cases h; rfl
theorem dv_int {v : V} {i : Int} (h : DT H v (.int i)) : v = .int i := by cases h; rfl
theorem dv_non {v : V} (h : DT H v .none) : v = .non := by cases h; rfl
theorem dv_bl {v : V} {b : Bool} (h : DT H v (.bool b)) : v = .bl b := by cases h; rfl
theorem dv_tup {v : V} {ds : List PyData} (h : DT H v (.tuple ds)) : ∃ p xs, v = .ref p ∧ H p = some (.tup xs) ∧ DTs H xs ds := by
  cases h with
  | tup a b => exact ⟨_, _, rfl, a, b⟩
theorem dvs_len : ∀ {xs : List V} {ds : List PyData}, DTs H xs ds → xs.length = ds.length
  | _, _, .nil => rfl
  | _, _, .cons _ t => by rw [List.length_cons, List.length_cons, dvs_len t]
theorem dvs_get : ∀ {xs : List V} {ds : List PyData} {i : Nat} {x : V}, DTs H xs ds → xs[i]? = some x → ∃ d, ds[i]? = some d ∧ DT H x d
  | _, _, 0, _, .cons h _, e => by cases e; exact ⟨_, rfl, h⟩
  | _, _, i + 1, _, .cons _ t, e => by
    obtain ⟨d, a, b⟩ := dvs_get (i := i) t (by simpa using e)
    exact ⟨d, by simpa using a, b⟩
end
theorem tup_ne {H : Hp} {a b : Addr} {xs : List V} {o : HO} (ha : H a = some (.tup xs)) (hb : H b = some o) (ho : ∀ ys, o ≠ .tup ys) : a ≠ b := fun e => by
  subst e
  rw [ha] at hb
  exact ho xs (Option.some.inj hb).symm
mutual
theorem DT.wr {H : Hp} {a : Addr} {o o' : HO} (e : H a = some o) (ho : ∀ ys, o ≠ .tup ys) : ∀ {x : V} {d : PyData}, DT H x d → DT (upd H a o') x d
  | _, _, .non => .non
  | _, _, .bl b => .bl b
  | _, _, .int i => .int i
  | _, _, .str z => .str z
  | _, _, .tup h t => .tup (by rw [upd_ne (tup_ne h e ho)]; exact h) (DTs.wr e ho t)
theorem DTs.wr {H : Hp} {a : Addr} {o o' : HO} (e : H a = some o) (ho : ∀ ys, o ≠ .tup ys) : ∀ {xs : List V} {ds : List PyData}, DTs H xs ds → DTs (upd H a o') xs ds
  | _, _, .nil => .nil
  | _, _, .cons h t => .cons (DT.wr e ho h) (DTs.wr e ho t)
end
theorem DTs.snoc {H : Hp} {x : V} {d : PyData} : ∀ {xs : List V} {ds : List PyData}, DTs H xs ds → DT H x d → DTs H (xs ++ [x]) (ds ++ [d])
  | _, _, .nil, h => .cons h .nil
  | _, _, .cons a t, h => .cons a (DTs.snoc t h)
def IsW (z : Str) : Prop := 0 < z.cps.size ∧ z.cps.size ≤ 8 ∧ ∀ c ∈ z.cps.toList, 97 ≤ c ∧ c ≤ 122
def NameD (ws : List Str) (ds : List PyData) : Prop := ∃ w n, ds = [.str w, .int n] ∧ w ∈ ws ∧ 1 ≤ n ∧ n ≤ 1000000
def PartD (ws : List Str) (ds : List PyData) : Prop := ds = [.str "", .int 0] ∨ NameD ws ds
def SnD (ws : List Str) (ds : List PyData) : Prop := ∃ w n i, ds = [.str w, .int n, .int i] ∧ w ∈ ws ∧ 1 ≤ n ∧ n ≤ 1000000 ∧ 0 ≤ i ∧ i ≤ 1000000
def SideD (ws : List Str) (d : PyData) : Prop := ∃ ds z, d = .tuple [.tuple ds, .str z] ∧ SnD ws ds ∧ (z = "ahead" ∨ z = "behind")
def SignD (ws : List Str) (d : PyData) : Prop := (∃ c, d = .str ⟨#[c]⟩ ∧ c ∈ ("abcdefghijklmnopqrstuvwxyz .," : Str).cps.toList) ∨ (∃ z, d = .tuple [.str "picture", .str z] ∧ IsW z) ∨ ∃ ds, d = .tuple [.str "refer", .tuple ds] ∧ PartD ws ds
def BrD (ws : List Str) (d : PyData) : Prop := d = .none ∨ ∃ w z, d = .tuple [.str w, .str z] ∧ w ∈ ws ∧ IsW z
def OrD (P : List PyData → Prop) (d : PyData) : Prop := d = .none ∨ ∃ n, d = .tuple n ∧ P n
def WnD (d : PyData) : Prop := d = .none ∨ ∃ z, d = .str z ∧ IsW z
inductive WhatD (ws : List Str) (num : Int) : List PyData → Prop
  | nothing : WhatD ws num [.str "nothing"]
  | part (p : List PyData) : PartD ws p → WhatD ws num [.str "part", .tuple p]
  | move (n p : List PyData) : NameD ws n → PartD ws p → WhatD ws num [.str "move", .tuple n, .tuple p]
  | cut (n : List PyData) : NameD ws n → WhatD ws num [.str "cut", .tuple n]
  | put (p : List PyData) (b : PyData) (sg : List PyData) : PartD ws p → OrD (SnD ws) b → 1 ≤ sg.length → sg.length ≤ 12 → (∀ d ∈ sg, SignD ws d) → WhatD ws num [.str "put", .tuple p, b, .tuple sg]
  | out (p : List PyData) (ns : List (List PyData)) : PartD ws p → 1 ≤ ns.length → ns.length ≤ 12 → (∀ n ∈ ns, SnD ws n) → ns.Nodup → WhatD ws num [.str "out", .tuple p, .tuple (ns.map .tuple)]
  | mark (p : List PyData) (s1 s2 : PyData) (z : Str) (v : PyData) : PartD ws p → SideD ws s1 → SideD ws s2 → IsW z → WnD v → WhatD ws num [.str "mark", .tuple p, s1, s2, .str z, v]
  | note (p : List PyData) (s1 s2 : PyData) (z : Str) : PartD ws p → SideD ws s1 → SideD ws s2 → IsW z → WhatD ws num [.str "note", .tuple p, s1, s2, .str z]
  | line (p : List PyData) (z : Str) (v : PyData) : PartD ws p → z = "row" ∨ z = "column" → OrD (NameD ws) v → WhatD ws num [.str "line", .tuple p, .str z, v]
  | strike (p n : List PyData) : PartD ws p → NameD ws n → WhatD ws num [.str "strike", .tuple p, .tuple n]
  | cell (p a b : List PyData) (z : Str) : PartD ws p → NameD ws a → NameD ws b → z = "" ∨ IsW z → WhatD ws num [.str "cell", .tuple p, .tuple a, .tuple b, .str z]
  | leave (p : List PyData) (w t : Str) (y : Bool) : PartD ws p → w ∈ ws → t ∈ (["read", "note", "write", "give"] : List Str) → WhatD ws num [.str "leave", .tuple p, .str w, .str t, .bool y]
  | back (k : Str) (n : Int) : k = "back" ∨ k = "again" → 1 ≤ n → n < num → WhatD ws num [.str k, .int n]
  | bring (k : Str) (z : Str) : k = "bring" ∨ k = "drop" → IsW z → WhatD ws num [.str k, .str z]
  | pour (cs : List Int) : cs.length = ws.length → (∀ c ∈ cs, 0 ≤ c ∧ c ≤ 1000000) → WhatD ws num [.str "pour", .tuple (cs.map .int)]
theorem isW_ne {z : Str} (h : IsW z) : z ≠ "" := fun e => by
  have := h.1
  rw [e] at this
  exact absurd this (by decide)
theorem isW_len {z : Str} (h : IsW z) : z.length ≤ 8 := h.2.1
theorem isW_strOk {z : Str} (h : IsW z) : PyData.strOk z = true := by
  unfold PyData.strOk
  rw [← Array.all_toList, List.all_eq_true]
  intro c hc
  have := h.2.2 c hc
  exact decide_eq_true (by omega)
mutual
def noB : PyData → Bool
  | .none => true
  | .bool _ => false
  | .int _ => true
  | .str _ => true
  | .list xs => noBs xs
  | .tuple xs => noBs xs
  | .dict _ => false
def noBs : List PyData → Bool
  | [] => true
  | x :: xs => noB x && noBs xs
end
mutual
theorem eqv_iff : ∀ (a b : PyData), noB a = true → noB b = true → (PyData.eqv a b = true ↔ a = b)
  | .list xs, b, ha, hb => by
    cases b with
    | list ys =>
      have := eqvs_iff xs ys (by simpa [noB] using ha) (by simpa [noB] using hb)
      simp only [PyData.eqv, this, PyData.list.injEq]
    | _ => simp [PyData.eqv]
  | .tuple xs, b, ha, hb => by
    cases b with
    | tuple ys =>
      have := eqvs_iff xs ys (by simpa [noB] using ha) (by simpa [noB] using hb)
      simp only [PyData.eqv, this, PyData.tuple.injEq]
    | _ => simp [PyData.eqv]
  | .dict _, _, ha, _ => by simp [noB] at ha
  | .bool _, _, ha, _ => by simp [noB] at ha
  | .none, b, _, hb => by cases b <;> simp_all [PyData.eqv, noB]
  | .int i, b, _, hb => by cases b <;> simp_all [PyData.eqv, noB]
  | .str i, b, _, hb => by cases b <;> simp_all [PyData.eqv, noB]
theorem eqvs_iff : ∀ (xs ys : List PyData), noBs xs = true → noBs ys = true → (PyData.eqvAll xs ys = true ↔ xs = ys)
  | [], ys, _, _ => by cases ys <;> simp [PyData.eqvAll]
  | x :: xs, ys, ha, hb => by
    cases ys with
    | nil => simp [PyData.eqvAll]
    | cons y ys =>
      rw [noBs, Bool.and_eq_true] at ha hb
      have h1 := eqv_iff x y ha.1 hb.1
      have h2 := eqvs_iff xs ys ha.2 hb.2
      simp only [PyData.eqvAll, Bool.and_eq_true, h1, h2, List.cons.injEq]
end
theorem lays_all : ∀ {xs : List PyData}, (∀ x ∈ xs, x.canLay0 = true) → PyData.canLayAll0 xs = true
  | [], _ => rfl
  | x :: xs, h => by
    show (x.canLay0 && PyData.canLayAll0 xs) = true
    rw [h x List.mem_cons_self, lays_all fun y hy => h y (List.mem_cons_of_mem _ hy)]
    rfl
theorem any_eqv {ds : List PyData} {d : PyData} (h : ∀ x ∈ ds, noB x = true) (hd : noB d = true) : (ds.any fun x => PyData.eqv x d) = true ↔ d ∈ ds := by
  rw [List.any_eq_true]
  constructor
  · rintro ⟨x, hx, e⟩
    rw [← (eqv_iff x d (h x hx) hd).mp e]
    exact hx
  · intro hm
    exact ⟨d, hm, (eqv_iff d d hd hd).mpr rfl⟩
theorem SnD.plain {ws : List Str} (hw : ∀ w ∈ ws, IsW w) {ds : List PyData} (h : SnD ws ds) : noB (.tuple ds) = true ∧ (PyData.tuple ds).canLay0 = true ∧ (PyData.tuple ds).depth = 1 := by
  obtain ⟨w, n, i, rfl, m, _⟩ := h
  refine ⟨rfl, ?_, rfl⟩
  show (PyData.strOk w && (true && (true && true))) = true
  rw [isW_strOk (hw w m)]
  rfl
theorem cut_few {xs : List V} {b : Int} (h1 : 1 ≤ b) (h2 : b ≤ 12) (hx : 1 ≤ xs.length) : 1 ≤ (cutV xs none (some b)).length ∧ (cutV xs none (some b)).length ≤ 12 := by
  obtain ⟨k, rfl⟩ := Int.eq_ofNat_of_zero_le (by omega : 0 ≤ b)
  unfold cutV
  rw [HT.sIx_nat, HT.sIx_none, List.drop_zero, List.length_take]
  omega
theorem cut_exact {xs : List V} {k : Nat} (h : k ≤ xs.length) : (cutV xs none (some (k : Int))).length = k := by
  unfold cutV
  rw [HT.sIx_nat, HT.sIx_none, List.drop_zero, List.length_take]
  omega
theorem dts_ints (H : Hp) : ∀ cs : List Int, DTs H (cs.map V.int) (cs.map .int)
  | [] => .nil
  | c :: cs => .cons (.int c) (dts_ints H cs)
theorem nd_add {α : Type} {l : List α} {x : α} (h : l.Nodup) (hx : x ∉ l) : (l ++ [x]).Nodup :=
  List.nodup_append.mpr ⟨h, List.nodup_cons.mpr ⟨fun z => (List.not_mem_nil z).elim, List.nodup_nil⟩, fun a ha b hb e => hx (by rw [List.mem_singleton.mp hb] at e; rw [← e]; exact ha)⟩
end L2
set_option maxHeartbeats 4000000
namespace Hs
open PySem L2 PyProof.Rows
structure Dd where
  who : Nat
  num : Nat
  hd : List Nat
  br : PyData
  wt : List PyData
abbrev at0 (l : List Nat) (k : Nat) : Nat := l.getD k 0
abbrev rowOf (kn : List (List Nat)) (i : Nat) : List Nat := kn.getD i []
def Cov (m : Nat) (ds : List Dd) (row : List Nat) : Prop := ∀ j k, j < m → 1 ≤ k → k ≤ at0 row j → ∃ e ∈ ds, e.who = j ∧ e.num = k ∧ ∀ i, i < m → at0 e.hd i ≤ at0 row i
structure Wh (m : Nat) (ds : List Dd) : Prop where
  who : ∀ d ∈ ds, d.who < m
  len : ∀ d ∈ ds, d.hd.length = m
  own : ∀ d ∈ ds, at0 d.hd d.who + 1 = d.num
  uniq : ds.Pairwise fun a b => ¬ (a.who = b.who ∧ a.num = b.num)
  past : ∀ d ∈ ds, Cov m ds d.hd
structure Kn (m : Nat) (ds : List Dd) (kn : List (List Nat)) : Prop where
  len : kn.length = m
  row : ∀ i, i < m → (rowOf kn i).length = m
  cov : ∀ i, i < m → Cov m ds (rowOf kn i)
  cnt : ∀ d ∈ ds, d.num ≤ at0 (rowOf kn d.who) d.who
theorem getD_set_self {α : Type} {l : List α} {i : Nat} {x d : α} (h : i < l.length) : (l.set i x).getD i d = x := by
  rw [List.getD_eq_getElem?_getD, List.getElem?_set_self h]; rfl
theorem getD_set_ne {α : Type} {l : List α} {i j : Nat} {x d : α} (h : i ≠ j) : (l.set i x).getD j d = l.getD j d := by
  rw [List.getD_eq_getElem?_getD, List.getElem?_set_ne h, ← List.getD_eq_getElem?_getD]
theorem getD_range {m a : Nat} (f : Nat → Nat) (h : a < m) : at0 ((List.range m).map f) a = f a := by
  unfold at0
  rw [List.getD_eq_getElem?_getD, List.getElem?_map, List.getElem?_range h]; rfl
theorem Cov.mono {m : Nat} {ds ds' : List Dd} {row : List Nat} (c : Cov m ds row) (h : ∀ d ∈ ds, d ∈ ds') : Cov m ds' row := fun j k h1 h2 h3 =>
  let ⟨e, he, r⟩ := c j k h1 h2 h3
  ⟨e, h e he, r⟩
def merged (m : Nat) (row theirs : List Nat) (o t : Nat) : List Nat := ((List.range m).map fun a => max (at0 row a) (at0 theirs a)).set o (max (max (at0 row o) (at0 theirs o)) t)
theorem merged_len (m : Nat) (row theirs : List Nat) (o t : Nat) : (merged m row theirs o t).length = m := by unfold merged; simp
theorem merged_at {m : Nat} {row theirs : List Nat} {o t i : Nat} (hi : i < m) (ho : o < m) : at0 (merged m row theirs o t) i = if i = o then max (max (at0 row o) (at0 theirs o)) t else max (at0 row i) (at0 theirs i) := by
  unfold merged
  by_cases e : i = o
  · subst e
    rw [if_pos rfl]
    exact getD_set_self (by simpa using hi)
  · rw [if_neg e]
    show ((((List.range m).map fun a => max (at0 row a) (at0 theirs a)).set o _).getD i 0) = _
    rw [getD_set_ne (fun z => e z.symm)]
    exact getD_range _ hi
theorem merged_cov {m : Nat} {ds : List Dd} {row : List Nat} {e : Dd} (W : Wh m ds) (c : Cov m ds row) (he : e ∈ ds) : Cov m ds (merged m row e.hd e.who e.num) := by
  have ho := W.who e he
  have up : ∀ i, i < m → at0 row i ≤ at0 (merged m row e.hd e.who e.num) i ∧ at0 e.hd i ≤ at0 (merged m row e.hd e.who e.num) i := fun i hi => by
    rw [merged_at hi ho]
    split
    · rename_i q
      subst q
      omega
    · omega
  intro j k hj h1 h2
  rw [merged_at hj ho] at h2
  have old : k ≤ at0 row j → ∃ e' ∈ ds, e'.who = j ∧ e'.num = k ∧ ∀ i, i < m → at0 e'.hd i ≤ at0 (merged m row e.hd e.who e.num) i := fun h => by
    obtain ⟨e', m', a, b, f⟩ := c j k hj h1 h
    exact ⟨e', m', a, b, fun i hi => Nat.le_trans (f i hi) (up i hi).1⟩
  have new : k ≤ at0 e.hd j → ∃ e' ∈ ds, e'.who = j ∧ e'.num = k ∧ ∀ i, i < m → at0 e'.hd i ≤ at0 (merged m row e.hd e.who e.num) i := fun h => by
    obtain ⟨e', m', a, b, f⟩ := W.past e he j k hj h1 h
    exact ⟨e', m', a, b, fun i hi => Nat.le_trans (f i hi) (up i hi).2⟩
  split at h2
  · rename_i q
    by_cases q1 : k ≤ at0 row j
    · exact old q1
    · by_cases q2 : k ≤ at0 e.hd j
      · exact new q2
      · have q3 : k ≤ e.num := by rw [← q] at h2; omega
        have q4 := W.own e he
        have q5 : k = e.num := by rw [q] at q2; omega
        exact ⟨e, he, q.symm, q5.symm, fun i hi => (up i hi).2⟩
  · by_cases q1 : k ≤ at0 row j
    · exact old q1
    · exact new (by omega)
theorem Kn.le {m : Nat} {ds : List Dd} {kn : List (List Nat)} (K : Kn m ds kn) {row : List Nat} (c : Cov m ds row) {j : Nat} (hj : j < m) : at0 row j ≤ at0 (rowOf kn j) j := by
  by_cases h : 1 ≤ at0 row j
  · obtain ⟨e, he, a, b, _⟩ := c j _ hj h (Nat.le_refl _)
    have := K.cnt e he
    rw [a, b] at this
    exact this
  · omega
theorem Kn.has {m : Nat} {ds : List Dd} {kn : List (List Nat)} (K : Kn m ds kn) {j k : Nat} (hj : j < m) (h1 : 1 ≤ k) (h2 : k ≤ at0 (rowOf kn j) j) : ∃ e ∈ ds, e.who = j ∧ e.num = k :=
  let ⟨e, he, a, b, _⟩ := K.cov j hj j k hj h1 h2
  ⟨e, he, a, b⟩
theorem Kn.merge {m : Nat} {ds : List Dd} {kn : List (List Nat)} {i : Nat} {e : Dd} (W : Wh m ds) (K : Kn m ds kn) (hi : i < m) (he : e ∈ ds) (hg : at0 (rowOf kn i) e.who < e.num) : Kn m ds (kn.set i (merged m (rowOf kn i) e.hd e.who e.num)) := by
  have ho := W.who e he
  have hl : i < kn.length := by rw [K.len]; exact hi
  have c := merged_cov W (K.cov i hi) he
  have ne : i ≠ e.who := fun z => by
    have := K.cnt e he
    rw [← z] at this hg
    omega
  have own : at0 (merged m (rowOf kn i) e.hd e.who e.num) i = at0 (rowOf kn i) i := by
    rw [merged_at hi ho, if_neg ne]
    have := K.le (W.past e he) hi
    omega
  refine ⟨by rw [List.length_set]; exact K.len, fun j hj => ?_, fun j hj => ?_, fun d hd => ?_⟩
  · by_cases q : i = j
    · subst q
      show ((kn.set i _).getD i []).length = m
      rw [getD_set_self hl]; exact merged_len _ _ _ _ _
    · show ((kn.set i _).getD j []).length = m
      rw [getD_set_ne q]; exact K.row j hj
  · by_cases q : i = j
    · subst q
      show Cov m ds ((kn.set i _).getD i [])
      rw [getD_set_self hl]; exact c
    · show Cov m ds ((kn.set i _).getD j [])
      rw [getD_set_ne q]; exact K.cov j hj
  · by_cases q : i = d.who
    · show d.num ≤ at0 ((kn.set i _).getD d.who []) d.who
      rw [← q, getD_set_self hl, own, q]
      exact K.cnt d hd
    · show d.num ≤ at0 ((kn.set i _).getD d.who []) d.who
      rw [getD_set_ne q]; exact K.cnt d hd
def nextD (kn : List (List Nat)) (i : Nat) (br : PyData) (wt : List PyData) : Dd := ⟨i, at0 (rowOf kn i) i + 1, rowOf kn i, br, wt⟩
theorem Wh.next {m : Nat} {ds : List Dd} {kn : List (List Nat)} {i : Nat} {br : PyData} {wt : List PyData} (W : Wh m ds) (K : Kn m ds kn) (hi : i < m) : Wh m (ds ++ [nextD kn i br wt]) := by
  have sub : ∀ d ∈ ds, d ∈ ds ++ [nextD kn i br wt] := fun d hd => List.mem_append_left _ hd
  have two : ∀ {P : Dd → Prop}, (∀ d ∈ ds, P d) → P (nextD kn i br wt) → ∀ d ∈ ds ++ [nextD kn i br wt], P d := fun h1 h2 d hd => by
    rcases List.mem_append.mp hd with q | q
    · exact h1 d q
    · rw [List.mem_singleton.mp q]; exact h2
  refine ⟨two W.who hi, two W.len (K.row i hi), two W.own rfl, ?_, two (fun d hd => (W.past d hd).mono sub) ((K.cov i hi).mono sub)⟩
  refine List.pairwise_append.mpr ⟨W.uniq, List.pairwise_singleton _ _, fun a ha b hb z => ?_⟩
  rw [List.mem_singleton.mp hb] at z
  have := K.cnt a ha
  rw [z.1, z.2] at this
  show False
  have q : (nextD kn i br wt).num = at0 (rowOf kn i) i + 1 := rfl
  have q2 : (nextD kn i br wt).who = i := rfl
  rw [q, q2] at this
  omega
theorem Kn.next {m : Nat} {ds : List Dd} {kn : List (List Nat)} {i : Nat} {br : PyData} {wt : List PyData} (W : Wh m ds) (K : Kn m ds kn) (hi : i < m) : Kn m (ds ++ [nextD kn i br wt]) (kn.set i ((rowOf kn i).set i (at0 (rowOf kn i) i + 1))) := by
  have sub : ∀ d ∈ ds, d ∈ ds ++ [nextD kn i br wt] := fun d hd => List.mem_append_left _ hd
  have hl : i < kn.length := by rw [K.len]; exact hi
  have hr : i < (rowOf kn i).length := by rw [K.row i hi]; exact hi
  have up : ∀ a, at0 (rowOf kn i) a ≤ at0 ((rowOf kn i).set i (at0 (rowOf kn i) i + 1)) a := fun a => by
    by_cases q : i = a
    · subst q
      show _ ≤ ((rowOf kn i).set i _).getD i 0
      rw [getD_set_self hr]; omega
    · show _ ≤ ((rowOf kn i).set i _).getD a 0
      rw [getD_set_ne q]; exact Nat.le_refl _
  refine ⟨by rw [List.length_set]; exact K.len, fun j hj => ?_, fun j hj => ?_, fun d hd => ?_⟩
  · by_cases q : i = j
    · subst q
      show ((kn.set i _).getD i []).length = m
      rw [getD_set_self hl, List.length_set]; exact K.row i hi
    · show ((kn.set i _).getD j []).length = m
      rw [getD_set_ne q]; exact K.row j hj
  · by_cases q : i = j
    · subst q
      show Cov m _ ((kn.set i _).getD i [])
      rw [getD_set_self hl]
      intro a k ha h1 h2
      by_cases r : k ≤ at0 (rowOf kn i) a
      · obtain ⟨e, he, x, y, f⟩ := K.cov i hi a k ha h1 r
        exact ⟨e, sub e he, x, y, fun b hb => Nat.le_trans (f b hb) (up b)⟩
      · have ra : i = a := Classical.byContradiction fun z => by
          have h3 : k ≤ ((rowOf kn i).set i (at0 (rowOf kn i) i + 1)).getD a 0 := h2
          rw [getD_set_ne z] at h3
          exact r h3
        subst ra
        have h3 : k ≤ ((rowOf kn i).set i (at0 (rowOf kn i) i + 1)).getD i 0 := h2
        rw [getD_set_self hr] at h3
        exact ⟨nextD kn i br wt, List.mem_append_right _ (List.mem_singleton.mpr rfl), rfl, by show at0 (rowOf kn i) i + 1 = k; omega, fun b _ => up b⟩
    · show Cov m _ ((kn.set i _).getD j [])
      rw [getD_set_ne q]; exact (K.cov j hj).mono sub
  · rcases List.mem_append.mp hd with q | q
    · have := K.cnt d q
      by_cases r : i = d.who
      · show d.num ≤ at0 ((kn.set i _).getD d.who []) d.who
        rw [← r, getD_set_self hl]
        rw [← r] at this
        exact Nat.le_trans this (up i)
      · show d.num ≤ at0 ((kn.set i _).getD d.who []) d.who
        rw [getD_set_ne r]; exact this
    · rw [List.mem_singleton.mp q]
      show at0 (rowOf kn i) i + 1 ≤ at0 ((kn.set i _).getD i []) i
      rw [getD_set_self hl]
      show _ ≤ ((rowOf kn i).set i _).getD i 0
      rw [getD_set_self hr]; exact Nat.le_refl _
theorem Kn.start (m : Nat) : Kn m [] (List.replicate m (List.replicate m 0)) ∧ Wh m [] := by
  have z : ∀ i j, at0 (rowOf (List.replicate m (List.replicate m 0)) i) j = 0 := fun i j => by
    unfold at0 rowOf
    rw [List.getD_eq_getElem?_getD, List.getD_eq_getElem?_getD, List.getElem?_replicate]
    split
    · show ((List.replicate m 0)[j]?).getD 0 = 0
      rw [List.getElem?_replicate]
      split <;> rfl
    · rfl
  refine ⟨⟨by simp, fun i hi => ?_, fun i hi j k _ h1 h2 => ?_, (fun d hd => nomatch hd)⟩, ⟨(fun d hd => nomatch hd), (fun d hd => nomatch hd), (fun d hd => nomatch hd), List.Pairwise.nil, (fun d hd => nomatch hd)⟩⟩
  · unfold rowOf
    rw [List.getD_eq_getElem?_getD, List.getElem?_replicate, if_pos hi]
    simp
  · rw [z] at h2
    omega
end Hs
set_option maxHeartbeats 4000000
namespace Hs
open PySem L2 PyProof.Rows
theorem nd_inj {α : Type} : ∀ {l : List α} {i j : Nat} {x : α}, l.Nodup → l[i]? = some x → l[j]? = some x → i = j
  | [], _, _, _, _, h, _ => nomatch h
  | a :: l, 0, 0, _, _, _, _ => rfl
  | a :: l, 0, j + 1, x, nd, h1, h2 => by
    cases h1
    exact absurd (List.mem_of_getElem? (by simpa using h2)) (List.nodup_cons.mp nd).1
  | a :: l, i + 1, 0, x, nd, h1, h2 => by
    cases h2
    exact absurd (List.mem_of_getElem? (by simpa using h1)) (List.nodup_cons.mp nd).1
  | a :: l, i + 1, j + 1, x, nd, h1, h2 => congrArg (· + 1) (nd_inj (List.nodup_cons.mp nd).2 (by simpa using h1) (by simpa using h2))
theorem nodup_set {α : Type} : ∀ {l : List α} {i : Nat} {x : α}, l.Nodup → x ∉ l → (l.set i x).Nodup
  | [], _, _, nd, _ => nd
  | a :: l, 0, x, nd, h => List.nodup_cons.mpr ⟨fun m => h (List.mem_cons_of_mem _ m), (List.nodup_cons.mp nd).2⟩
  | a :: l, i + 1, x, nd, h => List.nodup_cons.mpr ⟨fun m => by
      rcases List.mem_or_eq_of_mem_set m with m | m
      · exact (List.nodup_cons.mp nd).1 m
      · exact h (by rw [m]; exact List.mem_cons_self), nodup_set (List.nodup_cons.mp nd).2 fun m => h (List.mem_cons_of_mem _ m)⟩
abbrev nV (n : Nat) : V := .int (n : Int)
abbrev rowV (r : List Nat) : List V := r.map nV
def keyD (d : Dd) : List Key := [.inl (d.who : Int), .inl (d.num : Int)]
def DeedAt (H : Hp) (ws : List Str) (v : V) (d : Dd) : Prop := ∃ q w hq b x, v = .ref q ∧ ws[d.who]? = some w ∧ H q = some (.tup [.str w, nV d.num, .ref hq, b, x]) ∧ H hq = some (.tup (rowV d.hd)) ∧ DT H b d.br ∧ DT H x (.tuple d.wt)
theorem DeedAt.mono {H H' : Hp} {ws : List Str} {v : V} {d : Dd} (h : DeedAt H ws v d) (s : Same H H') : DeedAt H' ws v d := by
  obtain ⟨q, w, hq, b, x, e, h1, h2, h3, h4, h5⟩ := h
  exact ⟨q, w, hq, b, x, e, h1, s _ _ h2, s _ _ h3, h4.same s, h5.same s⟩
theorem ne_tup_lst {H : Hp} {a b : Addr} {xs : List V} {o : HO} (ha : H a = some (.tup xs)) (hb : H b = some o) (ho : ∀ ys, o ≠ .tup ys) : a ≠ b := fun e => by
  subst e
  rw [ha] at hb
  exact ho xs (Option.some.inj hb).symm
theorem DeedAt.wr {H : Hp} {ws : List Str} {v : V} {d : Dd} {a : Addr} {o o' : HO} (h : DeedAt H ws v d) (e : H a = some o) (ho : ∀ ys, o ≠ .tup ys) : DeedAt (upd H a o') ws v d := by
  obtain ⟨q, w, hq, b, x, e1, h1, h2, h3, h4, h5⟩ := h
  exact ⟨q, w, hq, b, x, e1, h1, by rw [upd_ne (ne_tup_lst h2 e ho)]; exact h2, by rw [upd_ne (ne_tup_lst h3 e ho)]; exact h3, h4.wr e ho, h5.wr e ho⟩
def Deeds (H : Hp) (ws : List Str) (des : List V) (ds : List Dd) : Prop := des.length = ds.length ∧ ∀ (i : Nat) (d : Dd), ds[i]? = some d → ∃ v, des[i]? = some v ∧ DeedAt H ws v d
theorem Deeds.mono {H H' : Hp} {ws : List Str} {des : List V} {ds : List Dd} (h : Deeds H ws des ds) (s : Same H H') : Deeds H' ws des ds := ⟨h.1, fun i d e => let ⟨v, a, b⟩ := h.2 i d e; ⟨v, a, b.mono s⟩⟩
theorem Deeds.wr {H : Hp} {ws : List Str} {des : List V} {ds : List Dd} {a : Addr} {o o' : HO} (h : Deeds H ws des ds) (e : H a = some o) (ho : ∀ ys, o ≠ .tup ys) : Deeds (upd H a o') ws des ds := ⟨h.1, fun i d e' => let ⟨v, x, b⟩ := h.2 i d e'; ⟨v, x, b.wr e ho⟩⟩
theorem Deeds.snoc {H : Hp} {ws : List Str} {des : List V} {ds : List Dd} {v : V} {d : Dd} (h : Deeds H ws des ds) (hd : DeedAt H ws v d) : Deeds H ws (des ++ [v]) (ds ++ [d]) := by
  refine ⟨by simp [h.1], fun i d' e => ?_⟩
  by_cases hi : i < ds.length
  · rw [List.getElem?_append_left hi] at e
    obtain ⟨x, h1, h2⟩ := h.2 i d' e
    exact ⟨x, by rw [List.getElem?_append_left (by rw [h.1]; exact hi)]; exact h1, h2⟩
  · rw [List.getElem?_append_right (by omega)] at e
    have hi2 : i - ds.length = 0 := by
      have := (List.getElem?_eq_some_iff.mp e).1
      simp at this
      omega
    rw [hi2] at e
    cases e
    exact ⟨v, by rw [List.getElem?_append_right (by rw [h.1]; omega), h.1, hi2]; rfl, hd⟩
structure HSt (H0 H : Hp) (kp tp dp : Addr) (ws : List Str) (kn : List (List Nat)) (td ds : List Dd) (ks : List Addr) (kvs : List (List Key × V)) (des : List V) : Prop where
  same : Same H0 H
  kat : H kp = some (.lst (ks.map V.ref))
  klen : ks.length = kn.length
  rows : ∀ i k, ks[i]? = some k → H k = some (.lst (rowV (rowOf kn i)))
  nd : ks.Nodup
  kk : kp ∉ ks
  kd : kp ≠ dp
  dk : dp ∉ ks
  fk : H0 kp = none
  ft : H0 tp = none
  fd : H0 dp = none
  fr : ∀ k ∈ ks, H0 k = none
  tat : H tp = some (.dT kvs)
  tab : ∀ d ∈ td, ∃ q, valV kvs (keyD d) = some (.ref q) ∧ H q = some (.lst (rowV d.hd)) ∧ q ≠ kp ∧ q ≠ dp ∧ q ∉ ks
  tlen : kvs.length ≤ td.length
  dat : H dp = some (.lst des)
  deeds : Deeds H ws des ds
section
variable {H0 H H' : Hp} {kp tp dp : Addr} {ws : List Str} {kn : List (List Nat)} {td ds : List Dd} {ks : List Addr} {kvs : List (List Key × V)} {des : List V}
theorem HSt.mono (h : HSt H0 H kp tp dp ws kn td ds ks kvs des) (s : Same H H') : HSt H0 H' kp tp dp ws kn td ds ks kvs des where
  same := h.same.trans s
  kat := s _ _ h.kat
  klen := h.klen
  rows := fun i k e => s _ _ (h.rows i k e)
  nd := h.nd
  kk := h.kk
  kd := h.kd
  dk := h.dk
  fk := h.fk
  ft := h.ft
  fd := h.fd
  fr := h.fr
  tat := s _ _ h.tat
  tab := fun d hd => let ⟨q, a, b, c⟩ := h.tab d hd; ⟨q, a, s _ _ b, c⟩
  tlen := h.tlen
  dat := s _ _ h.dat
  deeds := h.deeds.mono s
theorem HSt.tk (h : HSt H0 H kp tp dp ws kn td ds ks kvs des) {k : Addr} (hk : k ∈ ks) : tp ≠ k := fun e => by
  obtain ⟨i, hi, e2⟩ := List.mem_iff_getElem.mp hk
  have := h.rows i k (by rw [List.getElem?_eq_getElem hi, e2])
  rw [← e, h.tat] at this
  cases this
theorem HSt.tkp (h : HSt H0 H kp tp dp ws kn td ds ks kvs des) : tp ≠ kp := fun e => by
  have := h.kat
  rw [← e, h.tat] at this
  cases this
theorem HSt.tdp (h : HSt H0 H kp tp dp ws kn td ds ks kvs des) : tp ≠ dp := fun e => by
  have := h.dat
  rw [← e, h.tat] at this
  cases this
theorem lst_tup {xs : List V} : ∀ ys, (HO.lst xs) ≠ .tup ys := fun ys e => by cases e
theorem dt_tup {xs : List (List Key × V)} : ∀ ys, (HO.dT xs) ≠ .tup ys := fun ys e => by cases e
theorem HSt.row (h : HSt H0 H kp tp dp ws kn td ds ks kvs des) {i : Nat} {k : Addr} {r : List Nat} (e : ks[i]? = some k) : HSt H0 (upd H k (.lst (rowV r))) kp tp dp ws (kn.set i r) td ds ks kvs des := by
  have hm : k ∈ ks := List.mem_of_getElem? e
  have hi : i < ks.length := (List.getElem?_eq_some_iff.mp e).1
  refine ⟨h.same.wr (h.fr k hm), ?_, by rw [List.length_set]; exact h.klen, fun j k' e' => ?_, h.nd, h.kk, h.kd, h.dk, h.fk, h.ft, h.fd, h.fr, ?_, fun d hd => ?_, h.tlen, ?_, h.deeds.wr (h.rows i k e) lst_tup⟩
  · rw [upd_ne (fun z => h.kk (by rw [z]; exact hm))]; exact h.kat
  · by_cases q : i = j
    · subst q
      have : k' = k := by rw [e] at e'; exact (Option.some.inj e').symm
      subst this
      rw [upd_same]
      show _ = some (HO.lst (rowV ((kn.set i r).getD i [])))
      rw [getD_set_self (by rw [← h.klen]; exact hi)]
    · have hne : k' ≠ k := fun z => by
        subst z
        exact q (nd_inj h.nd e e')
      rw [upd_ne hne]
      show _ = some (HO.lst (rowV ((kn.set i r).getD j [])))
      rw [getD_set_ne q]
      exact h.rows j k' e'
  · rw [upd_ne (h.tk hm)]; exact h.tat
  · obtain ⟨q, a, b, c1, c2, c3⟩ := h.tab d hd
    exact ⟨q, a, by rw [upd_ne (fun z => c3 (by rw [z]; exact hm))]; exact b, c1, c2, c3⟩
  · rw [upd_ne (fun z => h.dk (by rw [z]; exact hm))]; exact h.dat
theorem HSt.swap (h : HSt H0 H kp tp dp ws kn td ds ks kvs des) {i : Nat} {p : Addr} {r : List Nat} (hi : i < kn.length) (hp : H p = none) : HSt H0 (upd (upd H p (.lst (rowV r))) kp (.lst ((ks.set i p).map V.ref))) kp tp dp ws (kn.set i r) td ds (ks.set i p) kvs des := by
  have g := h.mono (Same.new (o := .lst (rowV r)) hp)
  have hi' : i < ks.length := by rw [h.klen]; exact hi
  have ne : ∀ {a o}, H a = some o → p ≠ a := fun e z => by subst z; rw [hp] at e; cases e
  have pk : p ∉ ks := fun m => by
    obtain ⟨j, hj, e2⟩ := List.mem_iff_getElem.mp m
    exact ne (h.rows j p (by rw [List.getElem?_eq_getElem hj, e2])) rfl
  have mem : ∀ {x}, x ∈ ks.set i p → x ∈ ks ∨ x = p := fun m => List.mem_or_eq_of_mem_set m
  have h0 : H0 p = none := by
    cases e : H0 p with
    | none => rfl
    | some o => rw [h.same _ _ e] at hp; cases hp
  refine ⟨g.same.wr h.fk, upd_same, by rw [List.length_set, List.length_set]; exact h.klen, fun j k' e' => ?_, ?_, fun m => ?_, h.kd, fun m => ?_, h.fk, h.ft, h.fd, fun k m => ?_, ?_, fun d hd => ?_, h.tlen, ?_, g.deeds.wr g.kat lst_tup⟩
  · by_cases q : i = j
    · subst q
      rw [List.getElem?_set_self hi'] at e'
      cases e'
      rw [upd_ne (ne h.kat), upd_same]
      show _ = some (HO.lst (rowV ((kn.set i r).getD i [])))
      rw [getD_set_self hi]
    · rw [List.getElem?_set_ne q] at e'
      have hm : k' ∈ ks := List.mem_of_getElem? e'
      rw [upd_ne (fun z => h.kk (by rw [← z]; exact hm))]
      show _ = some (HO.lst (rowV ((kn.set i r).getD j [])))
      rw [getD_set_ne q]
      exact g.rows j k' e'
  · exact nodup_set h.nd pk
  · rcases mem m with m | m
    · exact h.kk m
    · exact ne h.kat m.symm
  · rcases mem m with m | m
    · exact h.dk m
    · exact ne h.dat m.symm
  · rcases mem m with m | m
    · exact h.fr k m
    · rw [m]; exact h0
  · rw [upd_ne h.tkp]; exact g.tat
  · obtain ⟨q, a, b, c1, c2, c3⟩ := h.tab d hd
    refine ⟨q, a, ?_, c1, c2, fun m => ?_⟩
    · rw [upd_ne c1, upd_ne (fun z => ne b z.symm)]; exact b
    · rcases mem m with m | m
      · exact c3 m
      · exact ne b m.symm
  · rw [upd_ne (fun z => h.kd z.symm)]; exact g.dat
theorem HSt.put (h : HSt H0 H kp tp dp ws kn td ds ks kvs des) {d : Dd} {q : Addr} (hq : H q = some (.lst (rowV d.hd))) (q1 : q ≠ kp) (q2 : q ≠ dp) (q3 : q ∉ ks) (un : ∀ e ∈ td, keyD e ≠ keyD d) :
    HSt H0 (upd H tp (.dT (putK kvs (keyD d) (.ref q)))) kp tp dp ws kn (td ++ [d]) ds ks (putK kvs (keyD d) (.ref q)) des := by
  have qt : q ≠ tp := fun z => by subst z; rw [h.tat] at hq; cases hq
  refine ⟨h.same.wr h.ft, ?_, h.klen, fun i k e => ?_, h.nd, h.kk, h.kd, h.dk, h.fk, h.ft, h.fd, h.fr, upd_same, fun e he => ?_, ?_, ?_, h.deeds.wr h.tat dt_tup⟩
  · rw [upd_ne (fun z => h.tkp z.symm)]; exact h.kat
  · rw [upd_ne (fun z => h.tk (List.mem_of_getElem? e) z.symm)]; exact h.rows i k e
  · rcases List.mem_append.mp he with m | m
    · obtain ⟨q', a, b, c⟩ := h.tab e m
      refine ⟨q', by rw [valV_put, if_neg (un e m)]; exact a, ?_, c⟩
      rw [upd_ne (fun z => by subst z; rw [h.tat] at b; cases b)]; exact b
    · rw [List.mem_singleton.mp m]
      exact ⟨q, by rw [valV_put, if_pos rfl], by rw [upd_ne qt]; exact hq, q1, q2, q3⟩
  · have := length_putK kvs (keyD d) (.ref q)
    have := h.tlen
    rw [List.length_append, List.length_singleton]
    omega
  · rw [upd_ne (fun z => h.tdp z.symm)]; exact h.dat
theorem HSt.add (h : HSt H0 H kp tp dp ws kn td ds ks kvs des) {d : Dd} {v : V} (hd : DeedAt H ws v d) : HSt H0 (upd H dp (.lst (des ++ [v]))) kp tp dp ws kn td (ds ++ [d]) ks kvs (des ++ [v]) := by
  refine ⟨h.same.wr h.fd, ?_, h.klen, fun i k e => ?_, h.nd, h.kk, h.kd, h.dk, h.fk, h.ft, h.fd, h.fr, ?_, fun e he => ?_, h.tlen, upd_same, (h.deeds.snoc hd).wr h.dat lst_tup⟩
  · rw [upd_ne h.kd]; exact h.kat
  · rw [upd_ne (fun z => h.dk (by rw [← z]; exact List.mem_of_getElem? e))]; exact h.rows i k e
  · rw [upd_ne h.tdp]; exact h.tat
  · obtain ⟨q, a, b, c1, c2, c3⟩ := h.tab e he
    exact ⟨q, a, by rw [upd_ne c2]; exact b, c1, c2, c3⟩
theorem HSt.retab {d d2 : Dd} (h : HSt H0 H kp tp dp ws kn (td ++ [d]) ds ks kvs des) (e : keyD d2 = keyD d) (e2 : d2.hd = d.hd) : HSt H0 H kp tp dp ws kn (td ++ [d2]) ds ks kvs des :=
  ⟨h.same, h.kat, h.klen, h.rows, h.nd, h.kk, h.kd, h.dk, h.fk, h.ft, h.fd, h.fr, h.tat, fun x hx => by
    rcases List.mem_append.mp hx with m | m
    · exact h.tab x (List.mem_append_left _ m)
    · rw [List.mem_singleton.mp m, e, e2]
      exact h.tab d (List.mem_append_right _ (List.mem_singleton.mpr rfl)), by have := h.tlen; rw [List.length_append, List.length_singleton] at this ⊢; exact this, h.dat, h.deeds⟩
theorem HSt.guard (h : HSt H0 H kp tp dp ws kn td ds ks kvs des) {p : Addr} {o : HO} (hp : H p = none) (s : Same H H') (e : H' p = some o) : HSt (upd H0 p o) H' kp tp dp ws kn td ds ks kvs des := by
  have ne : ∀ {a u}, H a = some u → a ≠ p := fun {a u} e1 z => by rw [z, hp] at e1; cases e1
  have g := h.mono s
  refine ⟨fun b u q => ?_, g.kat, g.klen, g.rows, g.nd, g.kk, g.kd, g.dk, ?_, ?_, ?_, fun k hk => ?_, g.tat, g.tab, g.tlen, g.dat, g.deeds⟩
  · by_cases z : b = p
    · subst z
      rw [upd_same] at q
      rw [e]; exact q
    · rw [upd_ne z] at q
      exact g.same b u q
  · rw [upd_ne (ne h.kat)]; exact h.fk
  · rw [upd_ne (ne h.tat)]; exact h.ft
  · rw [upd_ne (ne h.dat)]; exact h.fd
  · obtain ⟨i, hi, e2⟩ := List.mem_iff_getElem.mp hk
    rw [upd_ne (ne (h.rows i k (by rw [List.getElem?_eq_getElem hi, e2])))]; exact h.fr k hk
theorem HSt.weak {H1 : Hp} (s : Same H0 H1) (h : HSt H1 H kp tp dp ws kn td ds ks kvs des) : HSt H0 H kp tp dp ws kn td ds ks kvs des :=
  ⟨s.trans h.same, h.kat, h.klen, h.rows, h.nd, h.kk, h.kd, h.dk, s.free h.fk, s.free h.ft, s.free h.fd, fun k hk => s.free (h.fr k hk), h.tat, h.tab, h.tlen, h.dat, h.deeds⟩
theorem HSt.rowAt (h : HSt H0 H kp tp dp ws kn td ds ks kvs des) {i : Nat} (hi : i < kn.length) : ∃ k, ks[i]? = some k ∧ H k = some (.lst (rowV (rowOf kn i))) ∧ atI (ks.map V.ref) (i : Int) = some (.ref k) := by
  have hi' : i < ks.length := by rw [h.klen]; exact hi
  exact ⟨ks[i], List.getElem?_eq_getElem hi', h.rows i _ (List.getElem?_eq_getElem hi'), atI_nat (by rw [List.getElem?_map, List.getElem?_eq_getElem hi']; rfl)⟩
end
theorem atI_row {r : List Nat} {i : Nat} (h : i < r.length) : atI (rowV r) (i : Int) = some (nV (at0 r i)) := atI_nat (by
  rw [List.getElem?_map, List.getElem?_eq_getElem h]
  unfold at0
  rw [List.getD_eq_getElem?_getD, List.getElem?_eq_getElem h]; rfl)
theorem atI_0 {α : Type} {xs : List α} {j : Nat} {v : α} (h : atI xs (j : Int) = some v) : atI xs (0 + (j : Int)) = some v := by rw [Int.zero_add]; exact h
theorem ixN_nat {n i : Nat} (h : i < n) : ixN n (i : Int) = some i := by
  unfold ixN
  rw [if_pos (by omega), if_pos (by omega)]
  simp
theorem rowV_set (r : List Nat) (i x : Nat) : (rowV r).set i (nV x) = rowV (r.set i x) := by
  unfold rowV
  rw [List.map_set]
theorem max_nat (a b : Nat) : (if (b : Int) > (a : Int) then (b : Int) else (a : Int)) = ((max a b : Nat) : Int) := by
  split <;> omega
theorem flat_zero (m : Nat) : (List.replicate ((m : Int).toNat) [V.int 0]).flatten = rowV (List.replicate m 0) := by
  rw [Int.toNat_natCast]
  induction m with
  | zero => rfl
  | succ m ih =>
    rw [List.replicate_succ, List.flatten_cons, ih, List.replicate_succ]
    rfl
theorem keyD_ne {a b : Dd} (h : ¬ (a.who = b.who ∧ a.num = b.num)) : keyD a ≠ keyD b := fun e => by
  unfold keyD at e
  injection e with e1 e2
  injection e2 with e2 _
  injection e1 with e1
  injection e2 with e2
  exact h ⟨by omega, by omega⟩
theorem replicate_rows {m i : Nat} (h : i < m) : rowOf (List.replicate m (List.replicate m 0)) i = List.replicate m 0 := by
  unfold rowOf
  rw [List.getD_eq_getElem?_getD, List.getElem?_replicate, if_pos h]; rfl
end Hs
set_option maxHeartbeats 4000000
namespace My
open PySem L2 PyProof.Rows
theorem szOk {n : Nat} (h : Nat.ble n 1000 = true) : n ≤ sizeLine := Nat.le_of_lt (small1000 (Nat.le_of_ble_eq_true h))
theorem cm3 {x m : Int} {j : Nat} (h0 : 0 < m) (h1 : m ≤ 2147483647) (hj : j < 31) : -(2 ^ 64) < x % m + (0 + (j : Int)) + 2 ∧ x % m + (0 + (j : Int)) + 2 < 2 ^ 64 := by
  have a := mod_lo x h0
  have b := mod_hi x h0
  omega
theorem abc_all : ∀ c ∈ ("abcdefghijklmnopqrstuvwxyz" : Str).cps.toList, 97 ≤ c ∧ c ≤ 122 := by decide +kernel
theorem atI_mem {α : Type} {xs : List α} {i : Int} {v : α} (h : atI xs i = some v) : v ∈ xs := by
  unfold atI at h
  cases e : ixN xs.length i with
  | none => rw [e] at h; cases h
  | some j => rw [e] at h; exact List.mem_of_getElem? h
theorem app_toList (z : Str) (c : Nat) : (z ++ ⟨#[c]⟩ : Str).cps.toList = z.cps.toList ++ [c] := by
  show (z.cps ++ #[c]).toList = _
  simp
theorem cut7 (z : Str) : (cutS z none (some 7)).cps.toList = z.cps.toList.take 7 := by
  unfold cutS
  show (z.cps.toList.drop 0).take (min 7 z.length - 0) = _
  rw [List.drop_zero, Nat.sub_zero]
  by_cases h : 7 ≤ z.length
  · rw [Nat.min_eq_left h]
  · have hl : z.cps.toList.length = z.length := by simp; rfl
    rw [Nat.min_eq_right (by omega), List.take_of_length_le (by omega), List.take_of_length_le (by omega)]
theorem isW_next {z : Str} {c : Nat} (h : IsW z) (hc : 97 ≤ c ∧ c ≤ 122) : IsW (cutS z none (some 7) ++ ⟨#[c]⟩) := by
  have e : (cutS z none (some 7) ++ ⟨#[c]⟩ : Str).cps.toList = z.cps.toList.take 7 ++ [c] := by rw [app_toList, cut7]
  have sz : (cutS z none (some 7) ++ ⟨#[c]⟩ : Str).cps.size = (z.cps.toList.take 7).length + 1 := by rw [← Array.length_toList, e, List.length_append, List.length_singleton]
  refine ⟨by omega, ?_, fun d hd => ?_⟩
  · rw [sz, List.length_take]; omega
  · rw [e] at hd
    rcases List.mem_append.mp hd with q | q
    · exact h.2.2 d (List.mem_of_mem_take q)
    · rw [List.mem_singleton.mp q]; exact hc
structure RL (H : Hp) (p : Addr) (ws : List Str) : Prop where
  at' : H p = some (.lst (ws.map V.str))
  pos : 0 < ws.length
  few : ws.length ≤ 6
  wd : ∀ w ∈ ws, IsW w
theorem RL.mono {H H' : Hp} {p : Addr} {ws : List Str} (r : RL H p ws) (s : Same H H') : RL H' p ws := ⟨s _ _ r.at', r.pos, r.few, r.wd⟩
theorem RL.len {H : Hp} {p : Addr} {ws : List Str} (r : RL H p ws) : (0 : Int) < ((ws.map V.str).length : Int) ∧ ((ws.map V.str).length : Int) < 1073741824 := by
  have a := r.pos
  have b := r.few
  rw [List.length_map]
  omega
structure DR (H : Hp) (p : Addr) (ns : List Int) (n : Nat) : Prop where
  at' : H p = some (.lst (List.map V.int ns))
  len : n ≤ ns.length
  few : ns.length ≤ 100
theorem DR.mono {H H' : Hp} {p : Addr} {ns : List Int} {n : Nat} (r : DR H p ns n) (s : Same H H') : DR H' p ns n := ⟨s _ _ r.at', r.len, r.few⟩
theorem DR.get {H : Hp} {p : Addr} {ns : List Int} {n : Nat} (r : DR H p ns n) (k : Nat) (h : k < n) : ∃ i, atI (List.map V.int ns) (k : Int) = some (.int i) := by
  have hk : k < ns.length := Nat.lt_of_lt_of_le h r.len
  exact ⟨ns[k], atI_nat (by rw [List.getElem?_map, List.getElem?_eq_getElem hk]; rfl)⟩
def sp_f_law_draws (_ : PySem.W.Frag) : Sp := fun vs H Q _ => ∃ i, ∃ n : Nat, vs = [.int i, .int n] ∧ n ≤ 30 ∧ ∀ H' p ns, Same H H' → H p = none → DR H' p ns n → ns.length = n → Q (.ref p) H'
def sp_f_law_word (_ : PySem.W.Frag) : Sp := fun vs H Q _ => ∃ i, vs = [.int i] ∧ ∀ z : Str, IsW z → Q (.str z) H
def sp_f_law_roll (_ : PySem.W.Frag) : Sp := fun vs H Q _ => ∃ i, vs = [.int i] ∧ ∀ H' p ws, Same H H' → H p = none → RL H' p ws → 2 ≤ ws.length → ws.Nodup → Q (.ref p) H'
def spD (P : List Str → PyData → Prop) : Sp := fun vs H Q _ => ∃ i p ws, vs = [.int i, .ref p] ∧ RL H p ws ∧ ∀ H' v d, Same H H' → DT H' v d → P ws d → Q v H'
def tupP (P : List Str → List PyData → Prop) (ws : List Str) (d : PyData) : Prop := ∃ ds, d = .tuple ds ∧ P ws ds
def sp_f_law_name (_ : PySem.W.Frag) : Sp := spD (tupP NameD)
def sp_f_law_part (_ : PySem.W.Frag) : Sp := spD (tupP PartD)
def sp_f_law_sign_name (_ : PySem.W.Frag) : Sp := spD (tupP SnD)
def sp_f_law_side (_ : PySem.W.Frag) : Sp := spD SideD
def sp_f_law_sign (_ : PySem.W.Frag) : Sp := spD SignD
def sp_f_law_branch (_ : PySem.W.Frag) : Sp := spD BrD
def sp_f_law_signs (_ : PySem.W.Frag) : Sp := fun vs H Q _ => ∃ d p ws ns, vs = [.ref d, .ref p] ∧ RL H p ws ∧ DR H d ns 1 ∧ ∀ H' v sg, Same H H' → DT H' v (.tuple sg) → 1 ≤ sg.length → sg.length ≤ 12 → (∀ x ∈ sg, SignD ws x) → Q v H'
def sp_f_law_sign_names (_ : PySem.W.Frag) : Sp := fun vs H Q _ => ∃ d p ws ns, vs = [.ref d, .ref p] ∧ RL H p ws ∧ DR H d ns 1 ∧ ∀ H' v (nn : List (List PyData)), Same H H' → DT H' v (.tuple (nn.map .tuple)) → 1 ≤ nn.length → nn.length ≤ 12 → (∀ x ∈ nn, SnD ws x) → nn.Nodup → Q v H'
def sp_f_law_what_of_signs (_ : PySem.W.Frag) : Sp := fun vs H Q _ => ∃ i d p ws ns, vs = [.int i, .ref d, .ref p] ∧ RL H p ws ∧ DR H d ns 6 ∧ ∀ H' v wt, Same H H' → DT H' v (.tuple wt) → (∀ num, WhatD ws num wt) → Q v H'
def sp_f_law_what_of_marks (_ : PySem.W.Frag) : Sp := fun vs H Q _ => ∃ i d p ws ns, vs = [.int i, .ref d, .ref p] ∧ RL H p ws ∧ DR H d ns 6 ∧ ∀ H' v wt, Same H H' → DT H' v (.tuple wt) → (∀ num, WhatD ws num wt) → Q v H'
def sp_f_law_what (_ : PySem.W.Frag) : Sp := fun vs H Q _ => ∃ d p ws ns n, vs = [.ref d, .ref p, .int n] ∧ RL H p ws ∧ DR H d ns 8 ∧ ∀ H' v wt, Same H H' → DT H' v (.tuple wt) → WhatD ws n wt → Q v H'
section
variable {K : PySem.W.Frag} {vs : List V} {H : Hp} {Q : VK} {E : XK}
theorem len_f_law_draws (h : sp_f_law_draws K vs H Q E) : vs.length = 2 := by obtain ⟨_, _, rfl, _⟩ := h; rfl
theorem len_f_law_word (h : sp_f_law_word K vs H Q E) : vs.length = 1 := by obtain ⟨_, rfl, _⟩ := h; rfl
theorem len_f_law_roll (h : sp_f_law_roll K vs H Q E) : vs.length = 1 := by obtain ⟨_, rfl, _⟩ := h; rfl
theorem len_f_law_name (h : sp_f_law_name K vs H Q E) : vs.length = 2 := by obtain ⟨_, _, _, rfl, _⟩ := h; rfl
theorem len_f_law_part (h : sp_f_law_part K vs H Q E) : vs.length = 2 := by obtain ⟨_, _, _, rfl, _⟩ := h; rfl
theorem len_f_law_sign_name (h : sp_f_law_sign_name K vs H Q E) : vs.length = 2 := by obtain ⟨_, _, _, rfl, _⟩ := h; rfl
theorem len_f_law_side (h : sp_f_law_side K vs H Q E) : vs.length = 2 := by obtain ⟨_, _, _, rfl, _⟩ := h; rfl
theorem len_f_law_sign (h : sp_f_law_sign K vs H Q E) : vs.length = 2 := by obtain ⟨_, _, _, rfl, _⟩ := h; rfl
theorem len_f_law_branch (h : sp_f_law_branch K vs H Q E) : vs.length = 2 := by obtain ⟨_, _, _, rfl, _⟩ := h; rfl
theorem len_f_law_signs (h : sp_f_law_signs K vs H Q E) : vs.length = 2 := by obtain ⟨_, _, _, _, rfl, _⟩ := h; rfl
theorem len_f_law_sign_names (h : sp_f_law_sign_names K vs H Q E) : vs.length = 2 := by obtain ⟨_, _, _, _, rfl, _⟩ := h; rfl
theorem len_f_law_what_of_signs (h : sp_f_law_what_of_signs K vs H Q E) : vs.length = 3 := by obtain ⟨_, _, _, _, _, rfl, _⟩ := h; rfl
theorem len_f_law_what_of_marks (h : sp_f_law_what_of_marks K vs H Q E) : vs.length = 3 := by obtain ⟨_, _, _, _, _, rfl, _⟩ := h; rfl
theorem len_f_law_what (h : sp_f_law_what K vs H Q E) : vs.length = 3 := by obtain ⟨_, _, _, _, _, rfl, _⟩ := h; rfl
end
def sp_f_law_house (K : PySem.W.Frag) : Sp := fun vs H Q _ => ∃ sp ns most, vs = [.ref sp, .int most] ∧ SqL K H sp (List.map V.int ns) ∧ ns.length ≤ 63 ∧
  ∀ H' p rp dp ws ds des, Same H H' → H p = none → H' p = some (.tup [.ref rp, .ref dp]) → RL H' rp ws → 2 ≤ ws.length → ws.Nodup → H dp = none → H' dp = some (.lst des) → Hs.Deeds H' ws des ds → Hs.Wh ws.length ds → (∀ d ∈ ds, BrD ws d.br ∧ WhatD ws d.num d.wt) → ds.length ≤ 63 → Q (.ref p) H'
theorem len_f_law_house {K : PySem.W.Frag} {vs : List V} {H : Hp} {Q : VK} {E : XK} (h : sp_f_law_house K vs H Q E) : vs.length = 2 := by obtain ⟨_, _, _, rfl, _⟩ := h; rfl
theorem bit_lo (b : Bool) : (0 : Int) ≤ (if b = true then 1 else 0) := by cases b <;> decide
theorem bit_hi2 (b : Bool) {x y : V} : (if b = true then 1 else 0 : Int) < (([x, y] : List V).length : Int) := by cases b <;> simp
theorem cut_int {ns : List Int} {lo hi : Option Int} {x : V} (h : x ∈ cutV (List.map V.int ns) lo hi) : ∃ m, x = V.int m := by
  unfold cutV at h
  obtain ⟨n, _, e⟩ := List.mem_map.mp (List.mem_of_mem_drop (List.mem_of_mem_take h))
  exact ⟨n, e.symm⟩
def lastC (z : Str) : Option Nat := z.cps.toList.getLast?
def Chain (ws : List Str) (i : Nat) (w : Str) : Prop := w ∉ ws ∨ ∃ S : List Str, S.Nodup ∧ (∀ x ∈ S, x ∈ ws) ∧ i ≤ S.length + 1 ∧ (∀ x ∈ S, ∃ j, j + 1 < i ∧ lastC x = some (97 + j)) ∧ (i = 0 ∨ lastC w = some (97 + (i - 1)))
theorem chain_zero (ws : List Str) (w : Str) : Chain ws 0 w := .inr ⟨[], List.nodup_nil, (fun _ z => nomatch z), by omega, (fun _ z => nomatch z), .inl rfl⟩
theorem last_app (z : Str) (c : Nat) : lastC (z ++ ⟨#[c]⟩) = some c := by
  unfold lastC
  show ((z.cps ++ #[c]).toList).getLast? = some c
  simp
theorem chain_more {ws : List Str} {i : Nat} {w z : Str} (h : Chain ws i w) (hin : w ∈ ws) : Chain ws (i + 1) (z ++ ⟨#[97 + i]⟩) := by
  rcases h with h | ⟨S, nd, sub, len, lst, lw⟩
  · exact absurd hin h
  · right
    rcases lw with rfl | lw
    · exact ⟨[], List.nodup_nil, (fun _ z => nomatch z), by simp, (fun _ z => nomatch z), .inr (last_app _ _)⟩
    · by_cases hi : i = 0
      · subst hi
        exact ⟨[], List.nodup_nil, (fun _ z => nomatch z), by simp, (fun _ z => nomatch z), .inr (last_app _ _)⟩
      · refine ⟨w :: S, List.nodup_cons.mpr ⟨fun m => ?_, nd⟩, fun x hx => ?_, by rw [List.length_cons]; omega, fun x hx => ?_, .inr (last_app _ _)⟩
        · obtain ⟨j, hj, e⟩ := lst w m
          rw [lw] at e
          have := Option.some.inj e
          omega
        · rcases List.mem_cons.mp hx with rfl | hx
          · exact hin
          · exact sub x hx
        · rcases List.mem_cons.mp hx with rfl | hx
          · exact ⟨i - 1, by omega, lw⟩
          · obtain ⟨j, hj, e⟩ := lst x hx
            exact ⟨j, by omega, e⟩
theorem chain_end {ws : List Str} {w : Str} (h : Chain ws 8 w) (hl : ws.length ≤ 6) : w ∉ ws := by
  rcases h with h | ⟨S, nd, sub, len, _, _⟩
  · exact h
  · have := nodup_len nd sub
    omega
theorem abc_at {c ch : Nat} (h : c < 8) (e : ("abcdefgh" : Str).cps[c]? = some ch) : ch = 97 + c := by
  have q : ("abcdefgh" : Str).cps = #[97, 98, 99, 100, 101, 102, 103, 104] := by decide +kernel
  rw [q] at e
  have hc : c = 0 ∨ c = 1 ∨ c = 2 ∨ c = 3 ∨ c = 4 ∨ c = 5 ∨ c = 6 ∨ c = 7 := by omega
  rcases hc with rfl | rfl | rfl | rfl | rfl | rfl | rfl | rfl <;> (simp at e; omega)
theorem flat_strs (ws : List Str) : (ws.map V.str).all flatV = true := by
  rw [List.all_map]
  exact List.all_eq_true.mpr fun _ _ => rfl
theorem inV_strs (w : Str) (ws : List Str) : inV (.str w) (ws.map V.str) = decide (w ∈ ws) := by
  unfold inV
  induction ws with
  | nil => rfl
  | cons x ws ih =>
    rw [List.map_cons, List.any_cons, ih]
    show (x == w || decide (w ∈ ws)) = decide (w ∈ x :: ws)
    by_cases e : x = w
    · subst e; simp
    · have e' : ¬ w = x := fun z => e z.symm
      simp [e, e']
theorem nodup_snoc {ws : List Str} {w : Str} (nd : ws.Nodup) (h : w ∉ ws) : (ws ++ [w]).Nodup := nd_snoc nd h
theorem cut_map (ns : List Int) (lo hi : Option Int) : cutV (List.map V.int ns) lo hi = List.map V.int ((ns.drop (HT.sIx ns.length 0 lo)).take (HT.sIx ns.length ns.length hi - HT.sIx ns.length 0 lo)) := by
  unfold cutV
  rw [List.length_map, List.map_take, List.map_drop]
theorem DR.from {H H' : Hp} {d q : Addr} {ns : List Int} {n : Nat} (r : DR H d ns n) (k : Nat) (h : k ≤ n) (e : H' q = some (.lst (cutV (List.map V.int ns) (some (k : Int)) none))) : DR H' q (ns.drop k) (n - k) := by
  have hl := r.len
  refine ⟨?_, by rw [List.length_drop]; omega, by have := r.few; rw [List.length_drop]; omega⟩
  rw [e, cut_map, HT.sIx_nat, HT.sIx_none, Nat.min_eq_left (by omega), List.take_of_length_le (by rw [List.length_drop]; exact Nat.le_refl _)]
end My
namespace L2
open PySem PySem.Spec PyProof.Rows
def strD : PyData → Str
  | .str z => z
  | .int i => toString i
  | _ => ""
def Nb (i : Int) : Prop := 0 ≤ i ∧ i ≤ 1000001
def Flat1 (d : PyData) : Prop := (∃ z : Str, d = .str z ∧ z.length ≤ 8) ∨ ∃ i, d = .int i ∧ Nb i
def nmT : List PyData → Str
  | .str h :: r => if h = "" then "." else Txt.join "." ((PyData.str h :: r).map strD)
  | _ => ""
def NmOk (ds : List PyData) : Prop := ds = [.str "", .int 0] ∨ ∃ (h : Str) (r : List PyData), ds = .str h :: r ∧ h ≠ "" ∧ PyData.strOk h = true ∧ h.length ≤ 8 ∧ r.length ≤ 2 ∧ ∀ x ∈ r, ∃ i, x = .int i ∧ Nb i
section
variable {H : Hp}
theorem flat_V {v : V} {d : PyData} (h : DT H v d) (f : Flat1 d) : ((∃ z, v = .str z) ∨ ∃ i : Int, v = .int i ∧ i.natAbs.log2 < 1920) ∧ strV v = strD d := by
  rcases f with ⟨z, rfl, _⟩ | ⟨i, rfl, hi⟩
  · rw [dv_str h]; exact ⟨.inl ⟨z, rfl⟩, rfl⟩
  · rw [dv_int h]
    refine ⟨.inr ⟨i, rfl, ?_⟩, rfl⟩
    have : i.natAbs ≤ 1000001 := by have := hi.1; have := hi.2; omega
    by_cases h0 : i.natAbs = 0
    · rw [h0]; decide
    · have := (Nat.log2_lt h0 (k := 1920)).mpr (Nat.lt_of_le_of_lt this (by
        have : (1000001 : Nat) < 2 ^ 20 := by decide
        exact Nat.lt_of_lt_of_le this (Nat.pow_le_pow_right (by decide) (by decide))))
      exact this
end
theorem strD_len {d : PyData} (f : Flat1 d) : (strD d).length ≤ 8 := by
  rcases f with ⟨z, rfl, hz⟩ | ⟨i, rfl, hi⟩
  · exact hz
  · obtain ⟨n, rfl⟩ := Int.eq_ofNat_of_zero_le hi.1
    have h2 := hi.2
    show (Str.ofString (toString ((n : Nat) : Int))).length ≤ _
    rw [PySem.ofString_length]
    show n.repr.length ≤ 8
    exact (Nat.length_repr_le_iff (by decide)).mpr (by omega)
theorem sum_len : ∀ {ds : List PyData}, (∀ d ∈ ds, Flat1 d) → ((ds.map strD).map (·.length)).sum ≤ 8 * ds.length
  | [], _ => Nat.le_refl _
  | d :: ds, h => by
    have a := strD_len (h d (by simp))
    have b := sum_len (ds := ds) fun x hx => h x (List.mem_cons_of_mem _ hx)
    rw [List.map_cons, List.map_cons, List.sum_cons, List.length_cons]
    omega
theorem NmOk.flat {ds : List PyData} (h : NmOk ds) : ds.length ≤ 3 ∧ ∀ d ∈ ds, Flat1 d := by
  rcases h with rfl | ⟨h, r, rfl, _, _, hl, hr, hx⟩
  · refine ⟨by decide, fun d hd => ?_⟩
    simp only [List.mem_cons, List.not_mem_nil, or_false] at hd
    rcases hd with rfl | rfl
    · exact .inl ⟨"", rfl, by decide⟩
    · exact .inr ⟨0, rfl, by decide, by decide⟩
  · refine ⟨by rw [List.length_cons]; omega, fun d hd => ?_⟩
    rcases List.mem_cons.mp hd with rfl | hd
    · exact .inl ⟨h, rfl, hl⟩
    · obtain ⟨i, e, hi⟩ := hx d hd
      exact .inr ⟨i, e, hi⟩
def brT : PyData → Str
  | .tuple ds => Txt.join "." (ds.map strD)
  | _ => "-"
def BrOk (d : PyData) : Prop := d = .none ∨ ∃ a b : Str, d = .tuple [.str a, .str b] ∧ a.length ≤ 8 ∧ b.length ≤ 8
def SiOk (d : PyData) : Prop := ∃ (ds : List PyData) (z : Str), d = .tuple [.tuple ds, .str z] ∧ NmOk ds ∧ (z = "ahead" ∨ z = "behind")
def siT : PyData → Str
  | .tuple [.tuple ds, .str z] => nmT ds ++ (if z = "ahead" then ("<" : Str) else ">")
  | _ => ""
def SgOk (d : PyData) : Prop := (∃ z : Str, d = .str z ∧ z.length ≤ 8 ∧ PyData.strOk z = true) ∨ (∃ z : Str, d = .tuple [.str "picture", .str z] ∧ z.length ≤ 8 ∧ PyData.strOk z = true) ∨ ∃ ds, d = .tuple [.str "refer", .tuple ds] ∧ NmOk ds
def sgT : PyData → Str
  | .str z => if z = " " then "_" else z
  | .tuple [.str k, .str z] => "*" ++ z
  | .tuple [.str k, .tuple ds] => "#" ++ nmT ds
  | _ => ""
theorem join_len (sep : Str) (ys : List Str) : (Txt.join sep ys).length ≤ (ys.map (·.length)).sum + ys.length * sep.length := by
  show (Builtin.Str.glued sep ys).length ≤ _
  rw [StrLaws.glued_eq_join]
  exact StrLaws.join_length_le sep ys
theorem nm_main : nmT [.str "", .int 0] = "." := by
  show (if ("" : Str) = "" then ("." : Str) else Txt.join "." ([PyData.str "", PyData.int 0].map strD)) = "."
  rw [if_pos rfl]
theorem nm_join {h : Str} {r : List PyData} (h0 : h ≠ "") : nmT (.str h :: r) = Txt.join "." ((PyData.str h :: r).map strD) := by
  show (if h = "" then ("." : Str) else _) = _
  rw [if_neg h0]
theorem nmT_len {ds : List PyData} (h : NmOk ds) : (nmT ds).length ≤ 40 := by
  obtain ⟨fl, ff⟩ := h.flat
  rcases h with rfl | ⟨h, r, rfl, h0, _⟩
  · rw [nm_main]; decide
  · rw [nm_join h0]
    have a := join_len "." ((PyData.str h :: r).map strD)
    have b := sum_len ff
    have e1 : ("." : Str).length = 1 := rfl
    rw [e1, List.length_map] at a
    omega
theorem lay_nums : ∀ {r : List PyData}, (∀ x ∈ r, ∃ i, x = .int i ∧ Nb i) → PyData.canLayAll0 r = true
  | [], _ => rfl
  | x :: r, h => by
    obtain ⟨i, rfl, _⟩ := h x (by simp)
    show (true && PyData.canLayAll0 r) = true
    rw [lay_nums fun y hy => h y (List.mem_cons_of_mem _ hy)]
    rfl
theorem lay_name {ds : List PyData} (hn : NmOk ds) : PyData.canLayAll0 ds = true := by
  rcases hn with rfl | ⟨h, r, rfl, h0, hok, h8, hr, hi⟩
  · decide +kernel
  · show (PyData.strOk h && PyData.canLayAll0 r) = true
    rw [hok, lay_nums hi]
    rfl
inductive ThOk : PyData → Prop
  | non : ThOk .none
  | bl (b : Bool) : ThOk (.bool b)
  | int (i : Int) : Nb i → ThOk (.int i)
  | str (z : Str) : z.length ≤ 8 → ThOk (.str z)
  | cnt (i : Int) (r : List PyData) : r.length ≤ 9 → (∀ x ∈ PyData.int i :: r, Flat1 x) → ThOk (.tuple (.int i :: r))
  | side (d : PyData) : SiOk d → ThOk d
  | name (ds : List PyData) : NmOk ds → ThOk (.tuple ds)
def thT : PyData → Str
  | .none => "-"
  | .bool b => if b = true then "yes" else "no"
  | .int i => toString i
  | .str z => if z = "" then "!" else z
  | .tuple (.int i :: r) => Txt.join "," ((PyData.int i :: r).map strD)
  | .tuple [.tuple ds, .str z] => siT (.tuple [.tuple ds, .str z])
  | .tuple ds => nmT ds
  | _ => ""
theorem siT_len {d : PyData} (h : SiOk d) : (siT d).length ≤ 50 := by
  obtain ⟨ds, z, rfl, hn, hz⟩ := h
  have := nmT_len hn
  show (nmT ds ++ (if z = "ahead" then ("<" : Str) else ">") : Str).length ≤ 50
  rw [Str.length_append]
  have : (if z = "ahead" then ("<" : Str) else ">").length = 1 := by split <;> rfl
  omega
theorem sgT_len {d : PyData} (h : SgOk d) : (sgT d).length ≤ 50 := by
  rcases h with ⟨z, rfl, hz, hzo⟩ | ⟨z, rfl, hz, hzo⟩ | ⟨ds, rfl, hn⟩
  · show (if z = " " then ("_" : Str) else z).length ≤ 50
    split
    · decide
    · omega
  · show ("*" ++ z : Str).length ≤ 50
    rw [Str.length_append]
    have : ("*" : Str).length = 1 := rfl
    omega
  · show ("#" ++ nmT ds : Str).length ≤ 50
    rw [Str.length_append]
    have : ("#" : Str).length = 1 := rfl
    have := nmT_len hn
    omega
theorem thT_name {ds : List PyData} (h : NmOk ds) : thT (.tuple ds) = nmT ds := by
  rcases h with rfl | ⟨h, r, rfl, _⟩ <;> rfl
theorem cnt_len {ds : List PyData} (h : ds.length ≤ 10) (f : ∀ x ∈ ds, Flat1 x) : (Txt.join "," (ds.map strD)).length ≤ 100 := by
  have a := join_len "," (ds.map strD)
  have b := sum_len f
  have e1 : ("," : Str).length = 1 := rfl
  rw [e1, List.length_map] at a
  omega
theorem thT_len {d : PyData} (h : ThOk d) : (thT d).length ≤ 100 := by
  cases h with
  | non => decide
  | bl b => cases b <;> decide
  | int i hi => exact Nat.le_trans (strD_len (.inr ⟨i, rfl, hi⟩)) (by decide)
  | str z hz =>
    show (if z = "" then ("!" : Str) else z).length ≤ 100
    split
    · decide
    · omega
  | cnt i r hr hf => exact cnt_len (ds := .int i :: r) (by rw [List.length_cons]; omega) hf
  | side d hs =>
    have := siT_len hs
    obtain ⟨ds, z, rfl, hn, hz⟩ := hs
    exact Nat.le_trans this (by decide)
  | name ds hn =>
    rw [thT_name hn]
    exact Nat.le_trans (nmT_len hn) (by decide)
theorem thT_side {d : PyData} (h : SiOk d) : thT d = siT d := by
  obtain ⟨ds, z, rfl, hn, hz⟩ := h
  rfl
theorem thT_word {k : Str} (h : k ≠ "") : thT (.str k) = k := by
  show (if k = "" then ("!" : Str) else k) = k
  rw [if_neg h]
def WnOk (d : PyData) : Prop := d = .none ∨ ∃ z : Str, d = .str z ∧ z ≠ "" ∧ z.length ≤ 8
theorem WnOk.th {d : PyData} (h : WnOk d) : ThOk d := by
  rcases h with rfl | ⟨z, rfl, _, hz⟩
  · exact .non
  · exact .str z hz
inductive Wt : List PyData → List Str → Prop
  | names (k : Str) (ns : List (List PyData)) : k = "part" ∨ k = "move" ∨ k = "cut" ∨ k = "strike" → ns.length ≤ 2 → (∀ n ∈ ns, NmOk n) → Wt (.str k :: ns.map .tuple) (k :: ns.map nmT)
  | put (p : List PyData) (b : PyData) (sg : List PyData) : NmOk p → (b = .none ∨ ∃ n, b = .tuple n ∧ NmOk n) → sg.length ≤ 12 → (∀ d ∈ sg, SgOk d) → Wt [.str "put", .tuple p, b, .tuple sg] ((["put", nmT p, thT b] : List Str) ++ sg.map sgT)
  | out (p : List PyData) (ns : List (List PyData)) : NmOk p → ns.length ≤ 12 → (∀ n ∈ ns, NmOk n) → Wt [.str "out", .tuple p, .tuple (ns.map .tuple)] ((["out", nmT p] : List Str) ++ ns.map nmT)
  | mark (k : Str) (p : List PyData) (s1 s2 : PyData) (r : List PyData) : k = "mark" ∨ k = "note" → NmOk p → SiOk s1 → SiOk s2 → r.length ≤ 2 → (∀ d ∈ r, WnOk d) → Wt (.str k :: .tuple p :: s1 :: s2 :: r) (k :: nmT p :: siT s1 :: siT s2 :: r.map thT)
  | line (p : List PyData) (z : Str) (v : PyData) : NmOk p → z = "row" ∨ z = "column" → (v = .none ∨ ∃ n, v = .tuple n ∧ NmOk n) → Wt [.str "line", .tuple p, .str z, v] ["line", nmT p, z, thT v]
  | cell (p a b : List PyData) (z : Str) : NmOk p → NmOk a → NmOk b → z.length ≤ 8 → Wt [.str "cell", .tuple p, .tuple a, .tuple b, .str z] ["cell", nmT p, nmT a, nmT b, if z = "" then "!" else z]
  | leave (p : List PyData) (w t : Str) (y : Bool) : NmOk p → w ≠ "" → w.length ≤ 8 → t ≠ "" → t.length ≤ 8 → Wt [.str "leave", .tuple p, .str w, .str t, .bool y] ["leave", nmT p, w, t, if y = true then "yes" else "no"]
  | pour (i : Int) (r : List PyData) : r.length ≤ 9 → (∀ x ∈ PyData.int i :: r, Flat1 x) → Wt [.str "pour", .tuple (.int i :: r)] ["pour", Txt.join "," ((PyData.int i :: r).map strD)]
  | few (k : Str) (r : List PyData) : k = "back" ∨ k = "again" ∨ k = "bring" ∨ k = "drop" ∨ k = "nothing" → r.length ≤ 1 → (∀ x ∈ r, Flat1 x ∧ x ≠ .str "") → Wt (.str k :: r) (k :: r.map strD)
theorem flat_th {x : PyData} (h : Flat1 x) (h0 : x ≠ .str "") : ThOk x ∧ thT x = strD x := by
  rcases h with ⟨z, rfl, hz⟩ | ⟨i, rfl, hi⟩
  · exact ⟨.str z hz, thT_word fun e => h0 (by rw [e])⟩
  · exact ⟨.int i hi, rfl⟩
theorem nn_th {b : PyData} (h : b = .none ∨ ∃ n, b = .tuple n ∧ NmOk n) : ThOk b := by
  rcases h with rfl | ⟨n, rfl, hn⟩
  · exact .non
  · exact .name n hn
theorem Wt.plain {ds : List PyData} {ws : List Str} (h : Wt ds ws) : (∃ (p : List PyData) (b : PyData) (sg : List PyData), ds = [.str "put", .tuple p, b, .tuple sg] ∧ ws = (["put", nmT p, thT b] : List Str) ++ sg.map sgT ∧ NmOk p ∧ (b = .none ∨ ∃ n, b = .tuple n ∧ NmOk n) ∧ sg.length ≤ 12 ∧ ∀ d ∈ sg, SgOk d) ∨ (∃ (p : List PyData) (ns : List (List PyData)), ds = [.str "out", .tuple p, .tuple (ns.map .tuple)] ∧ ws = (["out", nmT p] : List Str) ++ ns.map nmT ∧ NmOk p ∧ ns.length ≤ 12 ∧ ∀ n ∈ ns, NmOk n) ∨ ((∃ k r, ds = .str k :: r ∧ k ≠ "put" ∧ k ≠ "out") ∧ (∀ d ∈ ds, ThOk d) ∧ ws = ds.map thT ∧ ds.length ≤ 12) := by
  have two : ∀ {k : Str} {r : List PyData}, k.length ≤ 8 → (∀ d ∈ r, ThOk d) → ∀ d ∈ PyData.str k :: r, ThOk d := fun hk hr d hd => by
    rcases List.mem_cons.mp hd with rfl | hd
    · exact .str _ hk
    · exact hr d hd
  cases h with
  | put p b sg h1 h2 h3 h4 => exact .inl ⟨_, _, _, rfl, rfl, h1, h2, h3, h4⟩
  | out p ns h1 h2 h3 => exact .inr (.inl ⟨_, _, rfl, rfl, h1, h2, h3⟩)
  | names k ns hk hl hn =>
    have hk2 : k.length ≤ 8 ∧ k ≠ "" ∧ k ≠ "put" ∧ k ≠ "out" := by rcases hk with rfl | rfl | rfl | rfl <;> decide +kernel
    refine .inr (.inr ⟨⟨_, _, rfl, hk2.2.2⟩, two hk2.1 fun d hd => ?_, ?_, by rw [List.length_cons, List.length_map]; omega⟩)
    · obtain ⟨n, hn', rfl⟩ := List.mem_map.mp hd
      exact .name n (hn n hn')
    · rw [List.map_cons, thT_word hk2.2.1, List.map_map]
      refine congrArg _ (List.map_congr_left fun n hn' => ?_)
      exact (thT_name (hn n hn')).symm
  | mark k p s1 s2 r hk hp h1 h2 hl hr =>
    have hk2 : k.length ≤ 8 ∧ k ≠ "" ∧ k ≠ "put" ∧ k ≠ "out" := by rcases hk with rfl | rfl <;> decide +kernel
    refine .inr (.inr ⟨⟨_, _, rfl, hk2.2.2⟩, two hk2.1 fun d hd => ?_, ?_, by simp only [List.length_cons]; omega⟩)
    · simp only [List.mem_cons] at hd
      rcases hd with rfl | rfl | rfl | hd
      · exact .name p hp
      · exact .side _ h1
      · exact .side _ h2
      · exact (hr d hd).th
    · rw [List.map_cons, List.map_cons, List.map_cons, List.map_cons, thT_word hk2.2.1, thT_name hp, thT_side h1, thT_side h2]
  | line p z v hp hz hv =>
    have hz2 : z.length ≤ 8 ∧ z ≠ "" := by rcases hz with rfl | rfl <;> decide +kernel
    refine .inr (.inr ⟨⟨_, _, rfl, by decide +kernel, by decide +kernel⟩, two (by decide) fun d hd => ?_, ?_, Nat.le_of_ble_eq_true rfl⟩)
    · simp only [List.mem_cons, List.not_mem_nil, or_false] at hd
      rcases hd with rfl | rfl | rfl
      · exact .name p hp
      · exact .str _ hz2.1
      · exact nn_th hv
    · rw [List.map_cons, List.map_cons, List.map_cons, List.map_cons, thT_word (by decide +kernel), thT_name hp, thT_word hz2.2]
      rfl
  | cell p a b z hp ha hb hz =>
    refine .inr (.inr ⟨⟨_, _, rfl, by decide +kernel, by decide +kernel⟩, two (by decide) fun d hd => ?_, ?_, Nat.le_of_ble_eq_true rfl⟩)
    · simp only [List.mem_cons, List.not_mem_nil, or_false] at hd
      rcases hd with rfl | rfl | rfl | rfl
      · exact .name p hp
      · exact .name a ha
      · exact .name b hb
      · exact .str _ hz
    · rw [List.map_cons, List.map_cons, List.map_cons, List.map_cons, List.map_cons, thT_word (by decide +kernel), thT_name hp, thT_name ha, thT_name hb]
      rfl
  | leave p w t y hp hw hw8 ht ht8 =>
    refine .inr (.inr ⟨⟨_, _, rfl, by decide +kernel, by decide +kernel⟩, two (by decide) fun d hd => ?_, ?_, Nat.le_of_ble_eq_true rfl⟩)
    · simp only [List.mem_cons, List.not_mem_nil, or_false] at hd
      rcases hd with rfl | rfl | rfl | rfl
      · exact .name p hp
      · exact .str _ hw8
      · exact .str _ ht8
      · exact .bl y
    · rw [List.map_cons, List.map_cons, List.map_cons, List.map_cons, List.map_cons, thT_word (by decide +kernel), thT_name hp, thT_word hw, thT_word ht]
      rfl
  | pour i r hl hr =>
    refine .inr (.inr ⟨⟨_, _, rfl, by decide +kernel, by decide +kernel⟩, two (by decide) fun d hd => ?_, ?_, Nat.le_of_ble_eq_true rfl⟩)
    · simp only [List.mem_cons, List.not_mem_nil, or_false] at hd
      rw [hd]
      exact .cnt i r hl hr
    · rw [List.map_cons, List.map_cons, thT_word (by decide +kernel)]
      rfl
  | few k r hk hl hr =>
    have hk2 : k.length ≤ 8 ∧ k ≠ "" ∧ k ≠ "put" ∧ k ≠ "out" := by rcases hk with rfl | rfl | rfl | rfl | rfl <;> decide +kernel
    refine .inr (.inr ⟨⟨_, _, rfl, hk2.2.2⟩, two hk2.1 fun d hd => (flat_th (hr d hd).1 (hr d hd).2).1, ?_, by rw [List.length_cons]; omega⟩)
    rw [List.map_cons, thT_word hk2.2.1]
    refine congrArg _ (List.map_congr_left fun x hx => ?_)
    exact (flat_th (hr x hx).1 (hr x hx).2).2.symm
theorem sum_le {ws : List Str} {c : Nat} (h : ∀ w ∈ ws, w.length ≤ c) : (ws.map (·.length)).sum ≤ c * ws.length := by
  induction ws with
  | nil => exact Nat.le_refl _
  | cons w ws ih =>
    have a := h w (by simp)
    have b := ih fun x hx => h x (List.mem_cons_of_mem _ hx)
    rw [List.map_cons, List.sum_cons, List.length_cons, Nat.mul_succ]
    omega
theorem Wt.len {ds : List PyData} {ws : List Str} (h : Wt ds ws) : ws.length ≤ 15 ∧ ∀ w ∈ ws, w.length ≤ 100 := by
  rcases h.plain with ⟨p, b, sg, _, rfl, hp, hb, hl, hs⟩ | ⟨p, ns, _, rfl, hp, hl, hs⟩ | ⟨_, h1, rfl, h3⟩
  · refine ⟨by rw [List.length_append, List.length_map]; show 3 + _ ≤ 15; omega, fun w hw => ?_⟩
    rcases List.mem_append.mp hw with hw | hw
    · simp only [List.mem_cons, List.not_mem_nil, or_false] at hw
      rcases hw with rfl | rfl | rfl
      · decide
      · exact Nat.le_trans (nmT_len hp) (by decide)
      · exact thT_len (nn_th hb)
    · obtain ⟨d, hd, rfl⟩ := List.mem_map.mp hw
      exact Nat.le_trans (sgT_len (hs d hd)) (by decide)
  · refine ⟨by rw [List.length_append, List.length_map]; show 2 + _ ≤ 15; omega, fun w hw => ?_⟩
    rcases List.mem_append.mp hw with hw | hw
    · simp only [List.mem_cons, List.not_mem_nil, or_false] at hw
      rcases hw with rfl | rfl
      · decide
      · exact Nat.le_trans (nmT_len hp) (by decide)
    · obtain ⟨d, hd, rfl⟩ := List.mem_map.mp hw
      exact Nat.le_trans (nmT_len (hs d hd)) (by decide)
  · refine ⟨by rw [List.length_map]; omega, fun w hw => ?_⟩
    obtain ⟨d, hd, rfl⟩ := List.mem_map.mp hw
    exact thT_len (h1 d hd)
theorem take_snoc {α : Type} {xs : List α} {j : Nat} {x : α} (h : xs[j]? = some x) : xs.take (j + 1) = xs.take j ++ [x] := by
  rw [List.take_succ, h]
  rfl
theorem lc_map {K : PySem.W.Frag} {a : Addr} {xs : List V} {own : List Str} {fr : List (Str × Nat)} {g : TG} {tt : TT} {te : TE} {σ : St} {H : Hp} {Q : VK} {ds : List PyData} (f : PyData → Str) (hq : H a = some (.tup xs)) (hx : DTs H xs ds) (hz : ds.length ≤ 100)
    (hs : ∀ x d H' (K1 : V → Hp → Prop) (K0 : Hp → Prop), d ∈ ds → DT H' x d → Same H H' → (∀ H4, Same H' H4 → K1 (.str (f d)) H4) →
      g x (compSt own fr σ) H' fun σ2 H2 => tt σ2 H2 fun b H3 => if b = true then te σ2 H3 K1 else K0 H3)
    (hd : ∀ H' p, Same H H' → H p = none → H' p = some (.lst ((ds.map f).map V.str)) → Q (.ref p) H') : LCb own fr g tt te σ Q (Itt K a) H := by
  have hl := dvs_len hx
  refine lc_tup (xs := xs) (Nat.le_of_lt (small1000 (by omega))) (fun i ys H' => ys = ((ds.map f).take i).map V.str ∧ Same H H') ⟨rfl, Same.refl H⟩ (fun _ _ H' q' => SqT.of (q'.2 _ _ hq)) (fun j x ys H' K1 K0 hxj qq k1 k0 => ?_) fun H' p ys P _ hp => ?_
  · obtain ⟨rfl, s⟩ := qq
    obtain ⟨d, ed, dv⟩ := dvs_get (DTs.same s hx) hxj
    refine hs x d H' K1 K0 (List.mem_of_getElem? ed) dv s fun H4 s4 => k1 _ _ ⟨?_, s.trans s4⟩
    rw [take_snoc (x := f d) (by rw [List.getElem?_map, ed]; rfl), List.map_append]
    rfl
  · obtain ⟨rfl, s⟩ := P
    rw [List.take_of_length_le (by rw [List.length_map, hl]; exact Nat.le_refl _)]
    exact hd _ p (s.trans (Same.new hp)) (s.free hp) upd_same
end L2
set_option maxHeartbeats 40000000
namespace My
open PySem L2 PyProof.Rows
def top (i : Nat) : Stmt := PySem.Challenge.pw_pagefolk_k07_deeds_shown.main.body.getD i (.Pass ⟨0, 0, 0, 0⟩)
abbrev s_fshown_name : Stmt := top 1
abbrev s_fshown_counts : Stmt := top 2
abbrev s_fshown_branch : Stmt := top 3
abbrev s_fshown_side : Stmt := top 4
abbrev s_fshown_sign : Stmt := top 5
abbrev s_fshown_text : Stmt := top 6
abbrev s_fshown_thing : Stmt := top 7
abbrev s_fwords_of : Stmt := top 8
abbrev s_fshown_deed : Stmt := top 9
abbrev s_f_law_draws : Stmt := top 11
abbrev s_f_law_word : Stmt := top 12
abbrev s_f_law_roll : Stmt := top 13
abbrev s_f_law_name : Stmt := top 14
abbrev s_f_law_part : Stmt := top 15
abbrev s_f_law_sign_name : Stmt := top 16
abbrev s_f_law_side : Stmt := top 17
abbrev s_f_law_sign : Stmt := top 18
abbrev s_f_law_signs : Stmt := top 19
abbrev s_f_law_sign_names : Stmt := top 20
abbrev s_f_law_what_of_signs : Stmt := top 21
abbrev s_f_law_what_of_marks : Stmt := top 22
abbrev s_f_law_what : Stmt := top 23
abbrev s_f_law_branch : Stmt := top 24
abbrev s_f_law_house : Stmt := top 25
abbrev s_f_law_shown_name : Stmt := top 26
abbrev s_f_law_shown_sign : Stmt := top 27
abbrev s_f_law_shown_side : Stmt := top 28
abbrev s_f_law_or_none : Stmt := top 29
abbrev s_f_law_shown_what : Stmt := top 30
abbrev s_f_law_shown : Stmt := top 31
abbrev s_flaw : Stmt := top 32
structure Adr where
  fshown_name : Addr
  fshown_named : FuncData
  fshown_counts : Addr
  fshown_countsd : FuncData
  fshown_branch : Addr
  fshown_branchd : FuncData
  fshown_side : Addr
  fshown_sided : FuncData
  fshown_sign : Addr
  fshown_signd : FuncData
  fshown_text : Addr
  fshown_textd : FuncData
  fshown_thing : Addr
  fshown_thingd : FuncData
  fwords_of : Addr
  fwords_ofd : FuncData
  fshown_deed : Addr
  fshown_deedd : FuncData
  f_law_draws : Addr
  f_law_drawsd : FuncData
  f_law_word : Addr
  f_law_wordd : FuncData
  f_law_roll : Addr
  f_law_rolld : FuncData
  f_law_name : Addr
  f_law_named : FuncData
  f_law_part : Addr
  f_law_partd : FuncData
  f_law_sign_name : Addr
  f_law_sign_named : FuncData
  f_law_side : Addr
  f_law_sided : FuncData
  f_law_sign : Addr
  f_law_signd : FuncData
  f_law_signs : Addr
  f_law_signsd : FuncData
  f_law_sign_names : Addr
  f_law_sign_namesd : FuncData
  f_law_what_of_signs : Addr
  f_law_what_of_signsd : FuncData
  f_law_what_of_marks : Addr
  f_law_what_of_marksd : FuncData
  f_law_what : Addr
  f_law_whatd : FuncData
  f_law_branch : Addr
  f_law_branchd : FuncData
  f_law_house : Addr
  f_law_housed : FuncData
  f_law_shown_name : Addr
  f_law_shown_named : FuncData
  f_law_shown_sign : Addr
  f_law_shown_signd : FuncData
  f_law_shown_side : Addr
  f_law_shown_sided : FuncData
  f_law_or_none : Addr
  f_law_or_noned : FuncData
  f_law_shown_what : Addr
  f_law_shown_whatd : FuncData
  f_law_shown : Addr
  f_law_shownd : FuncData
  flaw : Addr
  flawd : FuncData
structure Txt (K : PySem.W.Frag) (mg : Str → Option Value) (d : Adr) (tk : Str → Tok) : Prop where
  b_bool : mg "bool" = none
  b_enumerate : mg "enumerate" = none
  b_int : mg "int" = none
  b_isinstance : mg "isinstance" = none
  b_len : mg "len" = none
  b_list : mg "list" = none
  b_max : mg "max" = none
  b_range : mg "range" = none
  b_str : mg "str" = none
  b_tuple : mg "tuple" = none
  F_fshown_name : Fun K "shown_name" "shown_name" s_fshown_name d.fshown_name d.fshown_named
  m_fshown_name : mg "shown_name" = some (.ref d.fshown_name)
  k_fshown_name : PySem.W.keepIn K (.ref d.fshown_name) = true
  d_fshown_name : Binds K d.fshown_named ["name"] []
  F_fshown_counts : Fun K "shown_counts" "shown_counts" s_fshown_counts d.fshown_counts d.fshown_countsd
  m_fshown_counts : mg "shown_counts" = some (.ref d.fshown_counts)
  k_fshown_counts : PySem.W.keepIn K (.ref d.fshown_counts) = true
  d_fshown_counts : Binds K d.fshown_countsd ["counts"] []
  F_fshown_branch : Fun K "shown_branch" "shown_branch" s_fshown_branch d.fshown_branch d.fshown_branchd
  m_fshown_branch : mg "shown_branch" = some (.ref d.fshown_branch)
  k_fshown_branch : PySem.W.keepIn K (.ref d.fshown_branch) = true
  d_fshown_branch : Binds K d.fshown_branchd ["branch"] []
  F_fshown_side : Fun K "shown_side" "shown_side" s_fshown_side d.fshown_side d.fshown_sided
  m_fshown_side : mg "shown_side" = some (.ref d.fshown_side)
  k_fshown_side : PySem.W.keepIn K (.ref d.fshown_side) = true
  d_fshown_side : Binds K d.fshown_sided ["side"] []
  F_fshown_sign : Fun K "shown_sign" "shown_sign" s_fshown_sign d.fshown_sign d.fshown_signd
  m_fshown_sign : mg "shown_sign" = some (.ref d.fshown_sign)
  k_fshown_sign : PySem.W.keepIn K (.ref d.fshown_sign) = true
  d_fshown_sign : Binds K d.fshown_signd ["sign"] []
  F_fshown_text : Fun K "shown_text" "shown_text" s_fshown_text d.fshown_text d.fshown_textd
  m_fshown_text : mg "shown_text" = some (.ref d.fshown_text)
  k_fshown_text : PySem.W.keepIn K (.ref d.fshown_text) = true
  d_fshown_text : Binds K d.fshown_textd ["text"] []
  F_fshown_thing : Fun K "shown_thing" "shown_thing" s_fshown_thing d.fshown_thing d.fshown_thingd
  m_fshown_thing : mg "shown_thing" = some (.ref d.fshown_thing)
  k_fshown_thing : PySem.W.keepIn K (.ref d.fshown_thing) = true
  d_fshown_thing : Binds K d.fshown_thingd ["thing"] []
  F_fwords_of : Fun K "words_of" "words_of" s_fwords_of d.fwords_of d.fwords_ofd
  m_fwords_of : mg "words_of" = some (.ref d.fwords_of)
  k_fwords_of : PySem.W.keepIn K (.ref d.fwords_of) = true
  d_fwords_of : Binds K d.fwords_ofd ["what"] []
  F_fshown_deed : Fun K "shown_deed" "shown_deed" s_fshown_deed d.fshown_deed d.fshown_deedd
  m_fshown_deed : mg "shown_deed" = some (.ref d.fshown_deed)
  k_fshown_deed : PySem.W.keepIn K (.ref d.fshown_deed) = true
  d_fshown_deed : Binds K d.fshown_deedd ["deed"] []
  F_f_law_draws : Fun K "_law_draws" "_law_draws" s_f_law_draws d.f_law_draws d.f_law_drawsd
  m_f_law_draws : mg "_law_draws" = some (.ref d.f_law_draws)
  k_f_law_draws : PySem.W.keepIn K (.ref d.f_law_draws) = true
  d_f_law_draws : Binds K d.f_law_drawsd ["_law_cell", "_law_many"] []
  F_f_law_word : Fun K "_law_word" "_law_word" s_f_law_word d.f_law_word d.f_law_wordd
  m_f_law_word : mg "_law_word" = some (.ref d.f_law_word)
  k_f_law_word : PySem.W.keepIn K (.ref d.f_law_word) = true
  d_f_law_word : Binds K d.f_law_wordd ["_law_number"] []
  F_f_law_roll : Fun K "_law_roll" "_law_roll" s_f_law_roll d.f_law_roll d.f_law_rolld
  m_f_law_roll : mg "_law_roll" = some (.ref d.f_law_roll)
  k_f_law_roll : PySem.W.keepIn K (.ref d.f_law_roll) = true
  d_f_law_roll : Binds K d.f_law_rolld ["_law_cell"] []
  F_f_law_name : Fun K "_law_name" "_law_name" s_f_law_name d.f_law_name d.f_law_named
  m_f_law_name : mg "_law_name" = some (.ref d.f_law_name)
  k_f_law_name : PySem.W.keepIn K (.ref d.f_law_name) = true
  d_f_law_name : Binds K d.f_law_named ["_law_number", "_law_roll_here"] []
  F_f_law_part : Fun K "_law_part" "_law_part" s_f_law_part d.f_law_part d.f_law_partd
  m_f_law_part : mg "_law_part" = some (.ref d.f_law_part)
  k_f_law_part : PySem.W.keepIn K (.ref d.f_law_part) = true
  d_f_law_part : Binds K d.f_law_partd ["_law_number", "_law_roll_here"] []
  F_f_law_sign_name : Fun K "_law_sign_name" "_law_sign_name" s_f_law_sign_name d.f_law_sign_name d.f_law_sign_named
  m_f_law_sign_name : mg "_law_sign_name" = some (.ref d.f_law_sign_name)
  k_f_law_sign_name : PySem.W.keepIn K (.ref d.f_law_sign_name) = true
  d_f_law_sign_name : Binds K d.f_law_sign_named ["_law_number", "_law_roll_here"] []
  F_f_law_side : Fun K "_law_side" "_law_side" s_f_law_side d.f_law_side d.f_law_sided
  m_f_law_side : mg "_law_side" = some (.ref d.f_law_side)
  k_f_law_side : PySem.W.keepIn K (.ref d.f_law_side) = true
  d_f_law_side : Binds K d.f_law_sided ["_law_number", "_law_roll_here"] []
  F_f_law_sign : Fun K "_law_sign" "_law_sign" s_f_law_sign d.f_law_sign d.f_law_signd
  m_f_law_sign : mg "_law_sign" = some (.ref d.f_law_sign)
  k_f_law_sign : PySem.W.keepIn K (.ref d.f_law_sign) = true
  d_f_law_sign : Binds K d.f_law_signd ["_law_number", "_law_roll_here"] []
  F_f_law_signs : Fun K "_law_signs" "_law_signs" s_f_law_signs d.f_law_signs d.f_law_signsd
  m_f_law_signs : mg "_law_signs" = some (.ref d.f_law_signs)
  k_f_law_signs : PySem.W.keepIn K (.ref d.f_law_signs) = true
  d_f_law_signs : Binds K d.f_law_signsd ["_law_draws_here", "_law_roll_here"] []
  F_f_law_sign_names : Fun K "_law_sign_names" "_law_sign_names" s_f_law_sign_names d.f_law_sign_names d.f_law_sign_namesd
  m_f_law_sign_names : mg "_law_sign_names" = some (.ref d.f_law_sign_names)
  k_f_law_sign_names : PySem.W.keepIn K (.ref d.f_law_sign_names) = true
  d_f_law_sign_names : Binds K d.f_law_sign_namesd ["_law_draws_here", "_law_roll_here"] []
  F_f_law_what_of_signs : Fun K "_law_what_of_signs" "_law_what_of_signs" s_f_law_what_of_signs d.f_law_what_of_signs d.f_law_what_of_signsd
  m_f_law_what_of_signs : mg "_law_what_of_signs" = some (.ref d.f_law_what_of_signs)
  k_f_law_what_of_signs : PySem.W.keepIn K (.ref d.f_law_what_of_signs) = true
  d_f_law_what_of_signs : Binds K d.f_law_what_of_signsd ["_law_kind", "_law_more", "_law_roll_here"] []
  F_f_law_what_of_marks : Fun K "_law_what_of_marks" "_law_what_of_marks" s_f_law_what_of_marks d.f_law_what_of_marks d.f_law_what_of_marksd
  m_f_law_what_of_marks : mg "_law_what_of_marks" = some (.ref d.f_law_what_of_marks)
  k_f_law_what_of_marks : PySem.W.keepIn K (.ref d.f_law_what_of_marks) = true
  d_f_law_what_of_marks : Binds K d.f_law_what_of_marksd ["_law_kind", "_law_more", "_law_roll_here"] []
  F_f_law_what : Fun K "_law_what" "_law_what" s_f_law_what d.f_law_what d.f_law_whatd
  m_f_law_what : mg "_law_what" = some (.ref d.f_law_what)
  k_f_law_what : PySem.W.keepIn K (.ref d.f_law_what) = true
  d_f_law_what : Binds K d.f_law_whatd ["_law_draws_here", "_law_roll_here", "_law_number"] []
  F_f_law_branch : Fun K "_law_branch" "_law_branch" s_f_law_branch d.f_law_branch d.f_law_branchd
  m_f_law_branch : mg "_law_branch" = some (.ref d.f_law_branch)
  k_f_law_branch : PySem.W.keepIn K (.ref d.f_law_branch) = true
  d_f_law_branch : Binds K d.f_law_branchd ["_law_number", "_law_roll_here"] []
  F_f_law_house : Fun K "_law_house" "_law_house" s_f_law_house d.f_law_house d.f_law_housed
  m_f_law_house : mg "_law_house" = some (.ref d.f_law_house)
  k_f_law_house : PySem.W.keepIn K (.ref d.f_law_house) = true
  d_f_law_house : Binds K d.f_law_housed ["_law_script", "_law_most"] []
  F_f_law_shown_name : Fun K "_law_shown_name" "_law_shown_name" s_f_law_shown_name d.f_law_shown_name d.f_law_shown_named
  m_f_law_shown_name : mg "_law_shown_name" = some (.ref d.f_law_shown_name)
  k_f_law_shown_name : PySem.W.keepIn K (.ref d.f_law_shown_name) = true
  d_f_law_shown_name : Binds K d.f_law_shown_named ["_law_name_here"] []
  F_f_law_shown_sign : Fun K "_law_shown_sign" "_law_shown_sign" s_f_law_shown_sign d.f_law_shown_sign d.f_law_shown_signd
  m_f_law_shown_sign : mg "_law_shown_sign" = some (.ref d.f_law_shown_sign)
  k_f_law_shown_sign : PySem.W.keepIn K (.ref d.f_law_shown_sign) = true
  d_f_law_shown_sign : Binds K d.f_law_shown_signd ["_law_sign_here"] []
  F_f_law_shown_side : Fun K "_law_shown_side" "_law_shown_side" s_f_law_shown_side d.f_law_shown_side d.f_law_shown_sided
  m_f_law_shown_side : mg "_law_shown_side" = some (.ref d.f_law_shown_side)
  k_f_law_shown_side : PySem.W.keepIn K (.ref d.f_law_shown_side) = true
  d_f_law_shown_side : Binds K d.f_law_shown_sided ["_law_side_here"] []
  F_f_law_or_none : Fun K "_law_or_none" "_law_or_none" s_f_law_or_none d.f_law_or_none d.f_law_or_noned
  m_f_law_or_none : mg "_law_or_none" = some (.ref d.f_law_or_none)
  k_f_law_or_none : PySem.W.keepIn K (.ref d.f_law_or_none) = true
  d_f_law_or_none : Binds K d.f_law_or_noned ["_law_thing"] []
  F_f_law_shown_what : Fun K "_law_shown_what" "_law_shown_what" s_f_law_shown_what d.f_law_shown_what d.f_law_shown_whatd
  m_f_law_shown_what : mg "_law_shown_what" = some (.ref d.f_law_shown_what)
  k_f_law_shown_what : PySem.W.keepIn K (.ref d.f_law_shown_what) = true
  d_f_law_shown_what : Binds K d.f_law_shown_whatd ["_law_what_here"] []
  F_f_law_shown : Fun K "_law_shown" "_law_shown" s_f_law_shown d.f_law_shown d.f_law_shownd
  m_f_law_shown : mg "_law_shown" = some (.ref d.f_law_shown)
  k_f_law_shown : PySem.W.keepIn K (.ref d.f_law_shown) = true
  d_f_law_shown : Binds K d.f_law_shownd ["_law_deed"] []
  F_flaw : Fun K "law" "law" s_flaw d.flaw d.flawd
  m_flaw : mg "law" = some (.ref d.flaw)
  k_flaw : PySem.W.keepIn K (.ref d.flaw) = true
  d_flaw : Binds K d.flawd ["_law_script"] []
theorem itT {c : Bool} {A B : Prop} (h : c = true) (a : A) : if c = true then A else B := by rw [if_pos h]; exact a
theorem itF {c : Bool} {A B : Prop} (h : c = false) (b : B) : if c = true then A else B := by rw [if_neg (by rw [h]; decide)]; exact b
theorem big {n : Nat} (h : n ≤ 1000) : n ≤ sizeLine := Nat.le_of_lt (small1000 h)
def sp_fshown_name (_ : PySem.W.Frag) : Sp := fun vs H Q _ => ∃ v ds, vs = [v] ∧ DT H v (.tuple ds) ∧ NmOk ds ∧ ∀ H', Same H H' → Q (.str (nmT ds)) H'
def sp_f_law_shown_name (_ : PySem.W.Frag) : Sp := fun vs H Q _ => ∃ v ds, vs = [v] ∧ DT H v (.tuple ds) ∧ NmOk ds ∧ ∀ H', Same H H' → Q (.str (nmT ds)) H'
def sp_fshown_counts (_ : PySem.W.Frag) : Sp := fun vs H Q _ => ∃ v ds, vs = [v] ∧ DT H v (.tuple ds) ∧ ds.length ≤ 10 ∧ (∀ d ∈ ds, Flat1 d) ∧ ∀ H', Same H H' → Q (.str (Txt.join "," (ds.map strD))) H'
theorem len_fshown_name {K : PySem.W.Frag} {vs : List V} {H : Hp} {Q : VK} {E : XK} (h : sp_fshown_name K vs H Q E) : vs.length = 1 := by obtain ⟨_, _, rfl, _⟩ := h; rfl
theorem len_f_law_shown_name {K : PySem.W.Frag} {vs : List V} {H : Hp} {Q : VK} {E : XK} (h : sp_f_law_shown_name K vs H Q E) : vs.length = 1 := by obtain ⟨_, _, rfl, _⟩ := h; rfl
theorem len_fshown_counts {K : PySem.W.Frag} {vs : List V} {H : Hp} {Q : VK} {E : XK} (h : sp_fshown_counts K vs H Q E) : vs.length = 1 := by obtain ⟨_, _, rfl, _⟩ := h; rfl
def sp_fshown_branch (_ : PySem.W.Frag) : Sp := fun vs H Q _ => ∃ v d, vs = [v] ∧ DT H v d ∧ BrOk d ∧ ∀ H', Same H H' → Q (.str (brT d)) H'
def sp_fshown_side (_ : PySem.W.Frag) : Sp := fun vs H Q _ => ∃ v d, vs = [v] ∧ DT H v d ∧ SiOk d ∧ ∀ H', Same H H' → Q (.str (siT d)) H'
def sp_f_law_shown_side (_ : PySem.W.Frag) : Sp := fun vs H Q _ => ∃ v d, vs = [v] ∧ DT H v d ∧ SiOk d ∧ ∀ H', Same H H' → Q (.str (siT d)) H'
def sp_fshown_sign (_ : PySem.W.Frag) : Sp := fun vs H Q _ => ∃ v d, vs = [v] ∧ DT H v d ∧ SgOk d ∧ ∀ H', Same H H' → Q (.str (sgT d)) H'
def sp_f_law_shown_sign (_ : PySem.W.Frag) : Sp := fun vs H Q _ => ∃ v d, vs = [v] ∧ DT H v d ∧ SgOk d ∧ ∀ H', Same H H' → Q (.str (sgT d)) H'
def sp_fshown_text (_ : PySem.W.Frag) : Sp := fun vs H Q _ => ∃ z : Str, vs = [.str z] ∧ Q (.str (if z = "" then "!" else z)) H
section
variable {K : PySem.W.Frag} {vs : List V} {H : Hp} {Q : VK} {E : XK}
theorem len_fshown_branch (h : sp_fshown_branch K vs H Q E) : vs.length = 1 := by obtain ⟨_, _, rfl, _⟩ := h; rfl
theorem len_fshown_side (h : sp_fshown_side K vs H Q E) : vs.length = 1 := by obtain ⟨_, _, rfl, _⟩ := h; rfl
theorem len_f_law_shown_side (h : sp_f_law_shown_side K vs H Q E) : vs.length = 1 := by obtain ⟨_, _, rfl, _⟩ := h; rfl
theorem len_fshown_sign (h : sp_fshown_sign K vs H Q E) : vs.length = 1 := by obtain ⟨_, _, rfl, _⟩ := h; rfl
theorem len_f_law_shown_sign (h : sp_f_law_shown_sign K vs H Q E) : vs.length = 1 := by obtain ⟨_, _, rfl, _⟩ := h; rfl
theorem len_fshown_text (h : sp_fshown_text K vs H Q E) : vs.length = 1 := by obtain ⟨_, rfl, _⟩ := h; rfl
end
def sp_fshown_thing (_ : PySem.W.Frag) : Sp := fun vs H Q _ => ∃ v d, vs = [v] ∧ DT H v d ∧ ThOk d ∧ ∀ H', Same H H' → Q (.str (thT d)) H'
inductive OnOk : PyData → Prop
  | non : OnOk .none
  | str (z : Str) : z ≠ "" → OnOk (.str z)
  | name (ds : List PyData) : NmOk ds → OnOk (.tuple ds)
def sp_f_law_or_none (_ : PySem.W.Frag) : Sp := fun vs H Q _ => ∃ v d, vs = [v] ∧ DT H v d ∧ OnOk d ∧ ∀ H', Same H H' → Q (.str (thT d)) H'
theorem len_fshown_thing {K : PySem.W.Frag} {vs : List V} {H : Hp} {Q : VK} {E : XK} (h : sp_fshown_thing K vs H Q E) : vs.length = 1 := by obtain ⟨_, _, rfl, _⟩ := h; rfl
theorem len_f_law_or_none {K : PySem.W.Frag} {vs : List V} {H : Hp} {Q : VK} {E : XK} (h : sp_f_law_or_none K vs H Q E) : vs.length = 1 := by obtain ⟨_, _, rfl, _⟩ := h; rfl
def sp_fwords_of (_ : PySem.W.Frag) : Sp := fun vs H Q _ => ∃ v ds ws, vs = [v] ∧ DT H v (.tuple ds) ∧ Wt ds ws ∧ ∀ H' p, Same H H' → H' p = some (.lst (ws.map V.str)) → Q (.ref p) H'
def sp_f_law_shown_what (_ : PySem.W.Frag) : Sp := fun vs H Q _ => ∃ v ds ws, vs = [v] ∧ DT H v (.tuple ds) ∧ Wt ds ws ∧ ∀ H' p, Same H H' → H' p = some (.lst (ws.map V.str)) → Q (.ref p) H'
theorem len_fwords_of {K : PySem.W.Frag} {vs : List V} {H : Hp} {Q : VK} {E : XK} (h : sp_fwords_of K vs H Q E) : vs.length = 1 := by obtain ⟨_, _, _, rfl, _⟩ := h; rfl
theorem len_f_law_shown_what {K : PySem.W.Frag} {vs : List V} {H : Hp} {Q : VK} {E : XK} (h : sp_f_law_shown_what K vs H Q E) : vs.length = 1 := by obtain ⟨_, _, _, rfl, _⟩ := h; rfl
theorem ne_t {k w : Str} (h : k ≠ w) : decide (V.str k = V.str w) = false := decide_eq_false fun z => h (V.str.inj z)
theorem nn_on {b : PyData} (h : b = .none ∨ ∃ n, b = .tuple n ∧ NmOk n) : OnOk b := by
  rcases h with rfl | ⟨n, rfl, hn⟩
  · exact .non
  · exact .name n hn
theorem wn_on {d : PyData} (h : WnOk d) : OnOk d := by
  rcases h with rfl | ⟨z, rfl, hz, _⟩
  · exact .non
  · exact .str z hz
theorem or_two {k a b : Str} {A B C : Prop} (h : k = a ∨ k = b) (l : (if decide (V.str k = V.str b) = true then B else C) → A) (r : B) : if decide (V.str k = V.str a) = true then (if true = true then B else C) else A := by
  by_cases e : k = a
  · rw [if_pos (decide_eq_true (by rw [e])), if_pos rfl]; exact r
  · rw [if_neg (by rw [ne_t e]; decide)]
    refine l ?_
    rw [if_pos (decide_eq_true (by rw [h.resolve_left e]))]; exact r
def ddT (w : Str) (n : Int) (hs : List PyData) (b : PyData) (ws : List Str) : Str := Txt.join " " (([w, toString n, Txt.join "," (hs.map strD), brT b] : List Str) ++ ws)
structure DeOk (H : Hp) (v : V) (w : Str) (n : Int) (hs : List PyData) (b : PyData) (ws : List Str) : Prop where
  at' : ∃ q hq vb vx ds, v = .ref q ∧ H q = some (.tup [.str w, .int n, hq, vb, vx]) ∧ DT H hq (.tuple hs) ∧ DT H vb b ∧ DT H vx (.tuple ds) ∧ Wt ds ws
  wl : w.length ≤ 8
  nn : Nb n
  hl : hs.length ≤ 10
  hf : ∀ d ∈ hs, Flat1 d
  bo : BrOk b
def sp_fshown_deed (_ : PySem.W.Frag) : Sp := fun vs H Q _ => ∃ v w n hs b ws, vs = [v] ∧ DeOk H v w n hs b ws ∧ ∀ H', Same H H' → Q (.str (ddT w n hs b ws)) H'
def sp_f_law_shown (_ : PySem.W.Frag) : Sp := fun vs H Q _ => ∃ v w n hs b ws, vs = [v] ∧ DeOk H v w n hs b ws ∧ ∀ H', Same H H' → Q (.str (ddT w n hs b ws)) H'
theorem len_fshown_deed {K : PySem.W.Frag} {vs : List V} {H : Hp} {Q : VK} {E : XK} (h : sp_fshown_deed K vs H Q E) : vs.length = 1 := by obtain ⟨_, _, _, _, _, _, rfl, _⟩ := h; rfl
theorem len_f_law_shown {K : PySem.W.Frag} {vs : List V} {H : Hp} {Q : VK} {E : XK} (h : sp_f_law_shown K vs H Q E) : vs.length = 1 := by obtain ⟨_, _, _, _, _, _, rfl, _⟩ := h; rfl
theorem log_nb {n : Int} (h : Nb n) : n.natAbs.log2 < 1920 := ((flat_V (H := fun _ => none) (DT.int n) (.inr ⟨n, rfl, h⟩)).1.resolve_left (fun ⟨_, e⟩ => nomatch e)).elim fun i e => by
  obtain ⟨e, h⟩ := e
  cases e
  exact h
theorem brT_len {b : PyData} (h : BrOk b) : (brT b).length ≤ 100 := by
  rcases h with rfl | ⟨a, c, rfl, ha, hc⟩
  · decide
  · have q := join_len "." [a, c]
    have e1 : ("." : Str).length = 1 := rfl
    rw [e1] at q
    have q2 : (List.map (fun x => x.length) [a, c]).sum = a.length + (c.length + 0) := rfl
    rw [q2] at q
    show (Txt.join "." [a, c]).length ≤ 100
    have q3 : [a, c].length = 2 := rfl
    omega
theorem dd_len {w : Str} {n : Int} {hs : List PyData} {b : PyData} {ws : List Str} (h1 : w.length ≤ 8) (h2 : Nb n) (h3 : hs.length ≤ 10) (h4 : ∀ d ∈ hs, Flat1 d) (h5 : BrOk b) (h6 : ws.length ≤ 15 ∧ ∀ w ∈ ws, w.length ≤ 100) :
    ((([w, toString n, Txt.join "," (hs.map strD), brT b] : List Str) ++ ws).map (·.length)).sum + (([w, toString n, Txt.join "," (hs.map strD), brT b] : List Str) ++ ws).length * (" " : Str).length ≤ 16777216 := by
  have a := sum_le (ws := ([w, toString n, Txt.join "," (hs.map strD), brT b] : List Str) ++ ws) (c := 100) fun x hx => by
    rcases List.mem_append.mp hx with hx | hx
    · simp only [List.mem_cons, List.not_mem_nil, or_false] at hx
      rcases hx with rfl | rfl | rfl | rfl
      · omega
      · exact Nat.le_trans (strD_len (d := .int n) (.inr ⟨n, rfl, h2⟩)) (by decide)
      · exact cnt_len h3 h4
      · exact brT_len h5
    · exact h6.2 x hx
  have e1 : (" " : Str).length = 1 := rfl
  have hl : (([w, toString n, Txt.join "," (hs.map strD), brT b] : List Str) ++ ws).length = 4 + ws.length := by rw [List.length_append]; rfl
  rw [hl] at a ⊢
  rw [e1]
  have := h6.1
  omega
theorem br_join (a c : Str) : Txt.join "." [a, c] = a ++ "." ++ c := by
  show Builtin.Str.glued "." [a, c] = _
  unfold Builtin.Str.glued
  rfl
theorem name_ok {ws : List Str} (hw : ∀ w ∈ ws, IsW w) {ds : List PyData} (h : NameD ws ds) : NmOk ds := by
  obtain ⟨w, n, rfl, hm, h1, h2⟩ := h
  refine .inr ⟨w, [.int n], rfl, isW_ne (hw w hm), isW_strOk (hw w hm), isW_len (hw w hm), (Nat.le_of_ble_eq_true rfl), fun x hx => ?_⟩
  rw [List.mem_singleton.mp hx]
  exact ⟨n, rfl, by omega, by omega⟩
theorem part_ok {ws : List Str} (hw : ∀ w ∈ ws, IsW w) {ds : List PyData} (h : PartD ws ds) : NmOk ds := h.elim .inl (name_ok hw)
theorem sn_ok {ws : List Str} (hw : ∀ w ∈ ws, IsW w) {ds : List PyData} (h : SnD ws ds) : NmOk ds := by
  obtain ⟨w, n, i, rfl, hm, h1, h2, h3, h4⟩ := h
  refine .inr ⟨w, [.int n, .int i], rfl, isW_ne (hw w hm), isW_strOk (hw w hm), isW_len (hw w hm), (Nat.le_of_ble_eq_true rfl), fun x hx => ?_⟩
  simp only [List.mem_cons, List.not_mem_nil, or_false] at hx
  rcases hx with rfl | rfl
  · exact ⟨n, rfl, by omega, by omega⟩
  · exact ⟨i, rfl, by omega, by omega⟩
theorem side_ok {ws : List Str} (hw : ∀ w ∈ ws, IsW w) {d : PyData} (h : SideD ws d) : SiOk d := by
  obtain ⟨ds, z, rfl, h1, h2⟩ := h
  exact ⟨ds, z, rfl, sn_ok hw h1, h2⟩
theorem abc_strOk : ∀ c ∈ ("abcdefghijklmnopqrstuvwxyz .," : Str).cps.toList, PyData.strOk ⟨#[c]⟩ = true := by decide +kernel
theorem sign_ok {ws : List Str} (hw : ∀ w ∈ ws, IsW w) {d : PyData} (h : SignD ws d) : SgOk d := by
  rcases h with ⟨c, rfl, hc⟩ | ⟨z, rfl, hz⟩ | ⟨ds, rfl, hd⟩
  · exact .inl ⟨_, rfl, by show 1 ≤ 8; decide, abc_strOk c hc⟩
  · exact .inr (.inl ⟨z, rfl, isW_len hz, isW_strOk hz⟩)
  · exact .inr (.inr ⟨ds, rfl, part_ok hw hd⟩)
theorem or_ok {P : List PyData → Prop} {b : PyData} (hP : ∀ n, P n → NmOk n) (h : OrD P b) : b = .none ∨ ∃ n, b = .tuple n ∧ NmOk n := by
  rcases h with rfl | ⟨n, rfl, hn⟩
  · exact .inl rfl
  · exact .inr ⟨n, rfl, hP n hn⟩
theorem wn_ok {d : PyData} (h : WnD d) : WnOk d := by
  rcases h with rfl | ⟨z, rfl, hz⟩
  · exact .inl rfl
  · exact .inr ⟨z, rfl, isW_ne hz, isW_len hz⟩
theorem all1 {α : Type} {P : α → Prop} {a : α} (h : P a) : ∀ x ∈ [a], P x := fun x hx => by rw [List.mem_singleton.mp hx]; exact h
theorem all2 {α : Type} {P : α → Prop} {a b : α} (h : P a) (h2 : P b) : ∀ x ∈ [a, b], P x := fun x hx => by
  simp only [List.mem_cons, List.not_mem_nil, or_false] at hx
  rcases hx with rfl | rfl
  · exact h
  · exact h2
theorem what_wt {ws : List Str} (hw : ∀ w ∈ ws, IsW w) (h1 : 1 ≤ ws.length) (h6 : ws.length ≤ 6) {num : Int} (hn : num ≤ 1000000) {wt : List PyData} (h : WhatD ws num wt) : ∃ wds, Wt wt wds := by
  cases h with
  | nothing => exact ⟨_, .few "nothing" [] (by simp) (by decide) fun _ z => nomatch z⟩
  | part p hp => exact ⟨_, .names "part" [p] (by simp) (Nat.le_of_ble_eq_true rfl) (all1 (part_ok hw hp))⟩
  | move n p h1 h2 => exact ⟨_, .names "move" [n, p] (by simp) (Nat.le_of_ble_eq_true rfl) (all2 (name_ok hw h1) (part_ok hw h2))⟩
  | cut n h1 => exact ⟨_, .names "cut" [n] (by simp) (Nat.le_of_ble_eq_true rfl) (all1 (name_ok hw h1))⟩
  | strike p n h1 h2 => exact ⟨_, .names "strike" [p, n] (by simp) (Nat.le_of_ble_eq_true rfl) (all2 (part_ok hw h1) (name_ok hw h2))⟩
  | put p b sg h1 h2 h3 h4 h5 => exact ⟨_, .put p b sg (part_ok hw h1) (or_ok (fun _ => sn_ok hw) h2) h4 fun d hd => sign_ok hw (h5 d hd)⟩
  | out p ns h1 h2 h3 h4 h5 => exact ⟨_, .out p ns (part_ok hw h1) h3 fun n hn => sn_ok hw (h4 n hn)⟩
  | mark p s1 s2 z v h1 h2 h3 h4 h5 => exact ⟨_, .mark "mark" p s1 s2 [.str z, v] (.inl rfl) (part_ok hw h1) (side_ok hw h2) (side_ok hw h3) (Nat.le_of_ble_eq_true rfl) (all2 (.inr ⟨z, rfl, isW_ne h4, isW_len h4⟩) (wn_ok h5))⟩
  | note p s1 s2 z h1 h2 h3 h4 => exact ⟨_, .mark "note" p s1 s2 [.str z] (.inr rfl) (part_ok hw h1) (side_ok hw h2) (side_ok hw h3) (Nat.le_of_ble_eq_true rfl) (all1 (.inr ⟨z, rfl, isW_ne h4, isW_len h4⟩))⟩
  | line p z v h1 h2 h3 => exact ⟨_, .line p z v (part_ok hw h1) h2 (or_ok (fun _ => name_ok hw) h3)⟩
  | cell p a b z h1 h2 h3 h4 => exact ⟨_, .cell p a b z (part_ok hw h1) (name_ok hw h2) (name_ok hw h3) (by rcases h4 with rfl | h4; decide; exact isW_len h4)⟩
  | leave p w t y h1 h2 h3 => exact ⟨_, .leave p w t y (part_ok hw h1) (isW_ne (hw w h2)) (isW_len (hw w h2)) (by revert t; decide +kernel) (by revert t; decide +kernel)⟩
  | back k n h1 h2 h3 => exact ⟨_, .few k [.int n] (by rcases h1 with rfl | rfl <;> simp) (Nat.le_of_ble_eq_true rfl) (all1 ⟨.inr ⟨n, rfl, by omega, by omega⟩, fun z => nomatch z⟩)⟩
  | bring k z h1 h2 => exact ⟨_, .few k [.str z] (by rcases h1 with rfl | rfl <;> simp) (Nat.le_of_ble_eq_true rfl) (all1 ⟨.inl ⟨z, rfl, isW_len h2⟩, fun e => isW_ne h2 (PyData.str.inj e)⟩)⟩
  | pour cs h2 h3 =>
    cases cs with
    | nil => rw [← h2] at h1; exact absurd h1 (by decide)
    | cons c cs =>
      rw [List.length_cons] at h2
      refine ⟨_, .pour c (cs.map .int) (by rw [List.length_map]; omega) fun x hx => ?_⟩
      obtain ⟨i, hi, rfl⟩ := List.mem_map.mp (show x ∈ (c :: cs).map PyData.int from hx)
      exact .inr ⟨i, rfl, (h3 i hi).1, by have := (h3 i hi).2; omega⟩
theorem cov_len {m : Nat} {ds : List Hs.Dd} {row : List Nat} (c : Hs.Cov m ds row) {j : Nat} (hj : j < m) : Hs.at0 row j ≤ ds.length := by
  have := nodup_len (S := (List.range (Hs.at0 row j)).map fun k => (j, k + 1)) (ws := ds.map fun e => (e.who, e.num)) ?_ ?_
  · simpa using this
  · rw [List.nodup_iff_pairwise_ne, List.pairwise_map]
    exact List.nodup_range.imp (fun h e => h (by simpa using e))
  · intro x hx
    obtain ⟨k, hk, rfl⟩ := List.mem_map.mp hx
    have hk := List.mem_range.mp hk
    obtain ⟨e, he, e1, e2, _⟩ := c j (k + 1) hj (by omega) (by omega)
    exact List.mem_map.mpr ⟨e, he, by rw [e1, e2]⟩
theorem num_len {m : Nat} {ds : List Hs.Dd} (W : Hs.Wh m ds) {d : Hs.Dd} (hd : d ∈ ds) : 1 ≤ d.num ∧ d.num ≤ ds.length + 1 := by
  have a := cov_len (W.past d hd) (W.who d hd)
  have b := W.own d hd
  omega
theorem deed_ok {H : Hp} {ws : List Str} (hw : ∀ w ∈ ws, IsW w) (h1 : 1 ≤ ws.length) (h6 : ws.length ≤ 6) {v : V} {ds : List Hs.Dd} {d : Hs.Dd} (W : Hs.Wh ws.length ds) (hl : ds.length ≤ 63) (hm : d ∈ ds) (h : Hs.DeedAt H ws v d) (hb : BrD ws d.br) (hx : WhatD ws d.num d.wt) :
    ∃ w wds, ws[d.who]? = some w ∧ DeOk H v w d.num (d.hd.map fun (n : Nat) => PyData.int n) d.br wds := by
  obtain ⟨q, w, hq, b, x, rfl, e1, e2, e3, e4, e5⟩ := h
  have hn := num_len W hm
  obtain ⟨wds, hwd⟩ := what_wt hw h1 h6 (num := d.num) (by omega) hx
  have hww := hw w (List.mem_of_getElem? e1)
  refine ⟨w, wds, e1, ⟨⟨q, .ref hq, b, x, d.wt, rfl, e2, .tup e3 ?_, e4, e5, hwd⟩, isW_len hww, ⟨by omega, by omega⟩, ?_, fun y hy => ?_, ?_⟩⟩
  · have := dts_ints H (d.hd.map fun (n : Nat) => (n : Int))
    rw [List.map_map, List.map_map] at this
    exact this
  · rw [List.length_map, W.len d hm]; omega
  · obtain ⟨n, hn', rfl⟩ := List.mem_map.mp hy
    refine .inr ⟨n, rfl, by omega, ?_⟩
    obtain ⟨j, hj, e⟩ := List.mem_iff_getElem.mp hn'
    have := cov_len (W.past d hm) (j := j) (by rw [← W.len d hm]; exact hj)
    have e9 : Hs.at0 d.hd j = n := by
      unfold Hs.at0
      rw [List.getD_eq_getElem?_getD, List.getElem?_eq_getElem hj, e]; rfl
    omega
  · rcases hb with hb | ⟨a, c, hb, ha, hc⟩
    · exact .inl hb
    · exact .inr ⟨a, c, hb, isW_len (hw a ha), isW_len hc⟩
theorem DeOk.same {H H' : Hp} {v : V} {w : Str} {n : Int} {hs : List PyData} {b : PyData} {ws : List Str} (h : DeOk H v w n hs b ws) (s : Same H H') : DeOk H' v w n hs b ws := by
  obtain ⟨⟨q, hq, vb, vx, ds, e, e1, e2, e3, e4, e5⟩, h1, h2, h3, h4, h5⟩ := h
  exact ⟨⟨q, hq, vb, vx, ds, e, s _ _ e1, e2.same s, e3.same s, e4.same s, e5⟩, h1, h2, h3, h4, h5⟩
theorem join3 (a b c : Str) : Txt.join "." [a, b, c] = a ++ "." ++ b ++ "." ++ c := by
  show Builtin.Str.glued "." [a, b, c] = _
  unfold Builtin.Str.glued
  rfl
theorem nm2 {w : Str} (h : w ≠ "") (n : Int) : nmT [.str w, .int n] = w ++ "." ++ toString n := by
  rw [nm_join h]
  exact br_join _ _
theorem nm3 {w : Str} (h : w ≠ "") (n m : Int) : nmT [.str w, .int n, .int m] = w ++ "." ++ toString n ++ "." ++ toString m := by
  rw [nm_join h]
  exact join3 _ _ _
theorem nn2 {w : Str} (h : IsW w) {n : Int} (hn : Nb n) : NmOk [.str w, .int n] := .inr ⟨w, [.int n], rfl, isW_ne h, isW_strOk h, isW_len h, (Nat.le_of_ble_eq_true rfl), all1 ⟨n, rfl, hn⟩⟩
theorem nn3 {w : Str} (h : IsW w) {n m : Int} (hn : Nb n) (hm : Nb m) : NmOk [.str w, .int n, .int m] := .inr ⟨w, [.int n, .int m], rfl, isW_ne h, isW_strOk h, isW_len h, (Nat.le_of_ble_eq_true rfl), all2 ⟨n, rfl, hn⟩ ⟨m, rfl, hm⟩⟩
def sp_flaw (K : PySem.W.Frag) : Sp := fun vs H Q _ => ∃ sp ns, vs = [.ref sp] ∧ SqL K H sp (List.map V.int ns) ∧ ns.length ≤ 63 ∧ ∀ H', Same H H' → Q (.bl true) H'
theorem len_flaw {K : PySem.W.Frag} {vs : List V} {H : Hp} {Q : VK} {E : XK} (h : sp_flaw K vs H Q E) : vs.length = 1 := by obtain ⟨_, _, rfl, _⟩ := h; rfl
theorem law_spec : ∀ (K : PySem.W.Frag) (H : Hp) (a : Addr) (ns : List Int), ns.length ≤ 63 → Only H → SqL K H a (ns.map V.int) → sp_flaw K [.ref a] H (fun v _ => v = .bl true) fun _ _ _ => False :=
  fun K H a ns h1 _ h3 => ⟨a, ns, rfl, h3, h1, fun _ _ => rfl⟩
theorem len_ok {n : Nat} (h : n ≤ 1000) : n ≤ sizeLine := Nat.le_of_lt (small1000 h)
theorem sc_fshown_name : FnScope ["name"] ["name"] (defScope s_fshown_name) := ⟨rfl, rfl, rfl, by decide +kernel, rfl, by decide +kernel, by decide +kernel⟩
theorem sc_fshown_counts : FnScope ["counts"] ["counts"] (defScope s_fshown_counts) := ⟨rfl, rfl, rfl, by decide +kernel, rfl, by decide +kernel, by decide +kernel⟩
theorem sc_fshown_branch : FnScope ["branch"] ["branch"] (defScope s_fshown_branch) := ⟨rfl, rfl, rfl, by decide +kernel, rfl, by decide +kernel, by decide +kernel⟩
theorem sc_fshown_text : FnScope ["text"] ["text"] (defScope s_fshown_text) := ⟨rfl, rfl, rfl, by decide +kernel, rfl, by decide +kernel, by decide +kernel⟩
theorem sc_f_law_draws : FnScope ["_law_cell", "_law_many", "_law_found", "_law_digits", "_law_k", "_law_number", "_law_mixed"] ["_law_cell", "_law_many"] (defScope s_f_law_draws) := ⟨rfl, rfl, rfl, by decide +kernel, rfl, by decide +kernel, by decide +kernel⟩
theorem sc_f_law_word : FnScope ["_law_number", "_law_word_here", "_law_many", "_law_k"] ["_law_number"] (defScope s_f_law_word) := ⟨rfl, rfl, rfl, by decide +kernel, rfl, by decide +kernel, by decide +kernel⟩
theorem sc_f_law_name : FnScope ["_law_number", "_law_roll_here", "_law_more"] ["_law_number", "_law_roll_here"] (defScope s_f_law_name) := ⟨rfl, rfl, rfl, by decide +kernel, rfl, by decide +kernel, by decide +kernel⟩
theorem sc_f_law_shown_name : FnScope ["_law_name_here"] ["_law_name_here"] (defScope s_f_law_shown_name) := ⟨rfl, rfl, rfl, by decide +kernel, rfl, by decide +kernel, by decide +kernel⟩
theorem sc_fshown_side : FnScope ["side"] ["side"] (defScope s_fshown_side) := ⟨rfl, rfl, rfl, by decide +kernel, rfl, by decide +kernel, by decide +kernel⟩
theorem sc_fshown_sign : FnScope ["sign"] ["sign"] (defScope s_fshown_sign) := ⟨rfl, rfl, rfl, by decide +kernel, rfl, by decide +kernel, by decide +kernel⟩
theorem sc_f_law_roll : FnScope ["_law_cell", "_law_draws_here", "_law_roll_here", "_law_k", "_law_word_here", "_law_letter"] ["_law_cell"] (defScope s_f_law_roll) := ⟨rfl, rfl, rfl, by decide +kernel, rfl, by decide +kernel, by decide +kernel⟩
theorem sc_f_law_part : FnScope ["_law_number", "_law_roll_here"] ["_law_number", "_law_roll_here"] (defScope s_f_law_part) := ⟨rfl, rfl, rfl, by decide +kernel, rfl, by decide +kernel, by decide +kernel⟩
theorem sc_f_law_sign_name : FnScope ["_law_number", "_law_roll_here"] ["_law_number", "_law_roll_here"] (defScope s_f_law_sign_name) := ⟨rfl, rfl, rfl, by decide +kernel, rfl, by decide +kernel, by decide +kernel⟩
theorem sc_f_law_branch : FnScope ["_law_number", "_law_roll_here"] ["_law_number", "_law_roll_here"] (defScope s_f_law_branch) := ⟨rfl, rfl, rfl, by decide +kernel, rfl, by decide +kernel, by decide +kernel⟩
theorem sc_f_law_shown_sign : FnScope ["_law_sign_here"] ["_law_sign_here"] (defScope s_f_law_shown_sign) := ⟨rfl, rfl, rfl, by decide +kernel, rfl, by decide +kernel, by decide +kernel⟩
theorem sc_f_law_shown_side : FnScope ["_law_side_here"] ["_law_side_here"] (defScope s_f_law_shown_side) := ⟨rfl, rfl, rfl, by decide +kernel, rfl, by decide +kernel, by decide +kernel⟩
theorem sc_f_law_or_none : FnScope ["_law_thing"] ["_law_thing"] (defScope s_f_law_or_none) := ⟨rfl, rfl, rfl, by decide +kernel, rfl, by decide +kernel, by decide +kernel⟩
theorem sc_fshown_thing : FnScope ["thing"] ["thing"] (defScope s_fshown_thing) := ⟨rfl, rfl, rfl, by decide +kernel, rfl, by decide +kernel, by decide +kernel⟩
theorem sc_f_law_side : FnScope ["_law_number", "_law_roll_here"] ["_law_number", "_law_roll_here"] (defScope s_f_law_side) := ⟨rfl, rfl, rfl, by decide +kernel, rfl, by decide +kernel, by decide +kernel⟩
theorem sc_f_law_sign : FnScope ["_law_number", "_law_roll_here", "_law_kind"] ["_law_number", "_law_roll_here"] (defScope s_f_law_sign) := ⟨rfl, rfl, rfl, by decide +kernel, rfl, by decide +kernel, by decide +kernel⟩
theorem sc_f_law_sign_names : FnScope ["_law_draws_here", "_law_roll_here", "_law_found", "_law_number", "_law_name_here"] ["_law_draws_here", "_law_roll_here"] (defScope s_f_law_sign_names) := ⟨rfl, rfl, rfl, by decide +kernel, rfl, by decide +kernel, by decide +kernel⟩
theorem sc_f_law_shown_what : FnScope ["_law_what_here", "_law_word_here", "_law_signs_here", "_law_sides", "_law_names"] ["_law_what_here"] (defScope s_f_law_shown_what) := ⟨rfl, rfl, rfl, by decide +kernel, rfl, by decide +kernel, by decide +kernel⟩
theorem sc_fwords_of : FnScope ["what", "listed"] ["what"] (defScope s_fwords_of) := ⟨rfl, rfl, rfl, by decide +kernel, rfl, by decide +kernel, by decide +kernel⟩
theorem sc_f_law_signs : FnScope ["_law_draws_here", "_law_roll_here"] ["_law_draws_here", "_law_roll_here"] (defScope s_f_law_signs) := ⟨rfl, rfl, rfl, by decide +kernel, rfl, by decide +kernel, by decide +kernel⟩
theorem sc_f_law_what_of_marks : FnScope ["_law_kind", "_law_more", "_law_roll_here", "_law_part_here", "_law_name_here", "_law_sides", "_law_value", "_law_word_here"] ["_law_kind", "_law_more", "_law_roll_here"] (defScope s_f_law_what_of_marks) := ⟨rfl, rfl, rfl, by decide +kernel, rfl, by decide +kernel, by decide +kernel⟩
theorem sc_f_law_shown : FnScope ["_law_deed", "_law_hand", "_law_number", "_law_heard", "_law_branch_here", "_law_what_here", "_law_ahead"] ["_law_deed"] (defScope s_f_law_shown) := ⟨rfl, rfl, rfl, by decide +kernel, rfl, by decide +kernel, by decide +kernel⟩
theorem sc_fshown_deed : FnScope ["deed", "head"] ["deed"] (defScope s_fshown_deed) := ⟨rfl, rfl, rfl, by decide +kernel, rfl, by decide +kernel, by decide +kernel⟩
theorem sc_f_law_what_of_signs : FnScope ["_law_kind", "_law_more", "_law_roll_here", "_law_part_here", "_law_name_here", "_law_behind"] ["_law_kind", "_law_more", "_law_roll_here"] (defScope s_f_law_what_of_signs) := ⟨rfl, rfl, rfl, by decide +kernel, rfl, by decide +kernel, by decide +kernel⟩
theorem sc_f_law_what : FnScope ["_law_draws_here", "_law_roll_here", "_law_number", "_law_kind", "_law_more", "_law_to"] ["_law_draws_here", "_law_roll_here", "_law_number"] (defScope s_f_law_what) := ⟨rfl, rfl, rfl, by decide +kernel, rfl, by decide +kernel, by decide +kernel⟩
theorem sc_f_law_house : FnScope ["_law_script", "_law_most", "_law_cells", "_law_roll_here", "_law_many", "_law_known", "_law_table", "_law_deeds", "_law_k", "_law_cell", "_law_draws_here", "_law_who", "_law_turn", "_law_other", "_law_to", "_law_theirs", "_law_number", "_law_heard", "_law_what_here"] ["_law_script", "_law_most"] (defScope s_f_law_house) := ⟨rfl, rfl, rfl, by decide +kernel, rfl, by decide +kernel, by decide +kernel⟩
theorem sc_flaw : FnScope ["_law_script", "_law_roll_here", "_law_deeds", "_law_deed", "_law_due", "_law_found"] ["_law_script"] (defScope s_flaw) := ⟨rfl, rfl, rfl, by decide +kernel, rfl, by decide +kernel, by decide +kernel⟩
section
variable {P : Program} {w : World} {K : PySem.W.Frag} {mg : Str → Option Value} {base : Heap} {d : Adr} {tk : Str → Tok}
theorem ok_fshown_name (T : Txt K mg d tk) : FnOk P w K mg base CX0 1 d.fshown_name d.fshown_named ["name"] (sp_fshown_name K) := by
  refine T.F_fshown_name.ok sc_fshown_name (fun vs H Q E h => len_fshown_name h) (fun cdv A outer s H vs Q E hr h => ?_)
  have hu : (A.deeper (envOfC "shown_name" (defScope s_fshown_name) s.heap.objs.size d.fshown_name cdv)).units < cLine := hr.units0
  refine ⟨_, (@pss_cons _ _ _ _ _ (@ps_if _ _ _ _ _ _ _ _ (@pt_cmpR _ _ _ _ _ _ _ _ op_eq (@pe_ix _ _ _ _ _ _ _ ix_tup (@pv _ 0 _ _ rfl (Or.inl rfl) rfl rfl) (@pe_int _ _ _ _) (fun _ _ => rfl)) (@pe_str _ _ _ _) (nomark _)) (@pss_one _ _ _ (@ps_ret _ _ _ _ (@pe_str _ _ _ _))) (@pss_nil _)) (@pss_one _ _ _ (@ps_ret _ _ _ _ (@pe_bm _ _ _ _ _ _ _ _ _ _ _ _ PySem.F.plainAttrs_str PySem.F.slot_str_join PySem.F.type_str_join mt_join (@pe_str _ _ _ _) (@pa_cons _ _ _ _ _ (@pe_lcomp _ _ _ _ _ _ _ (["word"]) ([]) _ _ _ _ _ rfl (@pi_tup _ _ _ _ (@pv _ 0 _ _ rfl (Or.inl rfl) rfl rfl)) ⟨rfl, by decide +kernel, by decide +kernel⟩ (caps0 (by decide +kernel)) (fun _ _ _ => (@pg_name _ _ (0) _ (by show List.Nodup (["word"] : List Str); decide +kernel) rfl (Or.inl rfl) (by first | exact .inl rfl | exact .inr rfl))) (fun _ => fresh_name rfl) (fun _ _ _ => (@pts_nil _)) (fun _ _ _ => (@pe_callTy _ _ _ _ _ _ _ _ _ call_strV (by rfl) T.b_str boot_str (@pa_cons _ _ _ _ _ (@pv _ 0 _ _ rfl (Or.inl rfl) rfl rfl) (@pa_nil _) (by rfl)) (by decide) (by decide) (by rfl) (by rfl))) (by intro _; rfl)) (@pa_nil _) (by rfl)) (by rfl) (by rfl) (by rfl) (by rfl) (by rfl))))), ?_⟩
  obtain ⟨v, ds, rfl, hv, hn, kk⟩ := h
  obtain ⟨q, xs, rfl, hq, hx⟩ := dv_tup hv
  have hl := dvs_len hx
  obtain ⟨fl, ff⟩ := hn.flat
  rcases hn with rfl | ⟨h, r, rfl, h0, hok, h8, hr, hi⟩
  · cases hx with
    | cons a t =>
      cases dv_str a
      refine ⟨_, rfl, q, _, 0, .str "", rfl, rfl, SqT.of hq, atI_nat (j := 0) rfl, rfl, _, rfl, itT (by decide +kernel) ?_⟩
      exact kk H (Same.refl H)
  · have hx' := hx
    cases hx with
    | cons a t =>
      cases dv_str a
      refine ⟨_, rfl, q, _, 0, .str h, rfl, rfl, SqT.of hq, atI_nat (j := 0) rfl, rfl, _, rfl, itF (decide_eq_false fun z => h0 (V.str.inj z)) ?_⟩
      have en := nm_join (r := r) h0
      rw [en] at kk
      rename_i xt
      refine ⟨rfl, _, rfl, q, rfl, ⟨_, SqT.of hq⟩, lc_tup (xs := .str h :: xt) (big (by omega)) (fun i ys H' => ys = (((PyData.str h :: r).map strD).take i).map V.str ∧ H' = H) ⟨rfl, rfl⟩ (fun _ _ H' q' => by rw [q'.2]; exact SqT.of hq) (fun j x ys H' K1 K0 hxj qq k1 k0 => ?_) fun H' p ys P _ hp => ?_⟩
      · obtain ⟨rfl, rfl⟩ := qq
        obtain ⟨d, ed, dv⟩ := dvs_get hx' hxj
        obtain ⟨f1, f2⟩ := flat_V dv (ff d (List.mem_of_getElem? ed))
        refine iteT (B := K0 H') ?_
        refine ⟨_, rfl, x, rfl, f1, k1 _ _ ⟨?_, rfl⟩⟩
        rw [take_snoc (x := strD d) (by rw [List.getElem?_map, ed]; rfl), List.map_append, f2]
        rfl
      · obtain ⟨rfl, rfl⟩ := P
        rw [List.take_of_length_le (by rw [List.length_map, hl]; exact Nat.le_refl _)]
        refine ⟨".", p, (PyData.str h :: r).map strD, rfl, rfl, SqL.of upd_same, ?_, kk _ (Same.new hp)⟩
        have := sum_len ff
        have e1 : ("." : Str).length = 1 := rfl
        rw [e1, List.length_map]
        omega
theorem ok_fshown_counts (T : Txt K mg d tk) : FnOk P w K mg base CX0 1 d.fshown_counts d.fshown_countsd ["counts"] (sp_fshown_counts K) := by
  refine T.F_fshown_counts.ok sc_fshown_counts (fun vs H Q E h => len_fshown_counts h) (fun cdv A outer s H vs Q E hr h => ?_)
  have hu : (A.deeper (envOfC "shown_counts" (defScope s_fshown_counts) s.heap.objs.size d.fshown_counts cdv)).units < cLine := hr.units0
  refine ⟨_, (@pss_one _ _ _ (@ps_ret _ _ _ _ (@pe_bm _ _ _ _ _ _ _ _ _ _ _ _ PySem.F.plainAttrs_str PySem.F.slot_str_join PySem.F.type_str_join mt_join (@pe_str _ _ _ _) (@pa_cons _ _ _ _ _ (@pe_lcomp _ _ _ _ _ _ _ (["count"]) ([]) _ _ _ _ _ rfl (@pi_tup _ _ _ _ (@pv _ 0 _ _ rfl (Or.inl rfl) rfl rfl)) ⟨rfl, by decide +kernel, by decide +kernel⟩ (caps0 (by decide +kernel)) (fun _ _ _ => (@pg_name _ _ (0) _ (by show List.Nodup (["count"] : List Str); decide +kernel) rfl (Or.inl rfl) (by first | exact .inl rfl | exact .inr rfl))) (fun _ => fresh_name rfl) (fun _ _ _ => (@pts_nil _)) (fun _ _ _ => (@pe_callTy _ _ _ _ _ _ _ _ _ call_strV (by rfl) T.b_str boot_str (@pa_cons _ _ _ _ _ (@pv _ 0 _ _ rfl (Or.inl rfl) rfl rfl) (@pa_nil _) (by rfl)) (by decide) (by decide) (by rfl) (by rfl))) (by intro _; rfl)) (@pa_nil _) (by rfl)) (by rfl) (by rfl) (by rfl) (by rfl) (by rfl)))), ?_⟩
  obtain ⟨v, ds, rfl, hv, hl10, ff, kk⟩ := h
  obtain ⟨q, xs, rfl, hq, hx⟩ := dv_tup hv
  have hl := dvs_len hx
  refine ⟨rfl, _, rfl, q, rfl, ⟨_, SqT.of hq⟩, lc_tup (xs := xs) (big (by omega)) (fun i ys H' => ys = ((ds.map strD).take i).map V.str ∧ H' = H) ⟨rfl, rfl⟩ (fun _ _ H' q' => by rw [q'.2]; exact SqT.of hq) (fun j x ys H' K1 K0 hxj qq k1 k0 => ?_) fun H' p ys P _ hp => ?_⟩
  · obtain ⟨rfl, rfl⟩ := qq
    obtain ⟨d, ed, dv⟩ := dvs_get hx hxj
    obtain ⟨f1, f2⟩ := flat_V dv (ff d (List.mem_of_getElem? ed))
    refine iteT (B := K0 H') ?_
    refine ⟨_, rfl, x, rfl, f1, k1 _ _ ⟨?_, rfl⟩⟩
    rw [take_snoc (x := strD d) (by rw [List.getElem?_map, ed]; rfl), List.map_append, f2]
    rfl
  · obtain ⟨rfl, rfl⟩ := P
    rw [List.take_of_length_le (by rw [List.length_map, hl]; exact Nat.le_refl _)]
    refine ⟨",", p, ds.map strD, rfl, rfl, SqL.of upd_same, ?_, kk _ (Same.new hp)⟩
    have := sum_len ff
    have e1 : ("," : Str).length = 1 := rfl
    rw [e1, List.length_map]
    omega
theorem ok_fshown_branch (T : Txt K mg d tk) : FnOk P w K mg base CX0 1 d.fshown_branch d.fshown_branchd ["branch"] (sp_fshown_branch K) := by
  refine T.F_fshown_branch.ok sc_fshown_branch (fun vs H Q E h => len_fshown_branch h) (fun cdv A outer s H vs Q E hr h => ?_)
  have hu : (A.deeper (envOfC "shown_branch" (defScope s_fshown_branch) s.heap.objs.size d.fshown_branch cdv)).units < cLine := hr.units0
  refine ⟨_, (@pss_one _ _ _ (@ps_ret _ _ _ _ (@pe_ifExp _ _ _ _ _ _ _ _ (@pt_cmpR _ _ _ _ _ _ _ _ op_isN (@pv _ 0 _ _ rfl (Or.inl rfl) rfl rfl) (@pe_non _ _ _) (nomark _)) (@pe_str _ _ _ _) (@pe_bm _ _ _ _ _ _ _ _ _ _ _ _ PySem.F.plainAttrs_str PySem.F.slot_str_join PySem.F.type_str_join mt_joinT (@pe_str _ _ _ _) (@pa_cons _ _ _ _ _ (@pv _ 0 _ _ rfl (Or.inl rfl) rfl rfl) (@pa_nil _) (by rfl)) (by rfl) (by rfl) (by rfl) (by rfl) (by rfl))))), ?_⟩
  obtain ⟨v, d', rfl, hv, hb, kk⟩ := h
  rcases hb with rfl | ⟨a, b, rfl, la, lb⟩
  · cases dv_non hv
    exact ⟨_, rfl, rfl, _, rfl, itT (decide_eq_true rfl) (kk H (Same.refl H))⟩
  · obtain ⟨q, xs, rfl, hq, hx⟩ := dv_tup hv
    cases hx with
    | cons x1 t =>
      cases t with
      | cons x2 t =>
        cases t
        cases dv_str x1
        cases dv_str x2
        refine ⟨_, rfl, rfl, _, rfl, itF (decide_eq_false fun z => nomatch z) ?_⟩
        refine ⟨rfl, _, rfl, ".", q, [a, b], rfl, rfl, SqT.of hq, ?_, kk H (Same.refl H)⟩
        have e1 : ("." : Str).length = 1 := rfl
        show a.length + (b.length + 0) + 2 * ("." : Str).length ≤ _
        omega
theorem ok_fshown_text (T : Txt K mg d tk) : FnOk P w K mg base CX0 1 d.fshown_text d.fshown_textd ["text"] (sp_fshown_text K) := by
  refine T.F_fshown_text.ok sc_fshown_text (fun vs H Q E h => len_fshown_text h) (fun cdv A outer s H vs Q E hr h => ?_)
  have hu : (A.deeper (envOfC "shown_text" (defScope s_fshown_text) s.heap.objs.size d.fshown_text cdv)).units < cLine := hr.units0
  refine ⟨_, (@pss_one _ _ _ (@ps_ret _ _ _ _ (@pe_ifExp _ _ _ _ _ _ _ _ (@pt_cmpR _ _ _ _ _ _ _ _ op_eq (@pv _ 0 _ _ rfl (Or.inl rfl) rfl rfl) (@pe_str _ _ _ _) (nomark _)) (@pe_str _ _ _ _) (@pv _ 0 _ _ rfl (Or.inl rfl) rfl rfl)))), ?_⟩
  obtain ⟨z, rfl, kk⟩ := h
  refine ⟨_, rfl, rfl, _, rfl, ?_⟩
  by_cases hz : z = ""
  · rw [if_pos hz] at kk
    exact itT (decide_eq_true (by rw [hz])) kk
  · rw [if_neg hz] at kk
    exact itF (decide_eq_false fun q => hz (V.str.inj q)) ⟨_, rfl, kk⟩
theorem ok_f_law_draws (T : Txt K mg d tk) : FnOk P w K mg base CX0 1 d.f_law_draws d.f_law_drawsd ["_law_cell", "_law_many"] (sp_f_law_draws K) := by
  refine T.F_f_law_draws.ok sc_f_law_draws (fun vs H Q E h => len_f_law_draws h) (fun cdv A outer s H vs Q E hr h => ?_)
  have hu : (A.deeper (envOfC "_law_draws" (defScope s_f_law_draws) s.heap.objs.size d.f_law_draws cdv)).units < cLine := hr.units0
  refine ⟨_, (@pss_cons _ _ _ _ _ (@ps_set _ _ (2) _ _ _ _ sc_f_law_draws.nd rfl (Or.inl rfl) (@pe_lstA _ _ _ _ (@pa_nil _)) (by rfl) (by first | exact .inl rfl | exact .inr rfl)) (@pss_cons _ _ _ _ _ (@ps_set _ _ (3) _ _ _ _ sc_f_law_draws.nd rfl (Or.inl rfl) (@pe_callB _ _ _ _ _ _ _ _ _ (call_max2 rfl) (by rfl) T.b_max boot_max (@pa_cons _ _ _ _ _ (@pe_int _ _ _ _) (@pa_cons _ _ _ _ _ (@pe_op _ _ _ _ _ _ _ _ op_sub (@pv _ 0 _ _ rfl (Or.inl rfl) rfl rfl) (@pe_op _ _ _ _ _ _ _ _ op_pow (@pe_int _ _ _ _) (@pe_int _ _ _ _))) (@pa_nil _) (by rfl)) (by rfl)) (by decide) (by decide) (by rfl) (by rfl)) (by rfl) (by first | exact .inl rfl | exact .inr rfl)) (@pss_cons _ _ _ _ _ (@ps_for _ _ _ _ _ _ _ _ PassesOwn.never rfl (@pi_range1 _ _ _ _ _ _ (by rfl) T.b_range (@pa_cons _ _ _ _ _ (@pv _ 1 _ _ rfl (Or.inl rfl) rfl rfl) (@pa_nil _) (by rfl)) (by rfl)) (@pg_name _ _ (4) _ sc_f_law_draws.nd rfl (Or.inl rfl) (by first | exact .inl rfl | exact .inr rfl)) (@pss_cons _ _ _ _ _ (@ps_set _ _ (5) _ _ _ _ sc_f_law_draws.nd rfl (Or.inl rfl) (@pe_op _ _ _ _ _ _ _ _ op_mod (@pe_op _ _ _ _ _ _ _ _ op_mul (@pe_op _ _ _ _ _ _ _ _ op_add (@pe_op _ _ _ _ _ _ _ _ op_add (@pe_op _ _ _ _ _ _ _ _ op_mod (@pv _ 0 _ _ rfl (Or.inl rfl) rfl rfl) (@pe_int _ _ _ _)) (@pe_op _ _ _ _ _ _ _ _ op_mul (@pe_op _ _ _ _ _ _ _ _ op_mul (@pe_int _ _ _ _) (@pv _ 4 _ _ rfl (Or.inl rfl) rfl rfl)) (@pv _ 4 _ _ rfl (Or.inl rfl) rfl rfl))) (@pe_int _ _ _ _)) (@pe_int _ _ _ _)) (@pe_int _ _ _ _)) (by rfl) (by first | exact .inl rfl | exact .inr rfl)) (@pss_cons _ _ _ _ _ (@ps_set _ _ (5) _ _ _ _ sc_f_law_draws.nd rfl (Or.inl rfl) (@pe_op _ _ _ _ _ _ _ _ op_mod (@pe_op _ _ _ _ _ _ _ _ op_mul (@pv _ 5 _ _ rfl (Or.inl rfl) rfl rfl) (@pv _ 5 _ _ rfl (Or.inl rfl) rfl rfl)) (@pe_int _ _ _ _)) (by rfl) (by first | exact .inl rfl | exact .inr rfl)) (@pss_cons _ _ _ _ _ (@ps_set _ _ (6) _ _ _ _ sc_f_law_draws.nd rfl (Or.inl rfl) (@pe_op _ _ _ _ _ _ _ _ op_fdiv (@pe_op _ _ _ _ _ _ _ _ op_mul (@pe_op _ _ _ _ _ _ _ _ op_mul (@pe_op _ _ _ _ _ _ _ _ op_mul (@pv _ 5 _ _ rfl (Or.inl rfl) rfl rfl) (@pe_op _ _ _ _ _ _ _ _ op_add (@pv _ 5 _ _ rfl (Or.inl rfl) rfl rfl) (@pe_int _ _ _ _))) (@pe_int _ _ _ _)) (@pe_op _ _ _ _ _ _ _ _ op_add (@pe_op _ _ _ _ _ _ _ _ op_add (@pv _ 5 _ _ rfl (Or.inl rfl) rfl rfl) (@pv _ 4 _ _ rfl (Or.inl rfl) rfl rfl)) (@pe_int _ _ _ _))) (@pe_int _ _ _ _)) (by rfl) (by first | exact .inl rfl | exact .inr rfl)) (@pss_cons _ _ _ _ _ (@ps_if _ _ _ _ _ _ _ _ (@pt_cmpR _ _ _ _ _ _ _ _ op_gt (@pv _ 3 _ _ rfl (Or.inl rfl) rfl rfl) (@pe_int _ _ _ _) (nomark _)) (@pss_one _ _ _ (@ps_set _ _ (6) _ _ _ _ sc_f_law_draws.nd rfl (Or.inl rfl) (@pv _ 3 _ _ rfl (Or.inl rfl) rfl rfl) (by rfl) (by first | exact .inl rfl | exact .inr rfl))) (@pss_nil _)) (@pss_cons _ _ _ _ _ (@ps_expr _ _ _ _ (@pe_bm _ _ _ _ _ _ _ _ _ _ _ _ PySem.F.plainAttrs_list PySem.F.slot_list_append PySem.F.type_list_append mt_append (@pv _ 2 _ _ rfl (Or.inl rfl) rfl rfl) (@pa_cons _ _ _ _ _ (@pe_op _ _ _ _ _ _ _ _ op_mod (@pv _ 6 _ _ rfl (Or.inl rfl) rfl rfl) (@pe_op _ _ _ _ _ _ _ _ op_pow (@pe_int _ _ _ _) (@pe_int _ _ _ _))) (@pa_nil _) (by rfl)) (by rfl) (by rfl) (by rfl) (by rfl) (by rfl)) (by rfl)) (@pss_one _ _ _ (@ps_set _ _ (3) _ _ _ _ sc_f_law_draws.nd rfl (Or.inl rfl) (@pe_op _ _ _ _ _ _ _ _ op_fdivL (@pv _ 3 _ _ rfl (Or.inl rfl) rfl rfl) (@pe_op _ _ _ _ _ _ _ _ op_pow (@pe_int _ _ _ _) (@pe_int _ _ _ _))) (by rfl) (by first | exact .inl rfl | exact .inr rfl)))))))) (by intro _; rfl)) (@pss_one _ _ _ (@ps_ret _ _ _ _ (@pv _ 2 _ _ rfl (Or.inl rfl) rfl rfl)))))), ?_⟩
  obtain ⟨i, n, rfl, hn, k⟩ := h
  refine ⟨by decide, fun p H1 hp s1 e1 => ?_⟩
  refine ⟨_, rfl, _, _, rfl, rfl, ⟨by decide, by decide, by decide⟩, _, _, rfl, rfl, _, _, rfl, ?_⟩
  refine ⟨_, rfl, n, rfl, by omega, by omega, for_range (n := (n : Int).toNat) (fun j σ H2 => ∃ (dg : Int) (ns : List Int) (q4 q5 q6 : Option V), σ = [some (.int i), some (.int n), some (.ref p), some (.int dg), q4, q5, q6] ∧ Same H H2 ∧ H2 p = some (.lst (ns.map V.int)) ∧ ns.length = j)
    ⟨_, [], none, none, none, rfl, s1, e1, rfl⟩ ?_ ?_⟩
  · rintro j σ H2 hj ⟨dg, ns, q4, q5, q6, rfl, s2, h2, hl⟩
    have hj' : j < 31 := by omega
    refine ⟨_, rfl, _, _, rfl, rfl, (by show (0 : Int) < 1000000007; decide), _, rfl, _, _, rfl, rfl, .inl ⟨by decide, by decide⟩, _, rfl, _, _, rfl, rfl, .inr ⟨by omega, by omega⟩, _, _, rfl, rfl, _, _, rfl, rfl, _, _, rfl, rfl, .inr ⟨by decide, by decide⟩, _, _, rfl, rfl, (by show (0 : Int) < 2147483629; decide), ?_⟩
    refine ⟨_, rfl, _, rfl, _, _, rfl, rfl, .inl (cm (by decide) (by decide)), _, _, rfl, rfl, (by show (0 : Int) < 2147483587; decide), ?_⟩
    refine ⟨_, rfl, _, rfl, _, _, rfl, rfl, _, _, rfl, rfl, .inl (cm (by decide) (by decide)), _, _, rfl, rfl, .inr ⟨by decide, by decide⟩, _, rfl, _, rfl, _, _, rfl, rfl, _, _, rfl, rfl, _, _, rfl, rfl, .inr (cm3 (by decide) (by decide) hj'), _, _, rfl, rfl, ⟨by decide, by decide⟩, ?_⟩
    refine ⟨_, rfl, _, _, rfl, rfl, _, rfl, ?_⟩
    refine ite2 (fun _ => ⟨_, rfl, ?_⟩) fun _ => ?_
    all_goals
      refine ⟨_, rfl, .inl ⟨rfl, _, SqL.of h2⟩, _, rfl, _, _, rfl, rfl, ⟨by decide, by decide, by decide⟩, _, _, rfl, rfl, (by decide : (0 : Int) < 10 ^ (34 : Int).toNat), p, _, _, rfl, rfl, h2, (by rw [List.length_map]; exact small1000 (by omega)), ?_⟩
      refine ⟨_, rfl, _, _, rfl, rfl, ⟨by decide, by decide, by decide⟩, _, _, rfl, rfl, ⟨(by decide : (0 : Int) < 10 ^ (34 : Int).toNat), by decide +kernel⟩, ?_⟩
      exact ⟨_, ns ++ [_], _, _, _, rfl, s2.wr hp, by rw [upd_same, List.map_append]; rfl, by rw [List.length_append, List.length_singleton, hl]⟩
  · rintro σ H2 ⟨dg, ns, q4, q5, q6, rfl, s2, h2, hl⟩
    have hl' : ns.length = n := by omega
    exact ⟨_, rfl, k H2 p ns s2 hp ⟨h2, by omega, by omega⟩ hl'⟩
theorem ok_f_law_word (T : Txt K mg d tk) : FnOk P w K mg base CX0 1 d.f_law_word d.f_law_wordd ["_law_number"] (sp_f_law_word K) := by
  refine T.F_f_law_word.ok sc_f_law_word (fun vs H Q E h => len_f_law_word h) (fun cdv A outer s H vs Q E hr h => ?_)
  have hu : (A.deeper (envOfC "_law_word" (defScope s_f_law_word) s.heap.objs.size d.f_law_word cdv)).units < cLine := hr.units0
  refine ⟨_, (@pss_cons _ _ _ _ _ (@ps_set _ _ (1) _ _ _ _ sc_f_law_word.nd rfl (Or.inl rfl) (@pe_str _ _ _ _) (by rfl) (by first | exact .inl rfl | exact .inr rfl)) (@pss_cons _ _ _ _ _ (@ps_set _ _ (2) _ _ _ _ sc_f_law_word.nd rfl (Or.inl rfl) (@pe_op _ _ _ _ _ _ _ _ op_add (@pe_int _ _ _ _) (@pe_op _ _ _ _ _ _ _ _ op_mod (@pv _ 0 _ _ rfl (Or.inl rfl) rfl rfl) (@pe_int _ _ _ _))) (by rfl) (by first | exact .inl rfl | exact .inr rfl)) (@pss_cons _ _ _ _ _ (@ps_set _ _ (0) _ _ _ _ sc_f_law_word.nd rfl (Or.inl rfl) (@pe_op _ _ _ _ _ _ _ _ op_fdiv (@pv _ 0 _ _ rfl (Or.inl rfl) rfl rfl) (@pe_int _ _ _ _)) (by rfl) (by first | exact .inl rfl | exact .inr rfl)) (@pss_cons _ _ _ _ _ (@ps_for _ _ _ _ _ _ _ _ PassesOwn.never rfl (@pi_range1 _ _ _ _ _ _ (by rfl) T.b_range (@pa_cons _ _ _ _ _ (@pv _ 2 _ _ rfl (Or.inl rfl) rfl rfl) (@pa_nil _) (by rfl)) (by rfl)) (@pg_name _ _ (3) _ sc_f_law_word.nd rfl (Or.inl rfl) (by first | exact .inl rfl | exact .inr rfl)) (@pss_cons _ _ _ _ _ (@ps_set _ _ (1) _ _ _ _ sc_f_law_word.nd rfl (Or.inl rfl) (@pe_op _ _ _ _ _ _ _ _ op_add_str (@pv _ 1 _ _ rfl (Or.inl rfl) rfl rfl) (@pe_ix _ _ _ _ _ _ _ ix_str (@pe_str _ _ _ _) (@pe_op _ _ _ _ _ _ _ _ op_mod (@pv _ 0 _ _ rfl (Or.inl rfl) rfl rfl) (@pe_int _ _ _ _)) (fun _ _ => rfl))) (by rfl) (by first | exact .inl rfl | exact .inr rfl)) (@pss_one _ _ _ (@ps_set _ _ (0) _ _ _ _ sc_f_law_word.nd rfl (Or.inl rfl) (@pe_op _ _ _ _ _ _ _ _ op_fdiv (@pv _ 0 _ _ rfl (Or.inl rfl) rfl rfl) (@pe_int _ _ _ _)) (by rfl) (by first | exact .inl rfl | exact .inr rfl)))) (by intro _; rfl)) (@pss_one _ _ _ (@ps_ret _ _ _ _ (@pv _ 1 _ _ rfl (Or.inl rfl) rfl rfl))))))), ?_⟩
  obtain ⟨i, rfl, k⟩ := h
  refine ⟨_, rfl, _, _, rfl, rfl, (by show (0 : Int) < 8; decide), _, _, rfl, rfl, ?_⟩
  refine ⟨_, rfl, _, _, rfl, rfl, ⟨by decide, by decide⟩, ?_⟩
  have hm : 0 ≤ i % 8 ∧ i % 8 < 8 := ⟨Int.emod_nonneg _ (by decide), Int.emod_lt_of_pos _ (by decide)⟩
  refine ⟨_, rfl, _, rfl, by omega, by omega, for_range (n := (1 + i % 8).toNat) (fun j σ H2 => ∃ (n : Int) (z : Str) (q : Option V), σ = [some (.int n), some (.str z), some (.int (1 + i % 8)), q] ∧ H2 = H ∧ z.cps.size = j ∧ ∀ c ∈ z.cps.toList, 97 ≤ c ∧ c ≤ 122)
    ⟨i / 8, _, none, rfl, rfl, rfl, fun _ z => nomatch z⟩ ?_ ?_⟩
  · rintro j σ H2 hj ⟨n, z, q, rfl, rfl, hz, hw⟩
    have hn : 0 ≤ n % 26 ∧ n % 26 < 26 := ⟨Int.emod_nonneg _ (by decide), Int.emod_lt_of_pos _ (by decide)⟩
    obtain ⟨c, hc⟩ := atI_in ("abcdefghijklmnopqrstuvwxyz" : Str).cps.toList (n % 26) hn.1 (by rw [show ("abcdefghijklmnopqrstuvwxyz" : Str).cps.toList.length = 26 from by decide +kernel]; omega)
    refine ⟨_, rfl, _, rfl, _, _, rfl, rfl, (by show (0 : Int) < 26; decide), _, _, _, rfl, rfl, (by decide +kernel), hc, _, _, rfl, rfl, ?_, ?_⟩
    · have : z.length = z.cps.size := rfl
      have h1 : (⟨#[c]⟩ : Str).length = 1 := rfl
      have := small1000 (n := z.length + 1) (by omega)
      omega
    · refine ⟨_, rfl, _, _, rfl, rfl, ⟨by decide, by decide⟩, ?_⟩
      refine ⟨n / 26, _, _, rfl, rfl, by rw [size_app]; show _ + 1 = _; omega, fun c' hc' => ?_⟩
      rw [app_toList] at hc'
      rcases List.mem_append.mp hc' with y | y
      · exact hw c' y
      · rw [List.mem_singleton.mp y]
        exact abc_all c (atI_mem hc)
  · rintro σ H2 ⟨n, z, q, rfl, rfl, hz, hw⟩
    exact ⟨_, rfl, k z ⟨by omega, by omega, hw⟩⟩
theorem ok_f_law_name (T : Txt K mg d tk) : FnOk P w K mg base CX0 1 d.f_law_name d.f_law_named ["_law_number", "_law_roll_here"] (sp_f_law_name K) := by
  refine T.F_f_law_name.ok sc_f_law_name (fun vs H Q E h => len_f_law_name h) (fun cdv A outer s H vs Q E hr h => ?_)
  have hu : (A.deeper (envOfC "_law_name" (defScope s_f_law_name) s.heap.objs.size d.f_law_name cdv)).units < cLine := hr.units0
  refine ⟨_, (@pss_cons _ _ _ _ _ (@ps_set _ _ (2) _ _ _ _ sc_f_law_name.nd rfl (Or.inl rfl) (@pe_op _ _ _ _ _ _ _ _ op_fdiv (@pv _ 0 _ _ rfl (Or.inl rfl) rfl rfl) (@pe_callB _ _ _ _ _ _ _ _ _ call_len_seq (by rfl) T.b_len boot_len (@pa_cons _ _ _ _ _ (@pv _ 1 _ _ rfl (Or.inl rfl) rfl rfl) (@pa_nil _) (by rfl)) (by decide) (by decide) (by rfl) (by rfl))) (by rfl) (by first | exact .inl rfl | exact .inr rfl)) (@pss_one _ _ _ (@ps_ret _ _ _ _ (@pe_tupA _ _ _ _ _ (@pa_cons _ _ _ _ _ (@pe_ix _ _ _ _ _ _ _ ix_any (@pv _ 1 _ _ rfl (Or.inl rfl) rfl rfl) (@pe_op _ _ _ _ _ _ _ _ op_mod (@pv _ 0 _ _ rfl (Or.inl rfl) rfl rfl) (@pe_callB _ _ _ _ _ _ _ _ _ call_len_seq (by rfl) T.b_len boot_len (@pa_cons _ _ _ _ _ (@pv _ 1 _ _ rfl (Or.inl rfl) rfl rfl) (@pa_nil _) (by rfl)) (by decide) (by decide) (by rfl) (by rfl))) (fun _ _ => rfl)) (@pa_cons _ _ _ _ _ (@pe_op _ _ _ _ _ _ _ _ op_add (@pe_int _ _ _ _) (@pe_op _ _ _ _ _ _ _ _ op_mod (@pe_op _ _ _ _ _ _ _ _ op_fdiv (@pv _ 2 _ _ rfl (Or.inl rfl) rfl rfl) (@pe_int _ _ _ _)) (@pe_ix _ _ _ _ _ _ _ ix_any (@pe_lstA _ _ _ _ (@pa_cons _ _ _ _ _ (@pe_int _ _ _ _) (@pa_cons _ _ _ _ _ (@pe_op _ _ _ _ _ _ _ _ op_pow (@pe_int _ _ _ _) (@pe_int _ _ _ _)) (@pa_nil _) (by rfl)) (by rfl))) (@pe_op _ _ _ _ _ _ _ _ op_mod (@pv _ 2 _ _ rfl (Or.inl rfl) rfl rfl) (@pe_int _ _ _ _)) (fun _ _ => rfl)))) (@pa_nil _) (by rfl)) (by rfl)))))), ?_⟩
  obtain ⟨i, p, ws, rfl, hp, k⟩ := h
  refine ⟨_, rfl, _, rfl, p, _, rfl, .inl (SqL.of hp.at'), _, _, rfl, rfl, hp.len, ?_⟩
  refine ⟨_, rfl, _, rfl, _, rfl, p, _, rfl, .inl (SqL.of hp.at'), _, _, rfl, rfl, hp.len.1, p, _, _, rfl, rfl, SqL.of hp.at', mod_lo _ hp.len.1, mod_hi _ hp.len.1, fun v hv => ?_⟩
  obtain ⟨w, hw, rfl⟩ := List.mem_map.mp hv
  refine ⟨_, rfl, _, _, rfl, rfl, ⟨by decide, by decide⟩, _, _, rfl, rfl, ⟨by decide, by decide, by decide⟩, szOk rfl, fun q1 H1 g1 s1 e1 => ?_⟩
  refine ⟨_, rfl, _, _, rfl, rfl, (by show (0 : Int) < 2; decide), q1, _, _, rfl, rfl, SqL.of e1, mod_lo _ (by decide), mod_hi _ (by decide), fun m hm => ?_⟩
  obtain ⟨n, rfl, hn, hn2⟩ : ∃ n, m = V.int n ∧ 0 < n ∧ n ≤ 1000000 := by
    simp only [List.mem_cons, List.not_mem_nil, or_false] at hm
    rcases hm with rfl | rfl
    · exact ⟨9, rfl, by decide, by decide⟩
    · exact ⟨_, rfl, by decide, by decide⟩
  refine ⟨_, _, rfl, rfl, hn, _, _, rfl, rfl, szOk rfl, fun q2 H2 g2 s2 e2 => ?_⟩
  refine k H2 (.ref q2) _ (s1.trans s2) (.tup e2 (.cons (.str w) (.cons (.int _) .nil))) ⟨_, rfl, w, _, rfl, hw, ?_, ?_⟩
  · have := mod_lo (i / ((ws.map V.str).length : Int) / 2) hn
    omega
  · have := mod_hi (i / ((ws.map V.str).length : Int) / 2) hn
    omega
theorem ok_f_law_shown_name (T : Txt K mg d tk) : FnOk P w K mg base CX0 1 d.f_law_shown_name d.f_law_shown_named ["_law_name_here"] (sp_f_law_shown_name K) := by
  refine T.F_f_law_shown_name.ok sc_f_law_shown_name (fun vs H Q E h => len_f_law_shown_name h) (fun cdv A outer s H vs Q E hr h => ?_)
  have hu : (A.deeper (envOfC "_law_shown_name" (defScope s_f_law_shown_name) s.heap.objs.size d.f_law_shown_name cdv)).units < cLine := hr.units0
  refine ⟨_, (@pss_cons _ _ _ _ _ (@ps_if _ _ _ _ _ _ _ _ (@pt_cmpR _ _ _ _ _ _ _ _ (op_eqD (hu64 hr)) (@pv _ 0 _ _ rfl (Or.inl rfl) rfl rfl) (@pe_tupA _ _ _ _ _ (@pa_cons _ _ _ _ _ (@pe_str _ _ _ _) (@pa_cons _ _ _ _ _ (@pe_int _ _ _ _) (@pa_nil _) (by rfl)) (by rfl))) (nomark _)) (@pss_one _ _ _ (@ps_ret _ _ _ _ (@pe_str _ _ _ _))) (@pss_nil _)) (@pss_one _ _ _ (@ps_ret _ _ _ _ (@pe_bm _ _ _ _ _ _ _ _ _ _ _ _ PySem.F.plainAttrs_str PySem.F.slot_str_join PySem.F.type_str_join mt_join (@pe_str _ _ _ _) (@pa_cons _ _ _ _ _ (@pe_lcomp _ _ _ _ _ _ _ (["_law_part_here"]) ([]) _ _ _ _ _ rfl (@pi_tup _ _ _ _ (@pv _ 0 _ _ rfl (Or.inl rfl) rfl rfl)) ⟨rfl, by decide +kernel, by decide +kernel⟩ (caps0 (by decide +kernel)) (fun _ _ _ => (@pg_name _ _ (0) _ (by show List.Nodup (["_law_part_here"] : List Str); decide +kernel) rfl (Or.inl rfl) (by first | exact .inl rfl | exact .inr rfl))) (fun _ => fresh_name rfl) (fun _ _ _ => (@pts_nil _)) (fun _ _ _ => (@pe_callTy _ _ _ _ _ _ _ _ _ call_strV (by rfl) T.b_str boot_str (@pa_cons _ _ _ _ _ (@pv _ 0 _ _ rfl (Or.inl rfl) rfl rfl) (@pa_nil _) (by rfl)) (by decide) (by decide) (by rfl) (by rfl))) (by intro _; rfl)) (@pa_nil _) (by rfl)) (by rfl) (by rfl) (by rfl) (by rfl) (by rfl))))), ?_⟩
  obtain ⟨v, ds, rfl, hv, hn, kk⟩ := h
  obtain ⟨q, xs, rfl, hq, hx⟩ := dv_tup hv
  have hl := dvs_len hx
  obtain ⟨fl, ff⟩ := hn.flat
  refine ⟨_, rfl, szOk rfl, fun w1 H1 g1 s1 f1 => ?_⟩
  refine ⟨.tuple ds, .tuple [.str "", .int 0], (hv.same s1).dv, .tup (SqT.of f1) (.cons (.str _) (.cons (.int _) .nil)), ?_, by decide +kernel, ?_, _, rfl, ?_⟩
  · rcases hn with rfl | ⟨h, r, rfl, h0, hok, h8, hr, hi⟩
    · decide +kernel
    · show (PyData.strOk h && PyData.canLayAll0 r) = true
      rw [hok, lay_nums hi]
      rfl
  · show min _ (max 0 (max 0 0) + 1) ≤ 64
    omega
  rcases hn with rfl | ⟨h, r, rfl, h0, hok, h8, hr, hi⟩
  · refine itT (by decide +kernel) ?_
    exact kk H1 s1
  · refine itF ?_ ?_
    · show (h == "" && _) = false
      rw [show (h == ("" : Str)) = false from by rw [beq_eq_false_iff_ne]; exact h0]
      rfl
    rw [nm_join (r := r) h0] at kk
    have hq1 := s1 _ _ hq
    refine ⟨rfl, _, rfl, q, rfl, ⟨_, SqT.of hq1⟩, lc_tup (xs := xs) (big (by omega)) (fun i ys H' => ys = (((PyData.str h :: r).map strD).take i).map V.str ∧ H' = H1) ⟨rfl, rfl⟩ (fun _ _ H' q' => by rw [q'.2]; exact SqT.of hq1) (fun j x ys H' K1 K0 hxj qq k1 k0 => ?_) fun H' p ys P _ hp => ?_⟩
    · obtain ⟨rfl, rfl⟩ := qq
      obtain ⟨d, ed, dv⟩ := dvs_get hx hxj
      obtain ⟨f1, f2⟩ := flat_V dv (ff d (List.mem_of_getElem? ed))
      refine iteT (B := K0 H') ?_
      refine ⟨_, rfl, x, rfl, f1, k1 _ _ ⟨?_, rfl⟩⟩
      rw [take_snoc (x := strD d) (by rw [List.getElem?_map, ed]; rfl), List.map_append, f2]
      rfl
    · obtain ⟨rfl, rfl⟩ := P
      rw [List.take_of_length_le (by rw [List.length_map, hl]; exact Nat.le_refl _)]
      refine ⟨".", p, (PyData.str h :: r).map strD, rfl, rfl, SqL.of upd_same, ?_, kk _ (s1.trans (Same.new hp))⟩
      have := sum_len ff
      have e1 : ("." : Str).length = 1 := rfl
      rw [e1, List.length_map]
      omega
theorem ok_fshown_side (T : Txt K mg d tk) (gfshown_name : FnOk P w K mg base CX0 1 d.fshown_name d.fshown_named ["name"] (sp_fshown_name K)) : FnOk P w K mg base CX0 2 d.fshown_side d.fshown_sided ["side"] (sp_fshown_side K) := by
  refine T.F_fshown_side.ok sc_fshown_side (fun vs H Q E h => len_fshown_side h) (fun cdv A outer s H vs Q E hr h => ?_)
  have hu : (A.deeper (envOfC "shown_side" (defScope s_fshown_side) s.heap.objs.size d.fshown_side cdv)).units < cLine := hr.units0
  refine ⟨_, (@pss_one _ _ _ (@ps_ret _ _ _ _ (@pe_op _ _ _ _ _ _ _ _ op_add_str (@pe_call _ _ _ _ _ _ _ _ _ _ _ _ _ _ _ _ gfshown_name (hr.mono (by decide)) (by rfl) T.m_fshown_name T.k_fshown_name T.d_fshown_name .nil pass0 (@pa_cons _ _ _ _ _ (@pe_ix _ _ _ _ _ _ _ ix_tup (@pv _ 0 _ _ rfl (Or.inl rfl) rfl rfl) (@pe_int _ _ _ _) (fun _ _ => rfl)) (@pa_nil _) (by rfl)) (by decide) (by rfl) (by rfl)) (@pe_ifExp _ _ _ _ _ _ _ _ (@pt_cmpR _ _ _ _ _ _ _ _ op_eq (@pe_ix _ _ _ _ _ _ _ ix_tup (@pv _ 0 _ _ rfl (Or.inl rfl) rfl rfl) (@pe_int _ _ _ _) (fun _ _ => rfl)) (@pe_str _ _ _ _) (nomark _)) (@pe_str _ _ _ _) (@pe_str _ _ _ _))))), ?_⟩
  obtain ⟨v, d', rfl, hv, ⟨ds, z, rfl, hn, hz⟩, kk⟩ := h
  obtain ⟨q, xs, rfl, hq, hx⟩ := dv_tup hv
  cases hx with
  | cons x1 t =>
    cases t with
    | cons x2 t =>
      cases t
      cases dv_str x2
      rename_i x
      refine ⟨_, rfl, q, _, 0, x, rfl, rfl, SqT.of hq, atI_nat (j := 0) rfl, x, ds, rfl, x1, hn, fun H1 s1 => ?_⟩
      have nl := nmT_len hn
      have e1 : ("<" : Str).length = 1 := rfl
      have e2 : (">" : Str).length = 1 := rfl
      refine ⟨_, rfl, q, _, 1, .str z, rfl, rfl, SqT.of (s1 _ _ hq), atI_nat (j := 1) rfl, rfl, _, rfl, ?_⟩
      rcases hz with rfl | rfl
      · refine itT (by decide +kernel) ⟨_, _, rfl, rfl, by rw [e1]; show _ ≤ 16777216; omega, ?_⟩
        exact kk H1 s1
      · refine itF (by decide +kernel) ⟨_, _, rfl, rfl, by rw [e2]; show _ ≤ 16777216; omega, ?_⟩
        exact kk H1 s1
theorem ok_fshown_sign (T : Txt K mg d tk) (gfshown_name : FnOk P w K mg base CX0 1 d.fshown_name d.fshown_named ["name"] (sp_fshown_name K)) : FnOk P w K mg base CX0 2 d.fshown_sign d.fshown_signd ["sign"] (sp_fshown_sign K) := by
  refine T.F_fshown_sign.ok sc_fshown_sign (fun vs H Q E h => len_fshown_sign h) (fun cdv A outer s H vs Q E hr h => ?_)
  have hu : (A.deeper (envOfC "shown_sign" (defScope s_fshown_sign) s.heap.objs.size d.fshown_sign cdv)).units < cLine := hr.units0
  refine ⟨_, (@pss_cons _ _ _ _ _ (@ps_if _ _ _ _ _ _ _ _ (@pt_val _ _ _ (@pe_callB _ _ _ _ _ _ _ _ _ call_isinst (by rfl) T.b_isinstance boot_isinstance (@pa_cons _ _ _ _ _ (@pv _ 0 _ _ rfl (Or.inl rfl) rfl rfl) (@pa_cons _ _ _ _ _ (@pe_bltn _ _ (.ty "str") _ _ (by rfl) T.b_str boot_str rfl (by decide) (by decide)) (@pa_nil _) (by rfl)) (by rfl)) (by decide) (by decide) (by rfl) (by rfl)) (by intro _; rfl)) (@pss_one _ _ _ (@ps_ret _ _ _ _ (@pe_ifExp _ _ _ _ _ _ _ _ (@pt_cmpR _ _ _ _ _ _ _ _ op_eq (@pv _ 0 _ _ rfl (Or.inl rfl) rfl rfl) (@pe_str _ _ _ _) (nomark _)) (@pe_str _ _ _ _) (@pv _ 0 _ _ rfl (Or.inl rfl) rfl rfl)))) (@pss_nil _)) (@pss_cons _ _ _ _ _ (@ps_if _ _ _ _ _ _ _ _ (@pt_cmpR _ _ _ _ _ _ _ _ op_eq (@pe_ix _ _ _ _ _ _ _ ix_tup (@pv _ 0 _ _ rfl (Or.inl rfl) rfl rfl) (@pe_int _ _ _ _) (fun _ _ => rfl)) (@pe_str _ _ _ _) (nomark _)) (@pss_one _ _ _ (@ps_ret _ _ _ _ (@pe_op _ _ _ _ _ _ _ _ op_add_str (@pe_str _ _ _ _) (@pe_ix _ _ _ _ _ _ _ ix_tup (@pv _ 0 _ _ rfl (Or.inl rfl) rfl rfl) (@pe_int _ _ _ _) (fun _ _ => rfl))))) (@pss_nil _)) (@pss_one _ _ _ (@ps_ret _ _ _ _ (@pe_op _ _ _ _ _ _ _ _ op_add_str (@pe_str _ _ _ _) (@pe_call _ _ _ _ _ _ _ _ _ _ _ _ _ _ _ _ gfshown_name (hr.mono (by decide)) (by rfl) T.m_fshown_name T.k_fshown_name T.d_fshown_name .nil pass0 (@pa_cons _ _ _ _ _ (@pe_ix _ _ _ _ _ _ _ ix_tup (@pv _ 0 _ _ rfl (Or.inl rfl) rfl rfl) (@pe_int _ _ _ _) (fun _ _ => rfl)) (@pa_nil _) (by rfl)) (by decide) (by rfl) (by rfl))))))), ?_⟩
  obtain ⟨v, d', rfl, hv, hsg, kk⟩ := h
  rcases hsg with ⟨z, rfl, hz, hzo⟩ | ⟨z, rfl, hz, hzo⟩ | ⟨ds, rfl, hn⟩
  · cases dv_str hv
    refine ⟨_, rfl, _, "str", _, true, rfl, .str z, by rfl, _, rfl, itT rfl ?_⟩
    refine ⟨_, rfl, rfl, _, rfl, ?_⟩
    have kk' : ∀ H', Same H H' → Q (.str (if z = " " then "_" else z)) H' := kk
    by_cases hb : z = " "
    · rw [if_pos hb] at kk'
      exact itT (decide_eq_true (by rw [hb])) (kk' H (Same.refl H))
    · rw [if_neg hb] at kk'
      exact itF (decide_eq_false fun q => hb (V.str.inj q)) ⟨_, rfl, kk' H (Same.refl H)⟩
  · obtain ⟨q, xs, rfl, hq, hx⟩ := dv_tup hv
    cases hx with
    | cons x1 t =>
      cases t with
      | cons x2 t =>
        cases t
        cases dv_str x1
        cases dv_str x2
        refine ⟨_, rfl, _, "str", _, false, rfl, .tup hq, by rfl, _, rfl, itF rfl ?_⟩
        refine ⟨_, rfl, q, _, 0, .str "picture", rfl, rfl, SqT.of hq, atI_nat (j := 0) rfl, rfl, _, rfl, itT (by decide +kernel) ?_⟩
        have e1 : ("*" : Str).length = 1 := rfl
        refine ⟨_, rfl, q, _, 1, .str z, rfl, rfl, SqT.of hq, atI_nat (j := 1) rfl, _, _, rfl, rfl, by rw [e1]; show _ ≤ 16777216; omega, kk H (Same.refl H)⟩
  · obtain ⟨q, xs, rfl, hq, hx⟩ := dv_tup hv
    cases hx with
    | cons x1 t =>
      cases t with
      | cons x2 t =>
        cases t
        cases dv_str x1
        rename_i x
        refine ⟨_, rfl, _, "str", _, false, rfl, .tup hq, by rfl, _, rfl, itF rfl ?_⟩
        refine ⟨_, rfl, q, _, 0, .str "refer", rfl, rfl, SqT.of hq, atI_nat (j := 0) rfl, rfl, _, rfl, itF (by decide +kernel) ?_⟩
        have nl := nmT_len hn
        have e1 : ("#" : Str).length = 1 := rfl
        refine ⟨_, rfl, q, _, 1, x, rfl, rfl, SqT.of hq, atI_nat (j := 1) rfl, x, ds, rfl, x2, hn, fun H1 s1 => ?_⟩
        exact ⟨_, _, rfl, rfl, by rw [e1]; show _ ≤ 16777216; omega, kk H1 s1⟩
theorem ok_f_law_roll (T : Txt K mg d tk) (gf_law_draws : FnOk P w K mg base CX0 1 d.f_law_draws d.f_law_drawsd ["_law_cell", "_law_many"] (sp_f_law_draws K)) (gf_law_word : FnOk P w K mg base CX0 1 d.f_law_word d.f_law_wordd ["_law_number"] (sp_f_law_word K)) : FnOk P w K mg base CX0 2 d.f_law_roll d.f_law_rolld ["_law_cell"] (sp_f_law_roll K) := by
  refine T.F_f_law_roll.ok sc_f_law_roll (fun vs H Q E h => len_f_law_roll h) (fun cdv A outer s H vs Q E hr h => ?_)
  have hu : (A.deeper (envOfC "_law_roll" (defScope s_f_law_roll) s.heap.objs.size d.f_law_roll cdv)).units < cLine := hr.units0
  refine ⟨_, (@pss_cons _ _ _ _ _ (@ps_set _ _ (1) _ _ _ _ sc_f_law_roll.nd rfl (Or.inl rfl) (@pe_call _ _ _ _ _ _ _ _ _ _ _ _ _ _ _ _ gf_law_draws (hr.mono (by decide)) (by rfl) T.m_f_law_draws T.k_f_law_draws T.d_f_law_draws .nil pass0 (@pa_cons _ _ _ _ _ (@pv _ 0 _ _ rfl (Or.inl rfl) rfl rfl) (@pa_cons _ _ _ _ _ (@pe_int _ _ _ _) (@pa_nil _) (by rfl)) (by rfl)) (by decide) (by rfl) (by rfl)) (by rfl) (by first | exact .inl rfl | exact .inr rfl)) (@pss_cons _ _ _ _ _ (@ps_set _ _ (2) _ _ _ _ sc_f_law_roll.nd rfl (Or.inl rfl) (@pe_lstA _ _ _ _ (@pa_nil _)) (by rfl) (by first | exact .inl rfl | exact .inr rfl)) (@pss_cons _ _ _ _ _ (@ps_for _ _ _ _ _ _ _ _ PassesOwn.never rfl (@pi_range1 _ _ _ _ _ _ (by rfl) T.b_range (@pa_cons _ _ _ _ _ (@pe_op _ _ _ _ _ _ _ _ op_add (@pe_int _ _ _ _) (@pe_op _ _ _ _ _ _ _ _ op_mod (@pe_ix _ _ _ _ _ _ _ ix_list (@pv _ 1 _ _ rfl (Or.inl rfl) rfl rfl) (@pe_int _ _ _ _) (fun _ _ => rfl)) (@pe_int _ _ _ _))) (@pa_nil _) (by rfl)) (by rfl)) (@pg_name _ _ (3) _ sc_f_law_roll.nd rfl (Or.inl rfl) (by first | exact .inl rfl | exact .inr rfl)) (@pss_cons _ _ _ _ _ (@ps_set _ _ (4) _ _ _ _ sc_f_law_roll.nd rfl (Or.inl rfl) (@pe_call _ _ _ _ _ _ _ _ _ _ _ _ _ _ _ _ gf_law_word (hr.mono (by decide)) (by rfl) T.m_f_law_word T.k_f_law_word T.d_f_law_word .nil pass0 (@pa_cons _ _ _ _ _ (@pe_ix _ _ _ _ _ _ _ ix_any (@pv _ 1 _ _ rfl (Or.inl rfl) rfl rfl) (@pe_op _ _ _ _ _ _ _ _ op_add (@pe_int _ _ _ _) (@pv _ 3 _ _ rfl (Or.inl rfl) rfl rfl)) (fun _ _ => rfl)) (@pa_nil _) (by rfl)) (by decide) (by rfl) (by rfl)) (by rfl) (by first | exact .inl rfl | exact .inr rfl)) (@pss_cons _ _ _ _ _ (@ps_for _ _ _ _ _ _ _ _ PassesOwn.never rfl (@pi_str _ _ _ _ (@pe_str _ _ _ _)) (@pg_name _ _ (5) _ sc_f_law_roll.nd rfl (Or.inl rfl) (by first | exact .inl rfl | exact .inr rfl)) (@pss_one _ _ _ (@ps_if _ _ _ _ _ _ _ _ (@pt_cmpR _ _ _ _ _ _ _ _ op_in_seq (@pv _ 4 _ _ rfl (Or.inl rfl) rfl rfl) (@pv _ 2 _ _ rfl (Or.inl rfl) rfl rfl) rfl) (@pss_one _ _ _ (@ps_set _ _ (4) _ _ _ _ sc_f_law_roll.nd rfl (Or.inl rfl) (@pe_op _ _ _ _ _ _ _ _ op_add_str (@pe_slice _ _ _ _ _ _ _ _ _ _ sl_strX (@pv _ 4 _ _ rfl (Or.inl rfl) rfl rfl) (@po_none _) (@po_some _ _ _ (@pe_int _ _ _ _))) (@pv _ 5 _ _ rfl (Or.inl rfl) rfl rfl)) (by rfl) (by first | exact .inl rfl | exact .inr rfl))) (@pss_nil _))) (by intro _; rfl)) (@pss_one _ _ _ (@ps_expr _ _ _ _ (@pe_bm _ _ _ _ _ _ _ _ _ _ _ _ PySem.F.plainAttrs_list PySem.F.slot_list_append PySem.F.type_list_append mt_append (@pv _ 2 _ _ rfl (Or.inl rfl) rfl rfl) (@pa_cons _ _ _ _ _ (@pv _ 4 _ _ rfl (Or.inl rfl) rfl rfl) (@pa_nil _) (by rfl)) (by rfl) (by rfl) (by rfl) (by rfl) (by rfl)) (by rfl))))) (by intro _; rfl)) (@pss_one _ _ _ (@ps_ret _ _ _ _ (@pv _ 2 _ _ rfl (Or.inl rfl) rfl rfl)))))), ?_⟩
  obtain ⟨i, rfl, k⟩ := h
  refine ⟨_, rfl, _, 7, rfl, by decide, fun H1 p1 ns s1 g1 d1 hl => ?_⟩
  refine ⟨szOk rfl, fun p2 H2 g2 s2 e2 => ?_⟩
  have d2 := d1.mono s2
  obtain ⟨a0, h0⟩ := d2.get 0 (by decide)
  have fp : H p2 = none := s1.free g2
  have np : p1 ≠ p2 := ne_of_none d1.at' g2
  have hm : 0 ≤ a0 % 5 ∧ a0 % 5 < 5 := ⟨Int.emod_nonneg _ (by decide), Int.emod_lt_of_pos _ (by decide)⟩
  refine ⟨_, rfl, p1, _, 0, .int a0, rfl, rfl, SqL.of d2.at', h0, _, _, rfl, rfl, (by show (0 : Int) < 5; decide), _, _, rfl, rfl, _, rfl, by omega, by omega, for_range (n := (2 + a0 % 5).toNat) (fun j σ H3 => ∃ (ws : List Str) (q3 q4 q5 : Option V), σ = [some (.int i), some (.ref p1), some (.ref p2), q3, q4, q5] ∧ Same H H3 ∧ DR H3 p1 ns 7 ∧
    H3 p2 = some (.lst (ws.map V.str)) ∧ ws.length = j ∧ ws.Nodup ∧ ∀ w ∈ ws, IsW w) ⟨[], none, none, none, rfl, s1.trans s2, d2, e2, rfl, List.nodup_nil, fun _ z => nomatch z⟩ ?_ ?_⟩
  · rintro j σ H3 hj ⟨ws, q3, q4, q5, rfl, s3, d3, e3, hw, nd, hwd⟩
    have hj6 : j < 6 := by omega
    refine ⟨_, rfl, _, rfl, _, _, rfl, rfl, p1, _, _, rfl, rfl, SqL.of d3.at', by omega, by rw [List.length_map, hl]; omega, fun v hv => ?_⟩
    obtain ⟨m, _, rfl⟩ := List.mem_map.mp hv
    refine ⟨m, rfl, fun z hz => ?_⟩
    refine ⟨_, rfl, for_str (z := "abcdefgh") (fun c σ H4 => ∃ (w : Str) (q5 : Option V), σ = [some (.int i), some (.ref p1), some (.ref p2), some (.int (0 + (j : Int))), some (.str w), q5] ∧ H4 = H3 ∧ IsW w ∧ Chain ws c w)
      ⟨z, _, rfl, rfl, hz, chain_zero ws z⟩ ?_ ?_⟩
    · rintro c ch σ H4 hc ⟨w, q5, rfl, rfl, hws, hch⟩
      have hc8 : c < 8 := by
        have := (Array.getElem?_eq_some_iff.mp hc).1
        have e8 : ("abcdefgh" : Str).cps.size = 8 := by decide +kernel
        omega
      have hcc : ch = 97 + c := abc_at hc8 hc
      have hwl : w.length ≤ sizeLine := Nat.le_of_lt (small1000 (show w.cps.size ≤ 1000 from Nat.le_trans hws.2.1 (by decide)))
      refine ⟨_, rfl, _, rfl, p2, _, rfl, .inl (SqL.of e3), rfl, flat_strs ws, _, rfl, ?_⟩
      show if inV (.str w) (ws.map V.str) = true then _ else _
      rw [inV_strs]
      refine ite2 (fun hin => ?_) fun hin => ?_
      · have hin : w ∈ ws := of_decide_eq_true hin
        refine ⟨_, rfl, _, rfl, w, rfl, hwl, ?_⟩
        have hW := isW_next hws (c := ch) (by omega)
        refine ⟨_, rfl, _, _, rfl, rfl, ?_, ?_⟩
        · have h1 : (⟨#[ch]⟩ : Str).length = 1 := rfl
          have h2 : (cutS w none (some 7) ++ ⟨#[ch]⟩ : Str).cps.size = (cutS w none (some 7)).cps.size + 1 := size_app _ _
          have h3 : (cutS w none (some 7)).length = (cutS w none (some 7)).cps.size := rfl
          have := small1000 (n := (cutS w none (some 7)).length + 1) (by have := hW.2.1; omega)
          omega
        · refine ⟨_, _, rfl, rfl, hW, ?_⟩
          rw [hcc]
          exact chain_more hch hin
      · exact ⟨w, _, rfl, rfl, hws, .inl (fun z => hin (decide_eq_true z))⟩
    · rintro σ H4 ⟨w, q5, rfl, rfl, hws, hch⟩
      have hnot : w ∉ ws := by
        have e8 : ("abcdefgh" : Str).cps.size = 8 := by decide +kernel
        rw [e8] at hch
        exact chain_end hch (by omega)
      refine ⟨_, rfl, .inl ⟨rfl, _, SqL.of e3⟩, _, rfl, p2, _, _, rfl, rfl, e3, (by rw [List.length_map]; exact small1000 (by omega)), ?_⟩
      refine ⟨ws ++ [w], _, _, _, rfl, s3.wr fp, ⟨by rw [upd_ne np]; exact d3.at', d3.len, d3.few⟩, by rw [upd_same, List.map_append]; rfl, by rw [List.length_append, List.length_singleton, hw], nodup_snoc nd hnot, fun x hx => by
        rcases List.mem_append.mp hx with y | y
        · exact hwd x y
        · rw [List.mem_singleton.mp y]; exact hws⟩
  · rintro σ H3 ⟨ws, q3, q4, q5, rfl, s3, d3, e3, hw, nd, hwd⟩
    exact ⟨_, rfl, k H3 p2 ws s3 fp ⟨e3, by omega, by omega, hwd⟩ (by omega) nd⟩
theorem ok_f_law_part (T : Txt K mg d tk) (gf_law_name : FnOk P w K mg base CX0 1 d.f_law_name d.f_law_named ["_law_number", "_law_roll_here"] (sp_f_law_name K)) : FnOk P w K mg base CX0 2 d.f_law_part d.f_law_partd ["_law_number", "_law_roll_here"] (sp_f_law_part K) := by
  refine T.F_f_law_part.ok sc_f_law_part (fun vs H Q E h => len_f_law_part h) (fun cdv A outer s H vs Q E hr h => ?_)
  have hu : (A.deeper (envOfC "_law_part" (defScope s_f_law_part) s.heap.objs.size d.f_law_part cdv)).units < cLine := hr.units0
  refine ⟨_, (@pss_cons _ _ _ _ _ (@ps_if _ _ _ _ _ _ _ _ (@pt_cmpR _ _ _ _ _ _ _ _ op_eq (@pe_op _ _ _ _ _ _ _ _ op_mod (@pv _ 0 _ _ rfl (Or.inl rfl) rfl rfl) (@pe_int _ _ _ _)) (@pe_int _ _ _ _) (nomark _)) (@pss_one _ _ _ (@ps_ret _ _ _ _ (@pe_tupA _ _ _ _ _ (@pa_cons _ _ _ _ _ (@pe_str _ _ _ _) (@pa_cons _ _ _ _ _ (@pe_int _ _ _ _) (@pa_nil _) (by rfl)) (by rfl))))) (@pss_nil _)) (@pss_one _ _ _ (@ps_ret _ _ _ _ (@pe_call _ _ _ _ _ _ _ _ _ _ _ _ _ _ _ _ gf_law_name (hr.mono (by decide)) (by rfl) T.m_f_law_name T.k_f_law_name T.d_f_law_name .nil pass0 (@pa_cons _ _ _ _ _ (@pe_op _ _ _ _ _ _ _ _ op_fdiv (@pv _ 0 _ _ rfl (Or.inl rfl) rfl rfl) (@pe_int _ _ _ _)) (@pa_cons _ _ _ _ _ (@pv _ 1 _ _ rfl (Or.inl rfl) rfl rfl) (@pa_nil _) (by rfl)) (by rfl)) (by decide) (by rfl) (by rfl))))), ?_⟩
  obtain ⟨i, p, ws, rfl, hp, k⟩ := h
  refine ⟨_, rfl, _, _, rfl, rfl, (by show (0 : Int) < 3; decide), rfl, _, rfl, ?_⟩
  refine ite2 (fun _ => ?_) fun _ => ?_
  · exact ⟨szOk rfl, fun q H1 g s e => k H1 (.ref q) _ s (.tup e (.cons (.str _) (.cons (.int _) .nil))) ⟨_, rfl, .inl rfl⟩⟩
  · exact ⟨_, rfl, _, _, rfl, rfl, ⟨by decide, by decide⟩, _, rfl, _, p, ws, rfl, hp, fun H1 v d s1 dv hd => k H1 v d s1 dv (let ⟨ds, e, hn⟩ := hd; ⟨ds, e, .inr hn⟩)⟩
theorem ok_f_law_sign_name (T : Txt K mg d tk) (gf_law_name : FnOk P w K mg base CX0 1 d.f_law_name d.f_law_named ["_law_number", "_law_roll_here"] (sp_f_law_name K)) : FnOk P w K mg base CX0 2 d.f_law_sign_name d.f_law_sign_named ["_law_number", "_law_roll_here"] (sp_f_law_sign_name K) := by
  refine T.F_f_law_sign_name.ok sc_f_law_sign_name (fun vs H Q E h => len_f_law_sign_name h) (fun cdv A outer s H vs Q E hr h => ?_)
  have hu : (A.deeper (envOfC "_law_sign_name" (defScope s_f_law_sign_name) s.heap.objs.size d.f_law_sign_name cdv)).units < cLine := hr.units0
  refine ⟨_, (@pss_one _ _ _ (@ps_ret _ _ _ _ (@pe_op _ _ _ _ _ _ _ _ op_catTA (@pe_call _ _ _ _ _ _ _ _ _ _ _ _ _ _ _ _ gf_law_name (hr.mono (by decide)) (by rfl) T.m_f_law_name T.k_f_law_name T.d_f_law_name .nil pass0 (@pa_cons _ _ _ _ _ (@pe_op _ _ _ _ _ _ _ _ op_fdiv (@pv _ 0 _ _ rfl (Or.inl rfl) rfl rfl) (@pe_int _ _ _ _)) (@pa_cons _ _ _ _ _ (@pv _ 1 _ _ rfl (Or.inl rfl) rfl rfl) (@pa_nil _) (by rfl)) (by rfl)) (by decide) (by rfl) (by rfl)) (@pe_tupA _ _ _ _ _ (@pa_cons _ _ _ _ _ (@pe_ix _ _ _ _ _ _ _ ix_any (@pe_lstA _ _ _ _ (@pa_cons _ _ _ _ _ (@pe_op _ _ _ _ _ _ _ _ op_mod (@pe_op _ _ _ _ _ _ _ _ op_fdiv (@pv _ 0 _ _ rfl (Or.inl rfl) rfl rfl) (@pe_int _ _ _ _)) (@pe_int _ _ _ _)) (@pa_cons _ _ _ _ _ (@pe_op _ _ _ _ _ _ _ _ op_pow (@pe_int _ _ _ _) (@pe_int _ _ _ _)) (@pa_nil _) (by rfl)) (by rfl))) (@pe_callTy _ _ _ _ _ _ _ _ _ call_int1 (by rfl) T.b_int boot_int (@pa_cons _ _ _ _ _ (@pe_cmpR _ _ _ _ _ _ _ _ op_eq (@pe_op _ _ _ _ _ _ _ _ op_mod (@pv _ 0 _ _ rfl (Or.inl rfl) rfl rfl) (@pe_int _ _ _ _)) (@pe_int _ _ _ _) (nomark _)) (@pa_nil _) (by rfl)) (by decide) (by decide) (by rfl) (by rfl)) (fun _ _ => rfl)) (@pa_nil _) (by rfl)))))), ?_⟩
  obtain ⟨i, p, ws, rfl, hp, k⟩ := h
  refine ⟨_, rfl, _, _, rfl, rfl, ⟨by decide, by decide⟩, _, rfl, _, p, ws, rfl, hp, fun H1 v d s1 dv hd => ?_⟩
  obtain ⟨ds, rfl, w, n, rfl, hw, n1, n2⟩ := hd
  obtain ⟨q, xs, rfl, hq, hx⟩ := dv_tup dv
  cases hx with
  | cons x1 t =>
  cases t with
  | cons x2 t =>
  cases t
  cases dv_str x1
  cases dv_int x2
  refine ⟨_, rfl, _, _, rfl, rfl, ⟨by decide, by decide⟩, _, _, rfl, rfl, (by show (0 : Int) < 12; decide), _, _, rfl, rfl, ⟨by decide, by decide, by decide⟩, szOk rfl, fun q1 H2 g2 s2 e2 => ?_⟩
  refine ⟨_, rfl, _, _, rfl, rfl, (by show (0 : Int) < 24; decide), rfl, .inr ⟨_, rfl, ?_⟩⟩
  refine ⟨q1, _, _, rfl, rfl, SqL.of e2, bit_lo _, bit_hi2 _, fun v hv => ?_⟩
  obtain ⟨m, rfl, m0, m1⟩ : ∃ m, v = V.int m ∧ 0 ≤ m ∧ m ≤ 1000000 := by
    simp only [List.mem_cons, List.not_mem_nil, or_false] at hv
    rcases hv with rfl | rfl
    · exact ⟨_, rfl, mod_lo _ (by decide), by have := mod_hi (i / 2) (m := 12) (by decide); omega⟩
    · exact ⟨_, rfl, by decide, by decide⟩
  refine ⟨szOk rfl, fun q3 H3 g3 s3 e3 => ?_⟩
  refine ⟨q, q3, _, _, rfl, rfl, SqT.of ((s2.trans s3) _ _ hq), SqT.of e3, by simp, by simp, szOk rfl, fun q4 H4 g4 s4 e4 => ?_⟩
  exact k H4 (.ref q4) _ (((s1.trans s2).trans s3).trans s4) (.tup e4 (.cons (.str w) (.cons (.int n) (.cons (.int m) .nil)))) ⟨_, rfl, w, n, m, rfl, hw, n1, n2, m0, m1⟩
theorem ok_f_law_branch (T : Txt K mg d tk) (gf_law_word : FnOk P w K mg base CX0 1 d.f_law_word d.f_law_wordd ["_law_number"] (sp_f_law_word K)) : FnOk P w K mg base CX0 2 d.f_law_branch d.f_law_branchd ["_law_number", "_law_roll_here"] (sp_f_law_branch K) := by
  refine T.F_f_law_branch.ok sc_f_law_branch (fun vs H Q E h => len_f_law_branch h) (fun cdv A outer s H vs Q E hr h => ?_)
  have hu : (A.deeper (envOfC "_law_branch" (defScope s_f_law_branch) s.heap.objs.size d.f_law_branch cdv)).units < cLine := hr.units0
  refine ⟨_, (@pss_cons _ _ _ _ _ (@ps_if _ _ _ _ _ _ _ _ (@pt_cmpR _ _ _ _ _ _ _ _ op_eq (@pe_op _ _ _ _ _ _ _ _ op_mod (@pv _ 0 _ _ rfl (Or.inl rfl) rfl rfl) (@pe_int _ _ _ _)) (@pe_int _ _ _ _) (nomark _)) (@pss_one _ _ _ (@ps_ret _ _ _ _ (@pe_non _ _ _))) (@pss_nil _)) (@pss_one _ _ _ (@ps_ret _ _ _ _ (@pe_tupA _ _ _ _ _ (@pa_cons _ _ _ _ _ (@pe_ix _ _ _ _ _ _ _ ix_any (@pv _ 1 _ _ rfl (Or.inl rfl) rfl rfl) (@pe_op _ _ _ _ _ _ _ _ op_mod (@pe_op _ _ _ _ _ _ _ _ op_fdiv (@pv _ 0 _ _ rfl (Or.inl rfl) rfl rfl) (@pe_int _ _ _ _)) (@pe_callB _ _ _ _ _ _ _ _ _ call_len_seq (by rfl) T.b_len boot_len (@pa_cons _ _ _ _ _ (@pv _ 1 _ _ rfl (Or.inl rfl) rfl rfl) (@pa_nil _) (by rfl)) (by decide) (by decide) (by rfl) (by rfl))) (fun _ _ => rfl)) (@pa_cons _ _ _ _ _ (@pe_call _ _ _ _ _ _ _ _ _ _ _ _ _ _ _ _ gf_law_word (hr.mono (by decide)) (by rfl) T.m_f_law_word T.k_f_law_word T.d_f_law_word .nil pass0 (@pa_cons _ _ _ _ _ (@pe_op _ _ _ _ _ _ _ _ op_fdiv (@pv _ 0 _ _ rfl (Or.inl rfl) rfl rfl) (@pe_int _ _ _ _)) (@pa_nil _) (by rfl)) (by decide) (by rfl) (by rfl)) (@pa_nil _) (by rfl)) (by rfl)))))), ?_⟩
  obtain ⟨i, p, ws, rfl, hp, k⟩ := h
  refine ⟨_, rfl, _, _, rfl, rfl, (by show (0 : Int) < 2; decide), rfl, _, rfl, ?_⟩
  refine ite2 (fun _ => ?_) fun _ => ?_
  · exact k H .non _ (Same.refl H) .non (.inl rfl)
  · refine ⟨_, rfl, _, rfl, _, _, rfl, rfl, ⟨by decide, by decide⟩, _, rfl, p, _, rfl, .inl (SqL.of hp.at'), _, _, rfl, rfl, hp.len.1, p, _, _, rfl, rfl, SqL.of hp.at', mod_lo _ hp.len.1, mod_hi _ hp.len.1, fun v hv => ?_⟩
    obtain ⟨w, hw, rfl⟩ := List.mem_map.mp hv
    refine ⟨_, rfl, _, _, rfl, rfl, ⟨by decide, by decide⟩, _, rfl, fun z hz => ?_⟩
    exact ⟨szOk rfl, fun q H1 g s e => k H1 (.ref q) _ s (.tup e (.cons (.str w) (.cons (.str z) .nil))) (.inr ⟨w, z, rfl, hw, hz⟩)⟩
theorem ok_f_law_shown_sign (T : Txt K mg d tk) (gf_law_shown_name : FnOk P w K mg base CX0 1 d.f_law_shown_name d.f_law_shown_named ["_law_name_here"] (sp_f_law_shown_name K)) : FnOk P w K mg base CX0 2 d.f_law_shown_sign d.f_law_shown_signd ["_law_sign_here"] (sp_f_law_shown_sign K) := by
  refine T.F_f_law_shown_sign.ok sc_f_law_shown_sign (fun vs H Q E h => len_f_law_shown_sign h) (fun cdv A outer s H vs Q E hr h => ?_)
  have hu : (A.deeper (envOfC "_law_shown_sign" (defScope s_f_law_shown_sign) s.heap.objs.size d.f_law_shown_sign cdv)).units < cLine := hr.units0
  refine ⟨_, (@pss_cons _ _ _ _ _ (@ps_if _ _ _ _ _ _ _ _ (@pt_cmpR _ _ _ _ _ _ _ _ (op_eqD (hu64 hr)) (@pv _ 0 _ _ rfl (Or.inl rfl) rfl rfl) (@pe_str _ _ _ _) (nomark _)) (@pss_one _ _ _ (@ps_ret _ _ _ _ (@pe_str _ _ _ _))) (@pss_nil _)) (@pss_cons _ _ _ _ _ (@ps_if _ _ _ _ _ _ _ _ (@pt_val _ _ _ (@pe_callB _ _ _ _ _ _ _ _ _ call_isinst (by rfl) T.b_isinstance boot_isinstance (@pa_cons _ _ _ _ _ (@pv _ 0 _ _ rfl (Or.inl rfl) rfl rfl) (@pa_cons _ _ _ _ _ (@pe_bltn _ _ (.ty "str") _ _ (by rfl) T.b_str boot_str rfl (by decide) (by decide)) (@pa_nil _) (by rfl)) (by rfl)) (by decide) (by decide) (by rfl) (by rfl)) (by intro _; rfl)) (@pss_one _ _ _ (@ps_ret _ _ _ _ (@pv _ 0 _ _ rfl (Or.inl rfl) rfl rfl))) (@pss_nil _)) (@pss_cons _ _ _ _ _ (@ps_if _ _ _ _ _ _ _ _ (@pt_cmpR _ _ _ _ _ _ _ _ op_eq (@pe_ix _ _ _ _ _ _ _ ix_tup (@pv _ 0 _ _ rfl (Or.inl rfl) rfl rfl) (@pe_int _ _ _ _) (fun _ _ => rfl)) (@pe_str _ _ _ _) (nomark _)) (@pss_one _ _ _ (@ps_ret _ _ _ _ (@pe_op _ _ _ _ _ _ _ _ op_add_str (@pe_str _ _ _ _) (@pe_ix _ _ _ _ _ _ _ ix_tup (@pv _ 0 _ _ rfl (Or.inl rfl) rfl rfl) (@pe_int _ _ _ _) (fun _ _ => rfl))))) (@pss_nil _)) (@pss_one _ _ _ (@ps_ret _ _ _ _ (@pe_op _ _ _ _ _ _ _ _ op_add_str (@pe_str _ _ _ _) (@pe_call _ _ _ _ _ _ _ _ _ _ _ _ _ _ _ _ gf_law_shown_name (hr.mono (by decide)) (by rfl) T.m_f_law_shown_name T.k_f_law_shown_name T.d_f_law_shown_name .nil pass0 (@pa_cons _ _ _ _ _ (@pe_ix _ _ _ _ _ _ _ ix_tup (@pv _ 0 _ _ rfl (Or.inl rfl) rfl rfl) (@pe_int _ _ _ _) (fun _ _ => rfl)) (@pa_nil _) (by rfl)) (by decide) (by rfl) (by rfl)))))))), ?_⟩
  obtain ⟨v, d', rfl, hv, hsg, kk⟩ := h
  rcases hsg with ⟨z, rfl, hz, hzo⟩ | ⟨z, rfl, hz, hzo⟩ | ⟨ds, rfl, hn⟩
  · cases dv_str hv
    have kk' : ∀ H', Same H H' → Q (.str (if z = " " then "_" else z)) H' := kk
    refine ⟨_, rfl, .str z, .str " ", .str z, .str " ", hzo, by decide +kernel, by show min _ 0 ≤ 64; omega, _, rfl, ?_⟩
    by_cases hb : z = " "
    · rw [if_pos hb] at kk'
      refine itT ?_ (kk' H (Same.refl H))
      show (z == " ") = true
      rw [hb]; decide +kernel
    · rw [if_neg hb] at kk'
      refine itF ?_ ?_
      · show (z == " ") = false
        rw [beq_eq_false_iff_ne]; exact hb
      refine ⟨_, rfl, _, "str", _, true, rfl, .str z, by rfl, _, rfl, itT rfl ?_⟩
      exact ⟨_, rfl, kk' H (Same.refl H)⟩
  · obtain ⟨q, xs, rfl, hq, hx⟩ := dv_tup hv
    cases hx with
    | cons x1 t =>
      cases t with
      | cons x2 t =>
        cases t
        cases dv_str x1
        cases dv_str x2
        refine ⟨_, rfl, .tuple [.str "picture", .str z], .str " ", hv.dv, .str " ", ?_, by decide +kernel, by show min _ 0 ≤ 64; omega, _, rfl, itF rfl ?_⟩
        · show (PyData.strOk "picture" && (PyData.strOk z && true)) = true
          rw [hzo]; decide +kernel
        refine ⟨_, rfl, _, "str", _, false, rfl, .tup hq, by rfl, _, rfl, itF rfl ?_⟩
        refine ⟨_, rfl, q, _, 0, .str "picture", rfl, rfl, SqT.of hq, atI_nat (j := 0) rfl, rfl, _, rfl, itT (by decide +kernel) ?_⟩
        have e1 : ("*" : Str).length = 1 := rfl
        refine ⟨_, rfl, q, _, 1, .str z, rfl, rfl, SqT.of hq, atI_nat (j := 1) rfl, _, _, rfl, rfl, by rw [e1]; show _ ≤ 16777216; omega, kk H (Same.refl H)⟩
  · obtain ⟨q, xs, rfl, hq, hx⟩ := dv_tup hv
    cases hx with
    | cons x1 t =>
      cases t with
      | cons x2 t =>
        cases t
        cases dv_str x1
        rename_i x
        refine ⟨_, rfl, .tuple [.str "refer", .tuple ds], .str " ", hv.dv, .str " ", ?_, by decide +kernel, by show min _ 0 ≤ 64; omega, _, rfl, itF rfl ?_⟩
        · show (PyData.strOk "refer" && (PyData.canLayAll0 ds && true)) = true
          rw [lay_name hn]; decide +kernel
        refine ⟨_, rfl, _, "str", _, false, rfl, .tup hq, by rfl, _, rfl, itF rfl ?_⟩
        refine ⟨_, rfl, q, _, 0, .str "refer", rfl, rfl, SqT.of hq, atI_nat (j := 0) rfl, rfl, _, rfl, itF (by decide +kernel) ?_⟩
        have nl := nmT_len hn
        have e1 : ("#" : Str).length = 1 := rfl
        refine ⟨_, rfl, q, _, 1, x, rfl, rfl, SqT.of hq, atI_nat (j := 1) rfl, x, ds, rfl, x2, hn, fun H1 s1 => ?_⟩
        exact ⟨_, _, rfl, rfl, by rw [e1]; show _ ≤ 16777216; omega, kk H1 s1⟩
theorem ok_f_law_shown_side (T : Txt K mg d tk) (gf_law_shown_name : FnOk P w K mg base CX0 1 d.f_law_shown_name d.f_law_shown_named ["_law_name_here"] (sp_f_law_shown_name K)) : FnOk P w K mg base CX0 2 d.f_law_shown_side d.f_law_shown_sided ["_law_side_here"] (sp_f_law_shown_side K) := by
  refine T.F_f_law_shown_side.ok sc_f_law_shown_side (fun vs H Q E h => len_f_law_shown_side h) (fun cdv A outer s H vs Q E hr h => ?_)
  have hu : (A.deeper (envOfC "_law_shown_side" (defScope s_f_law_shown_side) s.heap.objs.size d.f_law_shown_side cdv)).units < cLine := hr.units0
  refine ⟨_, (@pss_one _ _ _ (@ps_ret _ _ _ _ (@pe_op _ _ _ _ _ _ _ _ op_add_str (@pe_call _ _ _ _ _ _ _ _ _ _ _ _ _ _ _ _ gf_law_shown_name (hr.mono (by decide)) (by rfl) T.m_f_law_shown_name T.k_f_law_shown_name T.d_f_law_shown_name .nil pass0 (@pa_cons _ _ _ _ _ (@pe_ix _ _ _ _ _ _ _ ix_tup (@pv _ 0 _ _ rfl (Or.inl rfl) rfl rfl) (@pe_int _ _ _ _) (fun _ _ => rfl)) (@pa_nil _) (by rfl)) (by decide) (by rfl) (by rfl)) (@pe_ix _ _ _ _ _ _ _ ix_list (@pe_lstA _ _ _ _ (@pa_cons _ _ _ _ _ (@pe_str _ _ _ _) (@pa_cons _ _ _ _ _ (@pe_str _ _ _ _) (@pa_nil _) (by rfl)) (by rfl))) (@pe_callTy _ _ _ _ _ _ _ _ _ call_int1 (by rfl) T.b_int boot_int (@pa_cons _ _ _ _ _ (@pe_cmpR _ _ _ _ _ _ _ _ op_eq (@pe_ix _ _ _ _ _ _ _ ix_tup (@pv _ 0 _ _ rfl (Or.inl rfl) rfl rfl) (@pe_int _ _ _ _) (fun _ _ => rfl)) (@pe_str _ _ _ _) (nomark _)) (@pa_nil _) (by rfl)) (by decide) (by decide) (by rfl) (by rfl)) (fun _ _ => rfl))))), ?_⟩
  obtain ⟨v, d', rfl, hv, ⟨ds, z, rfl, hn, hz⟩, kk⟩ := h
  obtain ⟨q, xs, rfl, hq, hx⟩ := dv_tup hv
  cases hx with
  | cons x1 t =>
    cases t with
    | cons x2 t =>
      cases t
      cases dv_str x2
      rename_i x
      refine ⟨_, rfl, q, _, 0, x, rfl, rfl, SqT.of hq, atI_nat (j := 0) rfl, x, ds, rfl, x1, hn, fun H1 s1 => ?_⟩
      have nl := nmT_len hn
      have e1 : ("<" : Str).length = 1 := rfl
      have e2 : (">" : Str).length = 1 := rfl
      refine ⟨szOk rfl, fun w1 H2 g2 s2 f2 => ?_⟩
      refine ⟨_, rfl, q, _, 1, .str z, rfl, rfl, SqT.of ((s1.trans s2) _ _ hq), atI_nat (j := 1) rfl, rfl, .inr ⟨_, rfl, ?_⟩⟩
      rcases hz with rfl | rfl
      · rw [show decide (V.str "ahead" = V.str "behind") = false from by decide +kernel]
        refine ⟨w1, _, 0, .str "<", rfl, rfl, SqL.of f2, rfl, _, _, rfl, rfl, by rw [e1]; show _ ≤ 16777216; omega, ?_⟩
        exact kk H2 (s1.trans s2)
      · rw [show decide (V.str "behind" = V.str "behind") = true from by decide +kernel]
        refine ⟨w1, _, 1, .str ">", rfl, rfl, SqL.of f2, rfl, _, _, rfl, rfl, by rw [e2]; show _ ≤ 16777216; omega, ?_⟩
        exact kk H2 (s1.trans s2)
theorem ok_f_law_or_none (T : Txt K mg d tk) (gf_law_shown_name : FnOk P w K mg base CX0 1 d.f_law_shown_name d.f_law_shown_named ["_law_name_here"] (sp_f_law_shown_name K)) : FnOk P w K mg base CX0 2 d.f_law_or_none d.f_law_or_noned ["_law_thing"] (sp_f_law_or_none K) := by
  refine T.F_f_law_or_none.ok sc_f_law_or_none (fun vs H Q E h => len_f_law_or_none h) (fun cdv A outer s H vs Q E hr h => ?_)
  have hu : (A.deeper (envOfC "_law_or_none" (defScope s_f_law_or_none) s.heap.objs.size d.f_law_or_none cdv)).units < cLine := hr.units0
  refine ⟨_, (@pss_cons _ _ _ _ _ (@ps_if _ _ _ _ _ _ _ _ (@pt_cmpR _ _ _ _ _ _ _ _ op_isN (@pv _ 0 _ _ rfl (Or.inl rfl) rfl rfl) (@pe_non _ _ _) (nomark _)) (@pss_one _ _ _ (@ps_ret _ _ _ _ (@pe_str _ _ _ _))) (@pss_nil _)) (@pss_cons _ _ _ _ _ (@ps_if _ _ _ _ _ _ _ _ (@pt_val _ _ _ (@pe_callB _ _ _ _ _ _ _ _ _ call_isinst (by rfl) T.b_isinstance boot_isinstance (@pa_cons _ _ _ _ _ (@pv _ 0 _ _ rfl (Or.inl rfl) rfl rfl) (@pa_cons _ _ _ _ _ (@pe_bltn _ _ (.ty "str") _ _ (by rfl) T.b_str boot_str rfl (by decide) (by decide)) (@pa_nil _) (by rfl)) (by rfl)) (by decide) (by decide) (by rfl) (by rfl)) (by intro _; rfl)) (@pss_one _ _ _ (@ps_ret _ _ _ _ (@pv _ 0 _ _ rfl (Or.inl rfl) rfl rfl))) (@pss_nil _)) (@pss_one _ _ _ (@ps_ret _ _ _ _ (@pe_call _ _ _ _ _ _ _ _ _ _ _ _ _ _ _ _ gf_law_shown_name (hr.mono (by decide)) (by rfl) T.m_f_law_shown_name T.k_f_law_shown_name T.d_f_law_shown_name .nil pass0 (@pa_cons _ _ _ _ _ (@pv _ 0 _ _ rfl (Or.inl rfl) rfl rfl) (@pa_nil _) (by rfl)) (by decide) (by rfl) (by rfl)))))), ?_⟩
  obtain ⟨v, d', rfl, hv, hok, kk⟩ := h
  cases hok with
  | non =>
    cases dv_non hv
    exact ⟨_, rfl, rfl, _, rfl, itT (decide_eq_true rfl) (kk H (Same.refl H))⟩
  | str z hz =>
    cases dv_str hv
    have kk' : ∀ H', Same H H' → Q (.str (if z = "" then "!" else z)) H' := kk
    rw [if_neg hz] at kk'
    refine ⟨_, rfl, rfl, _, rfl, itF (decide_eq_false fun z => nomatch z) ?_⟩
    refine ⟨_, rfl, _, "str", _, true, rfl, .str z, by rfl, _, rfl, itT rfl ?_⟩
    exact ⟨_, rfl, kk' H (Same.refl H)⟩
  | name ds hn =>
    rw [thT_name hn] at kk
    obtain ⟨q, xs, rfl, hq, hx⟩ := dv_tup hv
    refine ⟨_, rfl, rfl, _, rfl, itF (decide_eq_false fun z => nomatch z) ?_⟩
    refine ⟨_, rfl, _, "str", _, false, rfl, .tup hq, by rfl, _, rfl, itF rfl ?_⟩
    exact ⟨_, rfl, _, _, rfl, hv, hn, kk⟩
theorem ok_fshown_thing (T : Txt K mg d tk) (gfshown_counts : FnOk P w K mg base CX0 1 d.fshown_counts d.fshown_countsd ["counts"] (sp_fshown_counts K)) (gfshown_name : FnOk P w K mg base CX0 1 d.fshown_name d.fshown_named ["name"] (sp_fshown_name K)) (gfshown_side : FnOk P w K mg base CX0 2 d.fshown_side d.fshown_sided ["side"] (sp_fshown_side K)) (gfshown_text : FnOk P w K mg base CX0 1 d.fshown_text d.fshown_textd ["text"] (sp_fshown_text K)) : FnOk P w K mg base CX0 3 d.fshown_thing d.fshown_thingd ["thing"] (sp_fshown_thing K) := by
  refine T.F_fshown_thing.ok sc_fshown_thing (fun vs H Q E h => len_fshown_thing h) (fun cdv A outer s H vs Q E hr h => ?_)
  have hu : (A.deeper (envOfC "shown_thing" (defScope s_fshown_thing) s.heap.objs.size d.fshown_thing cdv)).units < cLine := hr.units0
  refine ⟨_, (@pss_cons _ _ _ _ _ (@ps_if _ _ _ _ _ _ _ _ (@pt_cmpR _ _ _ _ _ _ _ _ op_isN (@pv _ 0 _ _ rfl (Or.inl rfl) rfl rfl) (@pe_non _ _ _) (nomark _)) (@pss_one _ _ _ (@ps_ret _ _ _ _ (@pe_str _ _ _ _))) (@pss_nil _)) (@pss_cons _ _ _ _ _ (@ps_if _ _ _ _ _ _ _ _ (@pt_val _ _ _ (@pe_callB _ _ _ _ _ _ _ _ _ call_isinst (by rfl) T.b_isinstance boot_isinstance (@pa_cons _ _ _ _ _ (@pv _ 0 _ _ rfl (Or.inl rfl) rfl rfl) (@pa_cons _ _ _ _ _ (@pe_bltn _ _ (.ty "bool") _ _ (by rfl) T.b_bool boot_bool rfl (by decide) (by decide)) (@pa_nil _) (by rfl)) (by rfl)) (by decide) (by decide) (by rfl) (by rfl)) (by intro _; rfl)) (@pss_one _ _ _ (@ps_ret _ _ _ _ (@pe_ifExp _ _ _ _ _ _ _ _ (@pt_val _ _ _ (@pv _ 0 _ _ rfl (Or.inl rfl) rfl rfl) (by intro _; rfl)) (@pe_str _ _ _ _) (@pe_str _ _ _ _)))) (@pss_nil _)) (@pss_cons _ _ _ _ _ (@ps_if _ _ _ _ _ _ _ _ (@pt_val _ _ _ (@pe_callB _ _ _ _ _ _ _ _ _ call_isinst (by rfl) T.b_isinstance boot_isinstance (@pa_cons _ _ _ _ _ (@pv _ 0 _ _ rfl (Or.inl rfl) rfl rfl) (@pa_cons _ _ _ _ _ (@pe_bltn _ _ (.ty "int") _ _ (by rfl) T.b_int boot_int rfl (by decide) (by decide)) (@pa_nil _) (by rfl)) (by rfl)) (by decide) (by decide) (by rfl) (by rfl)) (by intro _; rfl)) (@pss_one _ _ _ (@ps_ret _ _ _ _ (@pe_callTy _ _ _ _ _ _ _ _ _ call_strV (by rfl) T.b_str boot_str (@pa_cons _ _ _ _ _ (@pv _ 0 _ _ rfl (Or.inl rfl) rfl rfl) (@pa_nil _) (by rfl)) (by decide) (by decide) (by rfl) (by rfl)))) (@pss_nil _)) (@pss_cons _ _ _ _ _ (@ps_if _ _ _ _ _ _ _ _ (@pt_val _ _ _ (@pe_callB _ _ _ _ _ _ _ _ _ call_isinst (by rfl) T.b_isinstance boot_isinstance (@pa_cons _ _ _ _ _ (@pv _ 0 _ _ rfl (Or.inl rfl) rfl rfl) (@pa_cons _ _ _ _ _ (@pe_bltn _ _ (.ty "str") _ _ (by rfl) T.b_str boot_str rfl (by decide) (by decide)) (@pa_nil _) (by rfl)) (by rfl)) (by decide) (by decide) (by rfl) (by rfl)) (by intro _; rfl)) (@pss_one _ _ _ (@ps_ret _ _ _ _ (@pe_call _ _ _ _ _ _ _ _ _ _ _ _ _ _ _ _ gfshown_text (hr.mono (by decide)) (by rfl) T.m_fshown_text T.k_fshown_text T.d_fshown_text .nil pass0 (@pa_cons _ _ _ _ _ (@pv _ 0 _ _ rfl (Or.inl rfl) rfl rfl) (@pa_nil _) (by rfl)) (by decide) (by rfl) (by rfl)))) (@pss_nil _)) (@pss_cons _ _ _ _ _ (@ps_if _ _ _ _ _ _ _ _ (@pt_val _ _ _ (@pe_callB _ _ _ _ _ _ _ _ _ call_isinst (by rfl) T.b_isinstance boot_isinstance (@pa_cons _ _ _ _ _ (@pe_ix _ _ _ _ _ _ _ ix_tup (@pv _ 0 _ _ rfl (Or.inl rfl) rfl rfl) (@pe_int _ _ _ _) (fun _ _ => rfl)) (@pa_cons _ _ _ _ _ (@pe_bltn _ _ (.ty "int") _ _ (by rfl) T.b_int boot_int rfl (by decide) (by decide)) (@pa_nil _) (by rfl)) (by rfl)) (by decide) (by decide) (by rfl) (by rfl)) (by intro _; rfl)) (@pss_one _ _ _ (@ps_ret _ _ _ _ (@pe_call _ _ _ _ _ _ _ _ _ _ _ _ _ _ _ _ gfshown_counts (hr.mono (by decide)) (by rfl) T.m_fshown_counts T.k_fshown_counts T.d_fshown_counts .nil pass0 (@pa_cons _ _ _ _ _ (@pv _ 0 _ _ rfl (Or.inl rfl) rfl rfl) (@pa_nil _) (by rfl)) (by decide) (by rfl) (by rfl)))) (@pss_nil _)) (@pss_one _ _ _ (@ps_ret _ _ _ _ (@pe_ifExp _ _ _ _ _ _ _ _ (@pt_val _ _ _ (@pe_callB _ _ _ _ _ _ _ _ _ call_isinst (by rfl) T.b_isinstance boot_isinstance (@pa_cons _ _ _ _ _ (@pe_ix _ _ _ _ _ _ _ ix_tup (@pv _ 0 _ _ rfl (Or.inl rfl) rfl rfl) (@pe_int _ _ _ _) (fun _ _ => rfl)) (@pa_cons _ _ _ _ _ (@pe_bltn _ _ (.ty "tuple") _ _ (by rfl) T.b_tuple boot_tuple rfl (by decide) (by decide)) (@pa_nil _) (by rfl)) (by rfl)) (by decide) (by decide) (by rfl) (by rfl)) (by intro _; rfl)) (@pe_call _ _ _ _ _ _ _ _ _ _ _ _ _ _ _ _ gfshown_side (hr.mono (by decide)) (by rfl) T.m_fshown_side T.k_fshown_side T.d_fshown_side .nil pass0 (@pa_cons _ _ _ _ _ (@pv _ 0 _ _ rfl (Or.inl rfl) rfl rfl) (@pa_nil _) (by rfl)) (by decide) (by rfl) (by rfl)) (@pe_call _ _ _ _ _ _ _ _ _ _ _ _ _ _ _ _ gfshown_name (hr.mono (by decide)) (by rfl) T.m_fshown_name T.k_fshown_name T.d_fshown_name .nil pass0 (@pa_cons _ _ _ _ _ (@pv _ 0 _ _ rfl (Or.inl rfl) rfl rfl) (@pa_nil _) (by rfl)) (by decide) (by rfl) (by rfl)))))))))), ?_⟩
  obtain ⟨v, d', rfl, hv, hok, kk⟩ := h
  cases hok with
  | non =>
    cases dv_non hv
    exact ⟨_, rfl, rfl, _, rfl, itT (decide_eq_true rfl) (kk H (Same.refl H))⟩
  | bl b =>
    cases dv_bl hv
    refine ⟨_, rfl, rfl, _, rfl, itF (decide_eq_false fun z => nomatch z) ?_⟩
    refine ⟨_, rfl, _, "bool", _, true, rfl, .bl b, by rfl, _, rfl, itT rfl ?_⟩
    refine ⟨_, rfl, _, rfl, ?_⟩
    cases b with
    | true => exact itT rfl (kk H (Same.refl H))
    | false => exact itF rfl (kk H (Same.refl H))
  | int i hi =>
    cases dv_int hv
    refine ⟨_, rfl, rfl, _, rfl, itF (decide_eq_false fun z => nomatch z) ?_⟩
    refine ⟨_, rfl, _, "bool", _, false, rfl, .int i, by rfl, _, rfl, itF rfl ?_⟩
    refine ⟨_, rfl, _, "int", _, true, rfl, .int i, by rfl, _, rfl, itT rfl ?_⟩
    have := flat_V hv (.inr ⟨i, rfl, hi⟩)
    exact ⟨_, rfl, _, rfl, this.1, kk H (Same.refl H)⟩
  | str z hz =>
    cases dv_str hv
    refine ⟨_, rfl, rfl, _, rfl, itF (decide_eq_false fun z => nomatch z) ?_⟩
    refine ⟨_, rfl, _, "bool", _, false, rfl, .str z, by rfl, _, rfl, itF rfl ?_⟩
    refine ⟨_, rfl, _, "int", _, false, rfl, .str z, by rfl, _, rfl, itF rfl ?_⟩
    refine ⟨_, rfl, _, "str", _, true, rfl, .str z, by rfl, _, rfl, itT rfl ?_⟩
    exact ⟨_, rfl, z, rfl, kk H (Same.refl H)⟩
  | cnt i r hr hf =>
    obtain ⟨q, xs, rfl, hq, hx⟩ := dv_tup hv
    cases hx with
    | cons x1 t =>
      cases dv_int x1
      refine ⟨_, rfl, rfl, _, rfl, itF (decide_eq_false fun z => nomatch z) ?_⟩
      refine ⟨_, rfl, _, "bool", _, false, rfl, .tup hq, by rfl, _, rfl, itF rfl ?_⟩
      refine ⟨_, rfl, _, "int", _, false, rfl, .tup hq, by rfl, _, rfl, itF rfl ?_⟩
      refine ⟨_, rfl, _, "str", _, false, rfl, .tup hq, by rfl, _, rfl, itF rfl ?_⟩
      refine ⟨_, rfl, q, _, 0, .int i, rfl, rfl, SqT.of hq, atI_nat (j := 0) rfl, _, "int", _, true, rfl, .int i, by rfl, _, rfl, itT rfl ?_⟩
      exact ⟨_, rfl, _, _, rfl, hv, by rw [List.length_cons]; omega, hf, kk⟩
  | side d' hs =>
    have hs' := hs
    obtain ⟨ds, z, rfl, hn, hz⟩ := hs
    obtain ⟨q, xs, rfl, hq, hx⟩ := dv_tup hv
    cases hx with
    | cons x1 t =>
      obtain ⟨q2, xs2, rfl, hq2, hx2⟩ := dv_tup x1
      refine ⟨_, rfl, rfl, _, rfl, itF (decide_eq_false fun z => nomatch z) ?_⟩
      refine ⟨_, rfl, _, "bool", _, false, rfl, .tup hq, by rfl, _, rfl, itF rfl ?_⟩
      refine ⟨_, rfl, _, "int", _, false, rfl, .tup hq, by rfl, _, rfl, itF rfl ?_⟩
      refine ⟨_, rfl, _, "str", _, false, rfl, .tup hq, by rfl, _, rfl, itF rfl ?_⟩
      refine ⟨_, rfl, q, _, 0, .ref q2, rfl, rfl, SqT.of hq, atI_nat (j := 0) rfl, _, "int", _, false, rfl, .tup hq2, by rfl, _, rfl, itF rfl ?_⟩
      refine ⟨_, rfl, q, _, 0, .ref q2, rfl, rfl, SqT.of hq, atI_nat (j := 0) rfl, _, "tuple", _, true, rfl, .tup hq2, by rfl, _, rfl, itT rfl ?_⟩
      exact ⟨_, rfl, _, _, rfl, hv, hs', kk⟩
  | name ds hn =>
    rw [thT_name hn] at kk
    obtain ⟨q, xs, rfl, hq, hx⟩ := dv_tup hv
    have hd : ∃ (z : Str) (r : List PyData), ds = .str z :: r := by
      rcases hn with rfl | ⟨h, r, rfl, _⟩
      · exact ⟨_, _, rfl⟩
      · exact ⟨_, _, rfl⟩
    obtain ⟨z, r, rfl⟩ := hd
    cases hx with
    | cons x1 t =>
      cases dv_str x1
      refine ⟨_, rfl, rfl, _, rfl, itF (decide_eq_false fun z => nomatch z) ?_⟩
      refine ⟨_, rfl, _, "bool", _, false, rfl, .tup hq, by rfl, _, rfl, itF rfl ?_⟩
      refine ⟨_, rfl, _, "int", _, false, rfl, .tup hq, by rfl, _, rfl, itF rfl ?_⟩
      refine ⟨_, rfl, _, "str", _, false, rfl, .tup hq, by rfl, _, rfl, itF rfl ?_⟩
      refine ⟨_, rfl, q, _, 0, .str z, rfl, rfl, SqT.of hq, atI_nat (j := 0) rfl, _, "int", _, false, rfl, .str z, by rfl, _, rfl, itF rfl ?_⟩
      refine ⟨_, rfl, q, _, 0, .str z, rfl, rfl, SqT.of hq, atI_nat (j := 0) rfl, _, "tuple", _, false, rfl, .str z, by rfl, _, rfl, itF rfl ?_⟩
      exact ⟨_, rfl, _, _, rfl, hv, hn, kk⟩
theorem ok_f_law_side (T : Txt K mg d tk) (gf_law_sign_name : FnOk P w K mg base CX0 2 d.f_law_sign_name d.f_law_sign_named ["_law_number", "_law_roll_here"] (sp_f_law_sign_name K)) : FnOk P w K mg base CX0 3 d.f_law_side d.f_law_sided ["_law_number", "_law_roll_here"] (sp_f_law_side K) := by
  refine T.F_f_law_side.ok sc_f_law_side (fun vs H Q E h => len_f_law_side h) (fun cdv A outer s H vs Q E hr h => ?_)
  have hu : (A.deeper (envOfC "_law_side" (defScope s_f_law_side) s.heap.objs.size d.f_law_side cdv)).units < cLine := hr.units0
  refine ⟨_, (@pss_one _ _ _ (@ps_ret _ _ _ _ (@pe_tupA _ _ _ _ _ (@pa_cons _ _ _ _ _ (@pe_call _ _ _ _ _ _ _ _ _ _ _ _ _ _ _ _ gf_law_sign_name (hr.mono (by decide)) (by rfl) T.m_f_law_sign_name T.k_f_law_sign_name T.d_f_law_sign_name .nil pass0 (@pa_cons _ _ _ _ _ (@pe_op _ _ _ _ _ _ _ _ op_fdiv (@pv _ 0 _ _ rfl (Or.inl rfl) rfl rfl) (@pe_int _ _ _ _)) (@pa_cons _ _ _ _ _ (@pv _ 1 _ _ rfl (Or.inl rfl) rfl rfl) (@pa_nil _) (by rfl)) (by rfl)) (by decide) (by rfl) (by rfl)) (@pa_cons _ _ _ _ _ (@pe_ix _ _ _ _ _ _ _ ix_any (@pe_lstA _ _ _ _ (@pa_cons _ _ _ _ _ (@pe_str _ _ _ _) (@pa_cons _ _ _ _ _ (@pe_str _ _ _ _) (@pa_nil _) (by rfl)) (by rfl))) (@pe_op _ _ _ _ _ _ _ _ op_mod (@pv _ 0 _ _ rfl (Or.inl rfl) rfl rfl) (@pe_int _ _ _ _)) (fun _ _ => rfl)) (@pa_nil _) (by rfl)) (by rfl))))), ?_⟩
  obtain ⟨i, p, ws, rfl, hp, k⟩ := h
  refine ⟨_, rfl, _, _, rfl, rfl, ⟨by decide, by decide⟩, _, rfl, _, p, ws, rfl, hp, fun H1 v d s1 dv hd => ?_⟩
  obtain ⟨ds, rfl, hn⟩ := hd
  refine ⟨szOk rfl, fun q1 H2 g2 s2 e2 => ?_⟩
  refine ⟨_, rfl, _, _, rfl, rfl, (by show (0 : Int) < 2; decide), q1, _, _, rfl, rfl, SqL.of e2, mod_lo _ (by decide), mod_hi _ (by decide), fun v2 hv => ?_⟩
  obtain ⟨z, rfl, hz⟩ : ∃ z : Str, v2 = .str z ∧ (z = "ahead" ∨ z = "behind") := by
    simp only [List.mem_cons, List.not_mem_nil, or_false] at hv
    rcases hv with rfl | rfl
    · exact ⟨_, rfl, .inl rfl⟩
    · exact ⟨_, rfl, .inr rfl⟩
  exact ⟨szOk rfl, fun q3 H3 g3 s3 e3 => k H3 (.ref q3) _ ((s1.trans s2).trans s3) (.tup e3 (.cons (dv.same (s2.trans s3)) (.cons (.str z) .nil))) ⟨ds, z, rfl, hn, hz⟩⟩
theorem ok_f_law_sign (T : Txt K mg d tk) (gf_law_part : FnOk P w K mg base CX0 2 d.f_law_part d.f_law_partd ["_law_number", "_law_roll_here"] (sp_f_law_part K)) (gf_law_word : FnOk P w K mg base CX0 1 d.f_law_word d.f_law_wordd ["_law_number"] (sp_f_law_word K)) : FnOk P w K mg base CX0 3 d.f_law_sign d.f_law_signd ["_law_number", "_law_roll_here"] (sp_f_law_sign K) := by
  refine T.F_f_law_sign.ok sc_f_law_sign (fun vs H Q E h => len_f_law_sign h) (fun cdv A outer s H vs Q E hr h => ?_)
  have hu : (A.deeper (envOfC "_law_sign" (defScope s_f_law_sign) s.heap.objs.size d.f_law_sign cdv)).units < cLine := hr.units0
  refine ⟨_, (@pss_cons _ _ _ _ _ (@ps_set _ _ (2) _ _ _ _ sc_f_law_sign.nd rfl (Or.inl rfl) (@pe_op _ _ _ _ _ _ _ _ op_mod (@pv _ 0 _ _ rfl (Or.inl rfl) rfl rfl) (@pe_int _ _ _ _)) (by rfl) (by first | exact .inl rfl | exact .inr rfl)) (@pss_cons _ _ _ _ _ (@ps_if _ _ _ _ _ _ _ _ (@pt_cmpR _ _ _ _ _ _ _ _ op_lt (@pv _ 2 _ _ rfl (Or.inl rfl) rfl rfl) (@pe_int _ _ _ _) (nomark _)) (@pss_one _ _ _ (@ps_ret _ _ _ _ (@pe_ix _ _ _ _ _ _ _ ix_str (@pe_str _ _ _ _) (@pv _ 2 _ _ rfl (Or.inl rfl) rfl rfl) (fun _ _ => rfl)))) (@pss_nil _)) (@pss_cons _ _ _ _ _ (@ps_if _ _ _ _ _ _ _ _ (@pt_cmpR _ _ _ _ _ _ _ _ op_eq (@pv _ 2 _ _ rfl (Or.inl rfl) rfl rfl) (@pe_int _ _ _ _) (nomark _)) (@pss_one _ _ _ (@ps_ret _ _ _ _ (@pe_tupA _ _ _ _ _ (@pa_cons _ _ _ _ _ (@pe_str _ _ _ _) (@pa_cons _ _ _ _ _ (@pe_call _ _ _ _ _ _ _ _ _ _ _ _ _ _ _ _ gf_law_word (hr.mono (by decide)) (by rfl) T.m_f_law_word T.k_f_law_word T.d_f_law_word .nil pass0 (@pa_cons _ _ _ _ _ (@pe_op _ _ _ _ _ _ _ _ op_fdiv (@pv _ 0 _ _ rfl (Or.inl rfl) rfl rfl) (@pe_int _ _ _ _)) (@pa_nil _) (by rfl)) (by decide) (by rfl) (by rfl)) (@pa_nil _) (by rfl)) (by rfl))))) (@pss_nil _)) (@pss_one _ _ _ (@ps_ret _ _ _ _ (@pe_tupA _ _ _ _ _ (@pa_cons _ _ _ _ _ (@pe_str _ _ _ _) (@pa_cons _ _ _ _ _ (@pe_call _ _ _ _ _ _ _ _ _ _ _ _ _ _ _ _ gf_law_part (hr.mono (by decide)) (by rfl) T.m_f_law_part T.k_f_law_part T.d_f_law_part .nil pass0 (@pa_cons _ _ _ _ _ (@pe_op _ _ _ _ _ _ _ _ op_fdiv (@pv _ 0 _ _ rfl (Or.inl rfl) rfl rfl) (@pe_int _ _ _ _)) (@pa_cons _ _ _ _ _ (@pv _ 1 _ _ rfl (Or.inl rfl) rfl rfl) (@pa_nil _) (by rfl)) (by rfl)) (by decide) (by rfl) (by rfl)) (@pa_nil _) (by rfl)) (by rfl)))))))), ?_⟩
  obtain ⟨i, p, ws, rfl, hp, k⟩ := h
  refine ⟨_, rfl, _, _, rfl, rfl, (by show (0 : Int) < 31; decide), ?_⟩
  refine ⟨_, rfl, _, _, rfl, rfl, _, rfl, ?_⟩
  refine ite2 (fun h1 => ?_) fun _ => ?_
  · have h1 : i % 31 < 29 := of_decide_eq_true h1
    obtain ⟨c, hc⟩ := atI_in ("abcdefghijklmnopqrstuvwxyz .," : Str).cps.toList (i % 31) (mod_lo _ (by decide)) (by rw [show ("abcdefghijklmnopqrstuvwxyz .," : Str).cps.toList.length = 29 from by decide +kernel]; omega)
    exact ⟨_, rfl, _, _, _, rfl, rfl, (by decide +kernel), hc, k H (.str ⟨#[c]⟩) _ (Same.refl H) (.str _) (.inl ⟨c, rfl, atI_mem hc⟩)⟩
  · refine ⟨_, rfl, rfl, _, rfl, ?_⟩
    refine ite2 (fun _ => ?_) fun _ => ?_
    · refine ⟨_, rfl, _, _, rfl, rfl, ⟨by decide, by decide⟩, _, rfl, fun z hz => ?_⟩
      exact ⟨szOk rfl, fun q H1 g s e => k H1 (.ref q) _ s (.tup e (.cons (.str _) (.cons (.str z) .nil))) (.inr (.inl ⟨z, rfl, hz⟩))⟩
    · refine ⟨_, rfl, _, _, rfl, rfl, ⟨by decide, by decide⟩, _, rfl, _, p, ws, rfl, hp, fun H1 v d s1 dv hd => ?_⟩
      obtain ⟨ds, rfl, hn⟩ := hd
      exact ⟨szOk rfl, fun q2 H2 g s e => k H2 (.ref q2) _ (s1.trans s) (.tup e (.cons (.str _) (.cons (dv.same s) .nil))) (.inr (.inr ⟨ds, rfl, hn⟩))⟩
theorem ok_f_law_sign_names (T : Txt K mg d tk) (gf_law_sign_name : FnOk P w K mg base CX0 2 d.f_law_sign_name d.f_law_sign_named ["_law_number", "_law_roll_here"] (sp_f_law_sign_name K)) : FnOk P w K mg base CX0 3 d.f_law_sign_names d.f_law_sign_namesd ["_law_draws_here", "_law_roll_here"] (sp_f_law_sign_names K) := by
  refine T.F_f_law_sign_names.ok sc_f_law_sign_names (fun vs H Q E h => len_f_law_sign_names h) (fun cdv A outer s H vs Q E hr h => ?_)
  have hu : (A.deeper (envOfC "_law_sign_names" (defScope s_f_law_sign_names) s.heap.objs.size d.f_law_sign_names cdv)).units < cLine := hr.units0
  refine ⟨_, (@pss_cons _ _ _ _ _ (@ps_set _ _ (2) _ _ _ _ sc_f_law_sign_names.nd rfl (Or.inl rfl) (@pe_lstA _ _ _ _ (@pa_nil _)) (by rfl) (by first | exact .inl rfl | exact .inr rfl)) (@pss_cons _ _ _ _ _ (@ps_for _ _ _ _ _ _ _ _ PassesOwn.never rfl (@pi_list _ _ _ _ (@pe_slice _ _ _ _ _ _ _ _ _ _ sl_listA (@pv _ 0 _ _ rfl (Or.inl rfl) rfl rfl) (@po_none _) (@po_some _ _ _ (@pe_op _ _ _ _ _ _ _ _ op_add (@pe_int _ _ _ _) (@pe_op _ _ _ _ _ _ _ _ op_mod (@pe_ix _ _ _ _ _ _ _ ix_list (@pv _ 0 _ _ rfl (Or.inl rfl) rfl rfl) (@pe_int _ _ _ _) (fun _ _ => rfl)) (@pe_int _ _ _ _)))))) (@pg_name _ _ (3) _ sc_f_law_sign_names.nd rfl (Or.inl rfl) (by first | exact .inl rfl | exact .inr rfl)) (@pss_cons _ _ _ _ _ (@ps_set _ _ (4) _ _ _ _ sc_f_law_sign_names.nd rfl (Or.inl rfl) (@pe_call _ _ _ _ _ _ _ _ _ _ _ _ _ _ _ _ gf_law_sign_name (hr.mono (by decide)) (by rfl) T.m_f_law_sign_name T.k_f_law_sign_name T.d_f_law_sign_name .nil pass0 (@pa_cons _ _ _ _ _ (@pe_op _ _ _ _ _ _ _ _ op_fdiv (@pv _ 3 _ _ rfl (Or.inl rfl) rfl rfl) (@pe_int _ _ _ _)) (@pa_cons _ _ _ _ _ (@pv _ 1 _ _ rfl (Or.inl rfl) rfl rfl) (@pa_nil _) (by rfl)) (by rfl)) (by decide) (by rfl) (by rfl)) (by rfl) (by first | exact .inl rfl | exact .inr rfl)) (@pss_one _ _ _ (@ps_if _ _ _ _ _ _ _ _ (@pt_cmpR _ _ _ _ _ _ _ _ (op_notInD (hu63 hr)) (@pv _ 4 _ _ rfl (Or.inl rfl) rfl rfl) (@pv _ 2 _ _ rfl (Or.inl rfl) rfl rfl) rfl) (@pss_one _ _ _ (@ps_expr _ _ _ _ (@pe_bm _ _ _ _ _ _ _ _ _ _ _ _ PySem.F.plainAttrs_list PySem.F.slot_list_append PySem.F.type_list_append mt_append (@pv _ 2 _ _ rfl (Or.inl rfl) rfl rfl) (@pa_cons _ _ _ _ _ (@pv _ 4 _ _ rfl (Or.inl rfl) rfl rfl) (@pa_nil _) (by rfl)) (by rfl) (by rfl) (by rfl) (by rfl) (by rfl)) (by rfl))) (@pss_nil _)))) (by intro _; rfl)) (@pss_one _ _ _ (@ps_ret _ _ _ _ (@pe_callTy _ _ _ _ _ _ _ _ _ call_tupA (by rfl) T.b_tuple boot_tuple (@pa_cons _ _ _ _ _ (@pv _ 2 _ _ rfl (Or.inl rfl) rfl rfl) (@pa_nil _) (by rfl)) (by decide) (by decide) (by rfl) (by rfl)))))), ?_⟩
  obtain ⟨dd, p, ws, ns, rfl, hp, hd, k⟩ := h
  refine ⟨szOk rfl, fun p2 H0 g0 s0 e0 => ?_⟩
  have hd0 := hd.mono s0
  obtain ⟨a0, h0⟩ := hd0.get 0 (by decide)
  refine ⟨_, rfl, _, rfl, dd, _, 0, .int a0, rfl, rfl, SqL.of hd0.at', h0, _, _, rfl, rfl, (by show (0 : Int) < 12; decide), _, _, rfl, rfl, _, rfl, dd, _, rfl, SqL.of hd0.at', fun q1 H1 g1 s1 e1 => ?_⟩
  have hcut := cut_few (xs := List.map V.int ns) (b := 1 + a0 % 12) (by have := mod_lo a0 (m := 12) (by decide); omega) (by have := mod_hi a0 (m := 12) (by decide); omega) (by rw [List.length_map]; exact hd.len)
  have n12 : q1 ≠ p2 := fun z => by rw [z] at g1; rw [e0] at g1; cases g1
  refine ⟨q1, rfl, ⟨_, SqL.of e1⟩, for_list (xs := cutV (List.map V.int ns) none (some (1 + a0 % 12))) (fun j σ H2 => ∃ (xs : List V) (nn : List (List PyData)) (u1 u2 : Option V), σ = [some (.ref dd), some (.ref p), some (.ref p2), u1, u2] ∧ Same H H2 ∧ H2 q1 = some (.lst (cutV (List.map V.int ns) none (some (1 + a0 % 12)))) ∧
    H2 p2 = some (.lst xs) ∧ DTs H2 xs (nn.map .tuple) ∧ nn.length ≤ j ∧ (1 ≤ j → 1 ≤ nn.length) ∧ nn.Nodup ∧ ∀ b ∈ nn, SnD ws b)
    ⟨[], [], none, none, rfl, s0.trans s1, e1, s1 _ _ e0, .nil, Nat.le_refl _, by omega, List.nodup_nil, fun _ z => nomatch z⟩ (fun j σ H2 _ ⟨_, _, _, _, _, _, e, _⟩ => SqL.of e) ?_ ?_⟩
  · rintro j x σ H2 hx ⟨xs, nn, u1, u2, rfl, s2, eq, e2, dn, hps, hp1, nd, hf⟩
    obtain ⟨m, rfl⟩ := cut_int (List.mem_of_getElem? hx)
    have hj : j < 12 := Nat.lt_of_lt_of_le (List.getElem?_eq_some_iff.mp hx).1 hcut.2
    refine ⟨_, rfl, _, _, rfl, rfl, ⟨by decide, by decide⟩, _, rfl, _, p, ws, rfl, hp.mono s2, fun H3 v d s3 dv hdn => ?_⟩
    obtain ⟨nm, rfl, hn⟩ := hdn
    have dn3 := DTs.same s3 dn
    obtain ⟨b1, b2, b3⟩ := hn.plain hp.wd
    have xl : xs.length = nn.length := by rw [dvs_len dn, List.length_map]
    refine ⟨_, rfl, _, rfl, .tuple nm, p2, nn.map .tuple, xs, dv.dv, rfl, .inl (SqL.of (s3 _ _ e2)), dn3.dv, b2, lays_all fun x hx => ?_, by rw [b3]; decide, _, rfl, ?_⟩
    · obtain ⟨y, hy, rfl⟩ := List.mem_map.mp hx
      exact ((hf y hy).plain hp.wd).2.1
    have key := any_eqv (ds := nn.map .tuple) (d := .tuple nm) (fun x hx => by
      obtain ⟨y, hy, rfl⟩ := List.mem_map.mp hx
      exact ((hf y hy).plain hp.wd).1) b1
    refine ite2 (fun hnot => ?_) fun hin => ?_
    · have hnew : nm ∉ nn := fun hm => by
        have := key.mpr (List.mem_map.mpr ⟨nm, hm, rfl⟩)
        rw [this] at hnot
        exact absurd hnot (by decide)
      refine ⟨_, rfl, .inl ⟨rfl, _, SqL.of (s3 _ _ e2)⟩, _, rfl, p2, _, _, rfl, rfl, s3 _ _ e2, small1000 (by omega), ?_⟩
      have fp : H p2 = none := g0
      refine ⟨xs ++ [v], nn ++ [nm], _, _, rfl, (s2.trans s3).wr fp, by rw [upd_ne n12]; exact s3 _ _ eq, upd_same, ?_, by rw [List.length_append, List.length_singleton]; omega, fun _ => by rw [List.length_append, List.length_singleton]; omega, nd_add nd hnew, fun b hb => ?_⟩
      · rw [List.map_append]
        exact DTs.wr (s3 _ _ e2) (fun ys z => by cases z) (dn3.snoc dv)
      · rcases List.mem_append.mp hb with hb | hb
        · exact hf b hb
        · rw [List.mem_singleton.mp hb]; exact hn
    · refine ⟨xs, nn, _, _, rfl, s2.trans s3, s3 _ _ eq, s3 _ _ e2, dn3, by omega, fun _ => ?_, nd, hf⟩
      cases nn with
      | nil => exact absurd rfl hin
      | cons a b => rw [List.length_cons]; omega
  · rintro σ H2 ⟨xs, nn, u1, u2, rfl, s2, eq, e2, dn, hps, hp1, nd, hf⟩
    exact ⟨_, rfl, p2, _, rfl, SqL.of e2, fun l H3 g3 s3 e3 => k H3 (.ref l) nn (s2.trans s3) (.tup e3 (DTs.same s3 dn)) (hp1 (by omega)) (by omega) hf nd⟩
theorem ok_f_law_shown_what (T : Txt K mg d tk) (gf_law_or_none : FnOk P w K mg base CX0 2 d.f_law_or_none d.f_law_or_noned ["_law_thing"] (sp_f_law_or_none K)) (gf_law_shown_name : FnOk P w K mg base CX0 1 d.f_law_shown_name d.f_law_shown_named ["_law_name_here"] (sp_f_law_shown_name K)) (gf_law_shown_side : FnOk P w K mg base CX0 2 d.f_law_shown_side d.f_law_shown_sided ["_law_side_here"] (sp_f_law_shown_side K)) (gf_law_shown_sign : FnOk P w K mg base CX0 2 d.f_law_shown_sign d.f_law_shown_signd ["_law_sign_here"] (sp_f_law_shown_sign K)) : FnOk P w K mg base CX0 3 d.f_law_shown_what d.f_law_shown_whatd ["_law_what_here"] (sp_f_law_shown_what K) := by
  refine T.F_f_law_shown_what.ok sc_f_law_shown_what (fun vs H Q E h => len_f_law_shown_what h) (fun cdv A outer s H vs Q E hr h => ?_)
  have hu : (A.deeper (envOfC "_law_shown_what" (defScope s_f_law_shown_what) s.heap.objs.size d.f_law_shown_what cdv)).units < cLine := hr.units0
  refine ⟨_, (@pss_cons _ _ _ _ _ (@ps_set _ _ (1) _ _ _ _ sc_f_law_shown_what.nd rfl (Or.inl rfl) (@pe_ix _ _ _ _ _ _ _ ix_tup (@pv _ 0 _ _ rfl (Or.inl rfl) rfl rfl) (@pe_int _ _ _ _) (fun _ _ => rfl)) (by rfl) (by first | exact .inl rfl | exact .inr rfl)) (@pss_cons _ _ _ _ _ (@ps_if _ _ _ _ _ _ _ _ (@pt_cmpR _ _ _ _ _ _ _ _ op_eq (@pv _ 1 _ _ rfl (Or.inl rfl) rfl rfl) (@pe_str _ _ _ _) (nomark _)) (@pss_cons _ _ _ _ _ (@ps_setC _ (2) _ _ _ _ _ _ _ _ _ (["_law_sign_here"]) ([]) _ _ _ _ _ sc_f_law_shown_what.nd rfl (Or.inl rfl) rfl (@pi_tup _ _ _ _ (@pe_ix _ _ _ _ _ _ _ ix_tup (@pv _ 0 _ _ rfl (Or.inl rfl) rfl rfl) (@pe_int _ _ _ _) (fun _ _ => rfl))) ⟨rfl, by decide +kernel, by decide +kernel⟩ (caps0 (by decide +kernel)) (fun _ _ _ => (@pg_name _ _ (0) _ (by show List.Nodup (["_law_sign_here"] : List Str); decide +kernel) rfl (Or.inl rfl) (by first | exact .inl rfl | exact .inr rfl))) (fun _ => fresh_name rfl) (fun _ _ _ => (@pts_nil _)) (fun _ _ _ => (@pe_call _ _ _ _ _ _ _ _ _ _ _ _ _ _ _ _ gf_law_shown_sign (hr.mono (by decide)) (by rfl) T.m_f_law_shown_sign T.k_f_law_shown_sign T.d_f_law_shown_sign .nil pass0 (@pa_cons _ _ _ _ _ (@pv _ 0 _ _ rfl (Or.inl rfl) rfl rfl) (@pa_nil _) (by rfl)) (by decide) (by rfl) (by rfl))) (by intro _; rfl) (by rfl) (by first | exact .inl rfl | exact .inr rfl)) (@pss_one _ _ _ (@ps_ret _ _ _ _ (@pe_op _ _ _ _ _ _ _ _ op_catA (@pe_lstA _ _ _ _ (@pa_cons _ _ _ _ _ (@pe_str _ _ _ _) (@pa_cons _ _ _ _ _ (@pe_call _ _ _ _ _ _ _ _ _ _ _ _ _ _ _ _ gf_law_shown_name (hr.mono (by decide)) (by rfl) T.m_f_law_shown_name T.k_f_law_shown_name T.d_f_law_shown_name .nil pass0 (@pa_cons _ _ _ _ _ (@pe_ix _ _ _ _ _ _ _ ix_tup (@pv _ 0 _ _ rfl (Or.inl rfl) rfl rfl) (@pe_int _ _ _ _) (fun _ _ => rfl)) (@pa_nil _) (by rfl)) (by decide) (by rfl) (by rfl)) (@pa_cons _ _ _ _ _ (@pe_call _ _ _ _ _ _ _ _ _ _ _ _ _ _ _ _ gf_law_or_none (hr.mono (by decide)) (by rfl) T.m_f_law_or_none T.k_f_law_or_none T.d_f_law_or_none .nil pass0 (@pa_cons _ _ _ _ _ (@pe_ix _ _ _ _ _ _ _ ix_tup (@pv _ 0 _ _ rfl (Or.inl rfl) rfl rfl) (@pe_int _ _ _ _) (fun _ _ => rfl)) (@pa_nil _) (by rfl)) (by decide) (by rfl) (by rfl)) (@pa_nil _) (by rfl)) (by rfl)) (by rfl))) (@pv _ 2 _ _ rfl (Or.inl rfl) rfl rfl))))) (@pss_nil _)) (@pss_cons _ _ _ _ _ (@ps_if _ _ _ _ _ _ _ _ (@pt_cmpR _ _ _ _ _ _ _ _ op_eq (@pv _ 1 _ _ rfl (Or.inl rfl) rfl rfl) (@pe_str _ _ _ _) (nomark _)) (@pss_one _ _ _ (@ps_ret _ _ _ _ (@pe_op _ _ _ _ _ _ _ _ op_catA (@pe_lstA _ _ _ _ (@pa_cons _ _ _ _ _ (@pe_str _ _ _ _) (@pa_cons _ _ _ _ _ (@pe_call _ _ _ _ _ _ _ _ _ _ _ _ _ _ _ _ gf_law_shown_name (hr.mono (by decide)) (by rfl) T.m_f_law_shown_name T.k_f_law_shown_name T.d_f_law_shown_name .nil pass0 (@pa_cons _ _ _ _ _ (@pe_ix _ _ _ _ _ _ _ ix_tup (@pv _ 0 _ _ rfl (Or.inl rfl) rfl rfl) (@pe_int _ _ _ _) (fun _ _ => rfl)) (@pa_nil _) (by rfl)) (by decide) (by rfl) (by rfl)) (@pa_nil _) (by rfl)) (by rfl))) (@pe_lcomp _ _ _ _ _ _ _ (["_law_name_here"]) ([]) _ _ _ _ _ rfl (@pi_tup _ _ _ _ (@pe_ix _ _ _ _ _ _ _ ix_tup (@pv _ 0 _ _ rfl (Or.inl rfl) rfl rfl) (@pe_int _ _ _ _) (fun _ _ => rfl))) ⟨rfl, by decide +kernel, by decide +kernel⟩ (caps0 (by decide +kernel)) (fun _ _ _ => (@pg_name _ _ (0) _ (by show List.Nodup (["_law_name_here"] : List Str); decide +kernel) rfl (Or.inl rfl) (by first | exact .inl rfl | exact .inr rfl))) (fun _ => fresh_name rfl) (fun _ _ _ => (@pts_nil _)) (fun _ _ _ => (@pe_call _ _ _ _ _ _ _ _ _ _ _ _ _ _ _ _ gf_law_shown_name (hr.mono (by decide)) (by rfl) T.m_f_law_shown_name T.k_f_law_shown_name T.d_f_law_shown_name .nil pass0 (@pa_cons _ _ _ _ _ (@pv _ 0 _ _ rfl (Or.inl rfl) rfl rfl) (@pa_nil _) (by rfl)) (by decide) (by rfl) (by rfl))) (by intro _; rfl))))) (@pss_nil _)) (@pss_cons _ _ _ _ _ (@ps_if _ _ _ _ _ _ _ _ (@PW.pt _ _ _ (@pw_or _ _ _ _ _ _ _ (@pt_cmpR _ _ _ _ _ _ _ _ op_eq (@pv _ 1 _ _ rfl (Or.inl rfl) rfl rfl) (@pe_str _ _ _ _) (nomark _)) (@pw_or1 _ _ _ _ (@pt_cmpR _ _ _ _ _ _ _ _ op_eq (@pv _ 1 _ _ rfl (Or.inl rfl) rfl rfl) (@pe_str _ _ _ _) (nomark _))))) (@pss_cons _ _ _ _ _ (@ps_set _ _ (3) _ _ _ _ sc_f_law_shown_what.nd rfl (Or.inl rfl) (@pe_lstA _ _ _ _ (@pa_cons _ _ _ _ _ (@pe_call _ _ _ _ _ _ _ _ _ _ _ _ _ _ _ _ gf_law_shown_side (hr.mono (by decide)) (by rfl) T.m_f_law_shown_side T.k_f_law_shown_side T.d_f_law_shown_side .nil pass0 (@pa_cons _ _ _ _ _ (@pe_ix _ _ _ _ _ _ _ ix_tup (@pv _ 0 _ _ rfl (Or.inl rfl) rfl rfl) (@pe_int _ _ _ _) (fun _ _ => rfl)) (@pa_nil _) (by rfl)) (by decide) (by rfl) (by rfl)) (@pa_cons _ _ _ _ _ (@pe_call _ _ _ _ _ _ _ _ _ _ _ _ _ _ _ _ gf_law_shown_side (hr.mono (by decide)) (by rfl) T.m_f_law_shown_side T.k_f_law_shown_side T.d_f_law_shown_side .nil pass0 (@pa_cons _ _ _ _ _ (@pe_ix _ _ _ _ _ _ _ ix_tup (@pv _ 0 _ _ rfl (Or.inl rfl) rfl rfl) (@pe_int _ _ _ _) (fun _ _ => rfl)) (@pa_nil _) (by rfl)) (by decide) (by rfl) (by rfl)) (@pa_nil _) (by rfl)) (by rfl))) (by rfl) (by first | exact .inl rfl | exact .inr rfl)) (@pss_one _ _ _ (@ps_ret _ _ _ _ (@pe_op _ _ _ _ _ _ _ _ op_catA (@pe_op _ _ _ _ _ _ _ _ op_catA (@pe_lstA _ _ _ _ (@pa_cons _ _ _ _ _ (@pv _ 1 _ _ rfl (Or.inl rfl) rfl rfl) (@pa_cons _ _ _ _ _ (@pe_call _ _ _ _ _ _ _ _ _ _ _ _ _ _ _ _ gf_law_shown_name (hr.mono (by decide)) (by rfl) T.m_f_law_shown_name T.k_f_law_shown_name T.d_f_law_shown_name .nil pass0 (@pa_cons _ _ _ _ _ (@pe_ix _ _ _ _ _ _ _ ix_tup (@pv _ 0 _ _ rfl (Or.inl rfl) rfl rfl) (@pe_int _ _ _ _) (fun _ _ => rfl)) (@pa_nil _) (by rfl)) (by decide) (by rfl) (by rfl)) (@pa_nil _) (by rfl)) (by rfl))) (@pv _ 3 _ _ rfl (Or.inl rfl) rfl rfl)) (@pe_lcomp _ _ _ _ _ _ _ (["_law_thing"]) ([]) _ _ _ _ _ rfl (@pi_tup _ _ _ _ (@pe_slice _ _ _ _ _ _ _ _ _ _ sl_tup (@pv _ 0 _ _ rfl (Or.inl rfl) rfl rfl) (@po_some _ _ _ (@pe_int _ _ _ _)) (@po_none _))) ⟨rfl, by decide +kernel, by decide +kernel⟩ (caps0 (by decide +kernel)) (fun _ _ _ => (@pg_name _ _ (0) _ (by show List.Nodup (["_law_thing"] : List Str); decide +kernel) rfl (Or.inl rfl) (by first | exact .inl rfl | exact .inr rfl))) (fun _ => fresh_name rfl) (fun _ _ _ => (@pts_nil _)) (fun _ _ _ => (@pe_call _ _ _ _ _ _ _ _ _ _ _ _ _ _ _ _ gf_law_or_none (hr.mono (by decide)) (by rfl) T.m_f_law_or_none T.k_f_law_or_none T.d_f_law_or_none .nil pass0 (@pa_cons _ _ _ _ _ (@pv _ 0 _ _ rfl (Or.inl rfl) rfl rfl) (@pa_nil _) (by rfl)) (by decide) (by rfl) (by rfl))) (by intro _; rfl)))))) (@pss_nil _)) (@pss_cons _ _ _ _ _ (@ps_if _ _ _ _ _ _ _ _ (@pt_cmpR _ _ _ _ _ _ _ _ op_eq (@pv _ 1 _ _ rfl (Or.inl rfl) rfl rfl) (@pe_str _ _ _ _) (nomark _)) (@pss_one _ _ _ (@ps_ret _ _ _ _ (@pe_lstA _ _ _ _ (@pa_cons _ _ _ _ _ (@pe_str _ _ _ _) (@pa_cons _ _ _ _ _ (@pe_call _ _ _ _ _ _ _ _ _ _ _ _ _ _ _ _ gf_law_shown_name (hr.mono (by decide)) (by rfl) T.m_f_law_shown_name T.k_f_law_shown_name T.d_f_law_shown_name .nil pass0 (@pa_cons _ _ _ _ _ (@pe_ix _ _ _ _ _ _ _ ix_tup (@pv _ 0 _ _ rfl (Or.inl rfl) rfl rfl) (@pe_int _ _ _ _) (fun _ _ => rfl)) (@pa_nil _) (by rfl)) (by decide) (by rfl) (by rfl)) (@pa_cons _ _ _ _ _ (@pe_ix _ _ _ _ _ _ _ ix_tup (@pv _ 0 _ _ rfl (Or.inl rfl) rfl rfl) (@pe_int _ _ _ _) (fun _ _ => rfl)) (@pa_cons _ _ _ _ _ (@pe_call _ _ _ _ _ _ _ _ _ _ _ _ _ _ _ _ gf_law_or_none (hr.mono (by decide)) (by rfl) T.m_f_law_or_none T.k_f_law_or_none T.d_f_law_or_none .nil pass0 (@pa_cons _ _ _ _ _ (@pe_ix _ _ _ _ _ _ _ ix_tup (@pv _ 0 _ _ rfl (Or.inl rfl) rfl rfl) (@pe_int _ _ _ _) (fun _ _ => rfl)) (@pa_nil _) (by rfl)) (by decide) (by rfl) (by rfl)) (@pa_nil _) (by rfl)) (by rfl)) (by rfl)) (by rfl))))) (@pss_nil _)) (@pss_cons _ _ _ _ _ (@ps_if _ _ _ _ _ _ _ _ (@pt_cmpR _ _ _ _ _ _ _ _ op_eq (@pv _ 1 _ _ rfl (Or.inl rfl) rfl rfl) (@pe_str _ _ _ _) (nomark _)) (@pss_cons _ _ _ _ _ (@ps_setC _ (4) _ _ _ _ _ _ _ _ _ (["_law_name_here"]) ([]) _ _ _ _ _ sc_f_law_shown_what.nd rfl (Or.inl rfl) rfl (@pi_tup _ _ _ _ (@pe_slice _ _ _ _ _ _ _ _ _ _ sl_tup (@pv _ 0 _ _ rfl (Or.inl rfl) rfl rfl) (@po_some _ _ _ (@pe_int _ _ _ _)) (@po_some _ _ _ (@pe_int _ _ _ _)))) ⟨rfl, by decide +kernel, by decide +kernel⟩ (caps0 (by decide +kernel)) (fun _ _ _ => (@pg_name _ _ (0) _ (by show List.Nodup (["_law_name_here"] : List Str); decide +kernel) rfl (Or.inl rfl) (by first | exact .inl rfl | exact .inr rfl))) (fun _ => fresh_name rfl) (fun _ _ _ => (@pts_nil _)) (fun _ _ _ => (@pe_call _ _ _ _ _ _ _ _ _ _ _ _ _ _ _ _ gf_law_shown_name (hr.mono (by decide)) (by rfl) T.m_f_law_shown_name T.k_f_law_shown_name T.d_f_law_shown_name .nil pass0 (@pa_cons _ _ _ _ _ (@pv _ 0 _ _ rfl (Or.inl rfl) rfl rfl) (@pa_nil _) (by rfl)) (by decide) (by rfl) (by rfl))) (by intro _; rfl) (by rfl) (by first | exact .inl rfl | exact .inr rfl)) (@pss_one _ _ _ (@ps_ret _ _ _ _ (@pe_op _ _ _ _ _ _ _ _ op_catA (@pe_op _ _ _ _ _ _ _ _ op_catA (@pe_lstA _ _ _ _ (@pa_cons _ _ _ _ _ (@pe_str _ _ _ _) (@pa_nil _) (by rfl))) (@pv _ 4 _ _ rfl (Or.inl rfl) rfl rfl)) (@pe_lstA _ _ _ _ (@pa_cons _ _ _ _ _ (@pe_ix _ _ _ _ _ _ _ ix_list (@pe_lstA _ _ _ _ (@pa_cons _ _ _ _ _ (@pe_ix _ _ _ _ _ _ _ ix_tup (@pv _ 0 _ _ rfl (Or.inl rfl) rfl rfl) (@pe_int _ _ _ _) (fun _ _ => rfl)) (@pa_cons _ _ _ _ _ (@pe_str _ _ _ _) (@pa_nil _) (by rfl)) (by rfl))) (@pe_callTy _ _ _ _ _ _ _ _ _ call_int1 (by rfl) T.b_int boot_int (@pa_cons _ _ _ _ _ (@pe_cmpR _ _ _ _ _ _ _ _ op_eq (@pe_ix _ _ _ _ _ _ _ ix_tup (@pv _ 0 _ _ rfl (Or.inl rfl) rfl rfl) (@pe_int _ _ _ _) (fun _ _ => rfl)) (@pe_str _ _ _ _) (nomark _)) (@pa_nil _) (by rfl)) (by decide) (by decide) (by rfl) (by rfl)) (fun _ _ => rfl)) (@pa_nil _) (by rfl))))))) (@pss_nil _)) (@pss_cons _ _ _ _ _ (@ps_if _ _ _ _ _ _ _ _ (@pt_cmpR _ _ _ _ _ _ _ _ op_eq (@pv _ 1 _ _ rfl (Or.inl rfl) rfl rfl) (@pe_str _ _ _ _) (nomark _)) (@pss_one _ _ _ (@ps_ret _ _ _ _ (@pe_lstA _ _ _ _ (@pa_cons _ _ _ _ _ (@pe_str _ _ _ _) (@pa_cons _ _ _ _ _ (@pe_call _ _ _ _ _ _ _ _ _ _ _ _ _ _ _ _ gf_law_shown_name (hr.mono (by decide)) (by rfl) T.m_f_law_shown_name T.k_f_law_shown_name T.d_f_law_shown_name .nil pass0 (@pa_cons _ _ _ _ _ (@pe_ix _ _ _ _ _ _ _ ix_tup (@pv _ 0 _ _ rfl (Or.inl rfl) rfl rfl) (@pe_int _ _ _ _) (fun _ _ => rfl)) (@pa_nil _) (by rfl)) (by decide) (by rfl) (by rfl)) (@pa_cons _ _ _ _ _ (@pe_ix _ _ _ _ _ _ _ ix_tup (@pv _ 0 _ _ rfl (Or.inl rfl) rfl rfl) (@pe_int _ _ _ _) (fun _ _ => rfl)) (@pa_cons _ _ _ _ _ (@pe_ix _ _ _ _ _ _ _ ix_tup (@pv _ 0 _ _ rfl (Or.inl rfl) rfl rfl) (@pe_int _ _ _ _) (fun _ _ => rfl)) (@pa_cons _ _ _ _ _ (@pe_ix _ _ _ _ _ _ _ ix_list (@pe_lstA _ _ _ _ (@pa_cons _ _ _ _ _ (@pe_str _ _ _ _) (@pa_cons _ _ _ _ _ (@pe_str _ _ _ _) (@pa_nil _) (by rfl)) (by rfl))) (@pe_callTy _ _ _ _ _ _ _ _ _ call_int1 (by rfl) T.b_int boot_int (@pa_cons _ _ _ _ _ (@pe_ix _ _ _ _ _ _ _ ix_tup (@pv _ 0 _ _ rfl (Or.inl rfl) rfl rfl) (@pe_int _ _ _ _) (fun _ _ => rfl)) (@pa_nil _) (by rfl)) (by decide) (by decide) (by rfl) (by rfl)) (fun _ _ => rfl)) (@pa_nil _) (by rfl)) (by rfl)) (by rfl)) (by rfl)) (by rfl))))) (@pss_nil _)) (@pss_cons _ _ _ _ _ (@ps_if _ _ _ _ _ _ _ _ (@pt_cmpR _ _ _ _ _ _ _ _ op_eq (@pv _ 1 _ _ rfl (Or.inl rfl) rfl rfl) (@pe_str _ _ _ _) (nomark _)) (@pss_one _ _ _ (@ps_ret _ _ _ _ (@pe_lstA _ _ _ _ (@pa_cons _ _ _ _ _ (@pe_str _ _ _ _) (@pa_cons _ _ _ _ _ (@pe_bm _ _ _ _ _ _ _ _ _ _ _ _ PySem.F.plainAttrs_str PySem.F.slot_str_join PySem.F.type_str_join mt_join (@pe_str _ _ _ _) (@pa_cons _ _ _ _ _ (@pe_lcomp _ _ _ _ _ _ _ (["_law_many"]) ([]) _ _ _ _ _ rfl (@pi_tup _ _ _ _ (@pe_ix _ _ _ _ _ _ _ ix_tup (@pv _ 0 _ _ rfl (Or.inl rfl) rfl rfl) (@pe_int _ _ _ _) (fun _ _ => rfl))) ⟨rfl, by decide +kernel, by decide +kernel⟩ (caps0 (by decide +kernel)) (fun _ _ _ => (@pg_name _ _ (0) _ (by show List.Nodup (["_law_many"] : List Str); decide +kernel) rfl (Or.inl rfl) (by first | exact .inl rfl | exact .inr rfl))) (fun _ => fresh_name rfl) (fun _ _ _ => (@pts_nil _)) (fun _ _ _ => (@pe_callTy _ _ _ _ _ _ _ _ _ call_strV (by rfl) T.b_str boot_str (@pa_cons _ _ _ _ _ (@pv _ 0 _ _ rfl (Or.inl rfl) rfl rfl) (@pa_nil _) (by rfl)) (by decide) (by decide) (by rfl) (by rfl))) (by intro _; rfl)) (@pa_nil _) (by rfl)) (by rfl) (by rfl) (by rfl) (by rfl) (by rfl)) (@pa_nil _) (by rfl)) (by rfl))))) (@pss_nil _)) (@pss_cons _ _ _ _ _ (@ps_if _ _ _ _ _ _ _ _ (@pt_cmpR _ _ _ _ _ _ _ _ op_in_seq (@pv _ 1 _ _ rfl (Or.inl rfl) rfl rfl) (@pe_lstA _ _ _ _ (@pa_cons _ _ _ _ _ (@pe_str _ _ _ _) (@pa_cons _ _ _ _ _ (@pe_str _ _ _ _) (@pa_cons _ _ _ _ _ (@pe_str _ _ _ _) (@pa_cons _ _ _ _ _ (@pe_str _ _ _ _) (@pa_cons _ _ _ _ _ (@pe_str _ _ _ _) (@pa_nil _) (by rfl)) (by rfl)) (by rfl)) (by rfl)) (by rfl))) rfl) (@pss_one _ _ _ (@ps_ret _ _ _ _ (@pe_lcomp _ _ _ _ _ _ _ (["_law_part_here"]) ([]) _ _ _ _ _ rfl (@pi_tup _ _ _ _ (@pv _ 0 _ _ rfl (Or.inl rfl) rfl rfl)) ⟨rfl, by decide +kernel, by decide +kernel⟩ (caps0 (by decide +kernel)) (fun _ _ _ => (@pg_name _ _ (0) _ (by show List.Nodup (["_law_part_here"] : List Str); decide +kernel) rfl (Or.inl rfl) (by first | exact .inl rfl | exact .inr rfl))) (fun _ => fresh_name rfl) (fun _ _ _ => (@pts_nil _)) (fun _ _ _ => (@pe_callTy _ _ _ _ _ _ _ _ _ call_strV (by rfl) T.b_str boot_str (@pa_cons _ _ _ _ _ (@pv _ 0 _ _ rfl (Or.inl rfl) rfl rfl) (@pa_nil _) (by rfl)) (by decide) (by decide) (by rfl) (by rfl))) (by intro _; rfl)))) (@pss_nil _)) (@pss_one _ _ _ (@ps_ret _ _ _ _ (@pe_op _ _ _ _ _ _ _ _ op_catA (@pe_lstA _ _ _ _ (@pa_cons _ _ _ _ _ (@pv _ 1 _ _ rfl (Or.inl rfl) rfl rfl) (@pa_nil _) (by rfl))) (@pe_lcomp _ _ _ _ _ _ _ (["_law_name_here"]) ([]) _ _ _ _ _ rfl (@pi_tup _ _ _ _ (@pe_slice _ _ _ _ _ _ _ _ _ _ sl_tup (@pv _ 0 _ _ rfl (Or.inl rfl) rfl rfl) (@po_some _ _ _ (@pe_int _ _ _ _)) (@po_none _))) ⟨rfl, by decide +kernel, by decide +kernel⟩ (caps0 (by decide +kernel)) (fun _ _ _ => (@pg_name _ _ (0) _ (by show List.Nodup (["_law_name_here"] : List Str); decide +kernel) rfl (Or.inl rfl) (by first | exact .inl rfl | exact .inr rfl))) (fun _ => fresh_name rfl) (fun _ _ _ => (@pts_nil _)) (fun _ _ _ => (@pe_call _ _ _ _ _ _ _ _ _ _ _ _ _ _ _ _ gf_law_shown_name (hr.mono (by decide)) (by rfl) T.m_f_law_shown_name T.k_f_law_shown_name T.d_f_law_shown_name .nil pass0 (@pa_cons _ _ _ _ _ (@pv _ 0 _ _ rfl (Or.inl rfl) rfl rfl) (@pa_nil _) (by rfl)) (by decide) (by rfl) (by rfl))) (by intro _; rfl)))))))))))))), ?_⟩
  obtain ⟨v, ds, ws, rfl, hv, hw, kk⟩ := h
  obtain ⟨q, xs, rfl, hq, hx⟩ := dv_tup hv
  have t0 := Same.refl H
  cases hw with
  | put p b sg hp hb hl hs =>
    cases hx with
    | cons x1 t =>
    cases t with
    | cons x2 t =>
    cases t with
    | cons x3 t =>
    cases t with
    | cons x4 t =>
    cases t
    cases dv_str x1
    obtain ⟨q4, xs4, rfl, hq4, hx4⟩ := dv_tup x4
    rename_i y2 y3
    refine ⟨_, rfl, q, _, 0, .str "put", rfl, rfl, SqT.of hq, atI_nat (j := 0) rfl, ?_⟩
    refine ⟨_, rfl, rfl, _, rfl, itT (decide_eq_true rfl) ?_⟩
    refine ⟨_, rfl, q, _, 3, .ref q4, rfl, rfl, SqT.of hq, atI_nat (j := 3) rfl, q4, rfl, ⟨_, SqT.of hq4⟩, lc_map sgT hq4 hx4 (by omega) (fun x d H' K1 K0 hd dv s k => ?_) fun H1 p1 t1 g1 e1 => ?_⟩
    · refine iteT (B := K0 H') ?_
      exact ⟨_, rfl, x, d, rfl, dv, hs d hd, k⟩
    refine ⟨_, rfl, q, _, 1, y2, rfl, rfl, SqT.of (t1 _ _ hq), atI_nat (j := 1) rfl, y2, p, rfl, x2.same t1, hp, fun H2 s2 => ?_⟩
    have t2 := Same.trans t1 s2
    refine ⟨_, rfl, q, _, 2, y3, rfl, rfl, SqT.of (t2 _ _ hq), atI_nat (j := 2) rfl, y3, b, rfl, x3.same t2, nn_on hb, fun H3 s3 => ?_⟩
    have t3 := Same.trans t2 s3
    refine ⟨szOk rfl, fun p4 H4 g4 s4 e4 => ?_⟩
    have t4 := Same.trans t3 s4
    refine ⟨_, rfl, p4, p1, _, _, rfl, rfl, e4, s4 _ _ (s3 _ _ (s2 _ _ e1)), ?_, fun p5 H5 g5 s5 e5 => kk H5 p5 (t4.trans s5) ?_⟩
    · rw [List.length_map, List.length_map]
      exact Nat.le_of_lt (small1000 (by show 3 + _ ≤ 1000; omega))
    · rw [e5, List.map_append]
      rfl
  | out p ns hp hl hs =>
    cases hx with
    | cons x1 t =>
    cases t with
    | cons x2 t =>
    cases t with
    | cons x4 t =>
    cases t
    cases dv_str x1
    obtain ⟨q4, xs4, rfl, hq4, hx4⟩ := dv_tup x4
    rename_i y2
    refine ⟨_, rfl, q, _, 0, .str "out", rfl, rfl, SqT.of hq, atI_nat (j := 0) rfl, ?_⟩
    refine ⟨_, rfl, rfl, _, rfl, itF (ne_t (by decide +kernel)) ?_⟩
    refine ⟨_, rfl, rfl, _, rfl, itT (decide_eq_true rfl) ?_⟩
    refine ⟨_, rfl, q, _, 1, y2, rfl, rfl, SqT.of (t0 _ _ hq), atI_nat (j := 1) rfl, y2, p, rfl, x2.same t0, hp, fun H2 s2 => ?_⟩
    have t2 := Same.trans t0 s2
    refine ⟨szOk rfl, fun p4 H4 g4 s4 e4 => ?_⟩
    have t4 := Same.trans t2 s4
    refine ⟨_, rfl, q, _, 2, .ref q4, rfl, rfl, SqT.of (t4 _ _ hq), atI_nat (j := 2) rfl, q4, rfl, ⟨_, SqT.of (t4 _ _ hq4)⟩, lc_map thT (t4 _ _ hq4) (DTs.same t4 hx4) (by rw [List.length_map]; omega) (fun x d H' K1 K0 hd dv s k => ?_) fun H6 p6 s6 g6 e6 => ?_⟩
    · refine iteT (B := K0 H') ?_
      obtain ⟨n, hn, rfl⟩ := List.mem_map.mp hd
      rw [thT_name (hs n hn)] at k
      exact ⟨_, rfl, x, n, rfl, dv, hs n hn, k⟩
    refine ⟨p4, p6, _, _, rfl, rfl, s6 _ _ e4, e6, ?_, fun p5 H5 g5 s5 e5 => kk H5 p5 ((t4.trans s6).trans s5) ?_⟩
    · rw [List.length_map, List.length_map, List.length_map]
      exact Nat.le_of_lt (small1000 (by show 2 + _ ≤ 1000; omega))
    · rw [e5, List.map_append, List.map_map (f := PyData.tuple), show List.map (thT ∘ PyData.tuple) ns = List.map nmT ns from List.map_congr_left fun n hn => thT_name (hs n hn)]
      rfl
  | mark k p s1 s2 r hk hp h1 h2 hl hr =>
    cases hx with
    | cons x1 t =>
    cases t with
    | cons x2 t =>
    cases t with
    | cons x3 t =>
    cases t with
    | cons x4 t =>
    cases dv_str x1
    rename_i y2 y3 y4 yr
    have lr := dvs_len t
    refine ⟨_, rfl, q, _, 0, .str k, rfl, rfl, SqT.of hq, atI_nat (j := 0) rfl, ?_⟩
    have hk2 : k ≠ "put" ∧ k ≠ "out" := by rcases hk with rfl | rfl <;> decide +kernel
    refine ⟨_, rfl, rfl, _, rfl, itF (ne_t hk2.1) ?_⟩
    refine ⟨_, rfl, rfl, _, rfl, itF (ne_t hk2.2) ?_⟩
    refine ⟨_, rfl, rfl, _, rfl, ?_⟩
    refine or_two (k := k) (a := "mark") (b := "note") hk ?_ ?_
    · exact fun n => ⟨_, rfl, rfl, _, rfl, n⟩
    refine ⟨_, rfl, q, _, 2, y3, rfl, rfl, SqT.of (t0 _ _ hq), atI_nat (j := 2) rfl, y3, s1, rfl, x3.same t0, h1, fun H11 s11 => ?_⟩
    have t11 := Same.trans t0 s11
    refine ⟨_, rfl, q, _, 3, y4, rfl, rfl, SqT.of (t11 _ _ hq), atI_nat (j := 3) rfl, y4, s2, rfl, x4.same t11, h2, fun H12 s12 => ?_⟩
    have t12 := Same.trans t11 s12
    refine ⟨szOk rfl, fun p13 H13 g13 s13 e13 => ?_⟩
    have t13 := Same.trans t12 s13
    refine ⟨_, rfl, ?_⟩
    refine ⟨_, rfl, q, _, 1, y2, rfl, rfl, SqT.of (t13 _ _ hq), atI_nat (j := 1) rfl, y2, p, rfl, x2.same t13, hp, fun H14 s14 => ?_⟩
    have t14 := Same.trans t13 s14
    refine ⟨szOk rfl, fun p15 H15 g15 s15 e15 => ?_⟩
    have t15 := Same.trans t14 s15
    refine ⟨_, rfl, p15, p13, _, _, rfl, rfl, e15, s15 _ _ (s14 _ _ e13), szOk rfl, fun p16 H16 g16 s16 e16 => ?_⟩
    have t16 := t15.trans s16
    refine ⟨_, rfl, _, rfl, q, _, rfl, SqT.of (t16 _ _ hq), ?_, fun p17 g17 => ?_⟩
    · show ¬ (HT.sIx (yr.length + 4) 0 (some 4) = 0 ∧ _)
      intro z
      have := z.1
      rw [show (4 : Int) = ((4 : Nat) : Int) from rfl, HT.sIx_nat] at this
      omega
    have ec : cutV (.str k :: y2 :: y3 :: y4 :: yr) (some 4) none = yr := by
      unfold cutV
      rw [show (4 : Int) = ((4 : Nat) : Int) from rfl, HT.sIx_nat, HT.sIx_none]
      show List.take (yr.length + 4 - min 4 (yr.length + 4)) (List.drop (min 4 (yr.length + 4)) (V.str k :: y2 :: y3 :: y4 :: yr)) = yr
      rw [Nat.min_eq_left (by omega)]
      show List.take (yr.length + 4 - 4) yr = yr
      exact List.take_of_length_le (by omega)
    rw [ec]
    have n17 : Same H16 (upd H16 p17 (.tup yr)) := Same.new g17
    refine ⟨p17, rfl, ⟨_, SqT.of upd_same⟩, lc_map thT upd_same (DTs.same (t16.trans n17) t) (by omega) (fun x d H' K1 K0 hd dv s k => ?_) fun H18 p18 s18 g18 e18 => ?_⟩
    · refine iteT (B := K0 H') ?_
      exact ⟨_, rfl, x, d, rfl, dv, wn_on (hr d hd), k⟩
    refine ⟨p16, p18, _, _, rfl, rfl, s18 _ _ (n17 _ _ e16), e18, ?_, fun p5 H5 g5 s5 e5 => kk H5 p5 (((t16.trans n17).trans s18).trans s5) ?_⟩
    · rw [List.length_map, List.length_map]
      exact Nat.le_of_lt (small1000 (by show 4 + _ ≤ 1000; omega))
    · rw [e5]
      rfl
  | line p z v hp hz hvv =>
    cases hx with
    | cons x1 t =>
    cases t with
    | cons x2 t =>
    cases t with
    | cons x3 t =>
    cases t with
    | cons x4 t =>
    cases t
    cases dv_str x1
    cases dv_str x3
    rename_i y2 y4
    refine ⟨_, rfl, q, _, 0, .str "line", rfl, rfl, SqT.of hq, atI_nat (j := 0) rfl, ?_⟩
    refine ⟨_, rfl, rfl, _, rfl, itF (ne_t (by decide +kernel)) ?_⟩
    refine ⟨_, rfl, rfl, _, rfl, itF (ne_t (by decide +kernel)) ?_⟩
    refine ⟨_, rfl, rfl, _, rfl, itF (ne_t (by decide +kernel)) ?_⟩
    refine ⟨_, rfl, rfl, _, rfl, itF (ne_t (by decide +kernel)) ?_⟩
    refine ⟨_, rfl, rfl, _, rfl, itT (decide_eq_true rfl) ?_⟩
    refine ⟨_, rfl, q, _, 1, y2, rfl, rfl, SqT.of (t0 _ _ hq), atI_nat (j := 1) rfl, y2, p, rfl, x2.same t0, hp, fun H2 s2 => ?_⟩
    have t2 := Same.trans t0 s2
    refine ⟨_, rfl, q, _, 2, .str z, rfl, rfl, SqT.of (t2 _ _ hq), atI_nat (j := 2) rfl, ?_⟩
    refine ⟨_, rfl, q, _, 3, y4, rfl, rfl, SqT.of (t2 _ _ hq), atI_nat (j := 3) rfl, y4, v, rfl, x4.same t2, nn_on hvv, fun H3 s3 => ?_⟩
    have t3 := Same.trans t2 s3
    refine ⟨szOk rfl, fun p4 H4 g4 s4 e4 => ?_⟩
    have t4 := Same.trans t3 s4
    exact kk H4 p4 t4 e4
  | cell p a b z hp ha hb hz =>
    cases hx with
    | cons x1 t =>
    cases t with
    | cons x2 t =>
    cases t with
    | cons x3 t =>
    cases t with
    | cons x4 t =>
    cases t with
    | cons x5 t =>
    cases t
    cases dv_str x1
    cases dv_str x5
    rename_i y2 y3 y4
    refine ⟨_, rfl, q, _, 0, .str "cell", rfl, rfl, SqT.of hq, atI_nat (j := 0) rfl, ?_⟩
    refine ⟨_, rfl, rfl, _, rfl, itF (ne_t (by decide +kernel)) ?_⟩
    refine ⟨_, rfl, rfl, _, rfl, itF (ne_t (by decide +kernel)) ?_⟩
    refine ⟨_, rfl, rfl, _, rfl, itF (ne_t (by decide +kernel)) ?_⟩
    refine ⟨_, rfl, rfl, _, rfl, itF (ne_t (by decide +kernel)) ?_⟩
    refine ⟨_, rfl, rfl, _, rfl, itF (ne_t (by decide +kernel)) ?_⟩
    refine ⟨_, rfl, rfl, _, rfl, itT (decide_eq_true rfl) ?_⟩
    refine ⟨_, rfl, _, rfl, _, rfl, q, _, rfl, SqT.of hq, by show ¬ (HT.sIx 5 0 (some 1) = 0 ∧ HT.sIx 5 5 (some 4) = 5); decide, fun p2 g2 => ?_⟩
    have n2 : Same H (upd H p2 (.tup [y2, y3, y4])) := Same.new g2
    have hnm : ∀ n ∈ [p, a, b], NmOk n := fun n hn => by
      simp only [List.mem_cons, List.not_mem_nil, or_false] at hn
      rcases hn with rfl | rfl | rfl
      · exact hp
      · exact ha
      · exact hb
    refine ⟨p2, rfl, ⟨_, SqT.of upd_same⟩, lc_map thT (xs := [y2, y3, y4]) (ds := [p, a, b].map .tuple) upd_same ?_ (Nat.le_of_ble_eq_true rfl) (fun x d H' K1 K0 hd dv s k => ?_) fun H3 p3 s3 g3 e3 => ?_⟩
    · exact DTs.same n2 (.cons x2 (.cons x3 (.cons x4 .nil)))
    · refine iteT (B := K0 H') ?_
      obtain ⟨n, hn, rfl⟩ := List.mem_map.mp hd
      rw [thT_name (hnm n hn)] at k
      exact ⟨_, rfl, x, n, rfl, dv, hnm n hn, k⟩
    have t3 := n2.trans s3
    refine ⟨szOk rfl, fun p4 H4 g4 s4 e4 => ?_⟩
    have t4 := t3.trans s4
    refine ⟨_, rfl, p4, p3, _, _, rfl, rfl, e4, s4 _ _ e3, szOk rfl, fun p5 H5 g5 s5 e5 => ?_⟩
    have t5 := t4.trans s5
    refine ⟨_, rfl, q, _, 4, .str z, rfl, rfl, SqT.of (t5 _ _ hq), atI_nat (j := 4) rfl, ?_⟩
    refine ⟨szOk rfl, fun p6 H6 g6 s6 e6 => ?_⟩
    have t6 := Same.trans t5 s6
    refine ⟨_, rfl, q, _, 4, .str z, rfl, rfl, SqT.of (t6 _ _ hq), atI_nat (j := 4) rfl, rfl, .inr ⟨_, rfl, ?_⟩⟩
    have fin : ∀ w : Str, w = (if z = "" then ("!" : Str) else z) → ∀ (H9 : Hp) (p9 : Addr), Same H H9 → H9 p9 = some (.lst (V.str "cell" :: V.str (thT (.tuple p)) :: V.str (thT (.tuple a)) :: V.str (thT (.tuple b)) :: [V.str w])) → Q (.ref p9) H9 := fun w hw H9 p9 s9 e9 => kk H9 p9 s9 (by
      rw [e9, thT_name hp, thT_name ha, thT_name hb, hw]
      rfl)
    by_cases hz0 : z = ""
    · rw [show decide (V.str z = V.str "") = true from decide_eq_true (by rw [hz0])]
      refine ⟨p6, _, 1, .str "!", rfl, rfl, SqL.of e6, rfl, szOk rfl, fun p7 H7 g7 s7 e7 => ?_⟩
      refine ⟨p5, p7, _, _, rfl, rfl, s7 _ _ (s6 _ _ e5), e7, szOk rfl, fun p8 H8 g8 s8 e8 => fin "!" (by rw [if_pos hz0]) H8 p8 ((t6.trans s7).trans s8) e8⟩
    · rw [show decide (V.str z = V.str "") = false from ne_t hz0]
      refine ⟨p6, _, 0, .str z, rfl, rfl, SqL.of e6, rfl, szOk rfl, fun p7 H7 g7 s7 e7 => ?_⟩
      refine ⟨p5, p7, _, _, rfl, rfl, s7 _ _ (s6 _ _ e5), e7, szOk rfl, fun p8 H8 g8 s8 e8 => fin z (by rw [if_neg hz0]) H8 p8 ((t6.trans s7).trans s8) e8⟩
  | leave p w t y hp hw hw8 ht ht8 =>
    cases hx with
    | cons x1 t' =>
    cases t' with
    | cons x2 t' =>
    cases t' with
    | cons x3 t' =>
    cases t' with
    | cons x4 t' =>
    cases t' with
    | cons x5 t' =>
    cases t'
    cases dv_str x1
    cases dv_str x3
    cases dv_str x4
    cases dv_bl x5
    rename_i y2
    refine ⟨_, rfl, q, _, 0, .str "leave", rfl, rfl, SqT.of hq, atI_nat (j := 0) rfl, ?_⟩
    refine ⟨_, rfl, rfl, _, rfl, itF (ne_t (by decide +kernel)) ?_⟩
    refine ⟨_, rfl, rfl, _, rfl, itF (ne_t (by decide +kernel)) ?_⟩
    refine ⟨_, rfl, rfl, _, rfl, itF (ne_t (by decide +kernel)) ?_⟩
    refine ⟨_, rfl, rfl, _, rfl, itF (ne_t (by decide +kernel)) ?_⟩
    refine ⟨_, rfl, rfl, _, rfl, itF (ne_t (by decide +kernel)) ?_⟩
    refine ⟨_, rfl, rfl, _, rfl, itF (ne_t (by decide +kernel)) ?_⟩
    refine ⟨_, rfl, rfl, _, rfl, itT (decide_eq_true rfl) ?_⟩
    refine ⟨_, rfl, q, _, 1, y2, rfl, rfl, SqT.of (t0 _ _ hq), atI_nat (j := 1) rfl, y2, p, rfl, x2.same t0, hp, fun H2 s2 => ?_⟩
    have t2 := Same.trans t0 s2
    refine ⟨_, rfl, q, _, 2, .str w, rfl, rfl, SqT.of (t2 _ _ hq), atI_nat (j := 2) rfl, ?_⟩
    refine ⟨_, rfl, q, _, 3, .str t, rfl, rfl, SqT.of (t2 _ _ hq), atI_nat (j := 3) rfl, ?_⟩
    refine ⟨szOk rfl, fun p6 H6 g6 s6 e6 => ?_⟩
    have t6 := Same.trans t2 s6
    refine ⟨_, rfl, q, _, 4, .bl y, rfl, rfl, SqT.of (t6 _ _ hq), atI_nat (j := 4) rfl, .inr ⟨_, rfl, ?_⟩⟩
    cases y with
    | true =>
      refine ⟨p6, _, 1, .str "yes", rfl, rfl, SqL.of e6, rfl, szOk rfl, fun p7 H7 g7 s7 e7 => kk H7 p7 (t6.trans s7) e7⟩
    | false =>
      refine ⟨p6, _, 0, .str "no", rfl, rfl, SqL.of e6, rfl, szOk rfl, fun p7 H7 g7 s7 e7 => kk H7 p7 (t6.trans s7) e7⟩
  | pour i r hl hr =>
    cases hx with
    | cons x1 t =>
    cases t with
    | cons x2 t =>
    cases t
    cases dv_str x1
    obtain ⟨q4, xs4, rfl, hq4, hx4⟩ := dv_tup x2
    refine ⟨_, rfl, q, _, 0, .str "pour", rfl, rfl, SqT.of hq, atI_nat (j := 0) rfl, ?_⟩
    refine ⟨_, rfl, rfl, _, rfl, itF (ne_t (by decide +kernel)) ?_⟩
    refine ⟨_, rfl, rfl, _, rfl, itF (ne_t (by decide +kernel)) ?_⟩
    refine ⟨_, rfl, rfl, _, rfl, itF (ne_t (by decide +kernel)) ?_⟩
    refine ⟨_, rfl, rfl, _, rfl, itF (ne_t (by decide +kernel)) ?_⟩
    refine ⟨_, rfl, rfl, _, rfl, itF (ne_t (by decide +kernel)) ?_⟩
    refine ⟨_, rfl, rfl, _, rfl, itF (ne_t (by decide +kernel)) ?_⟩
    refine ⟨_, rfl, rfl, _, rfl, itF (ne_t (by decide +kernel)) ?_⟩
    refine ⟨_, rfl, rfl, _, rfl, itT (decide_eq_true rfl) ?_⟩
    refine ⟨rfl, _, rfl, q, _, 1, .ref q4, rfl, rfl, SqT.of hq, atI_nat (j := 1) rfl, q4, rfl, ⟨_, SqT.of hq4⟩, lc_map strD hq4 hx4 (by rw [List.length_cons]; omega) (fun x d H' K1 K0 hd dv s k => ?_) fun H6 p6 s6 g6 e6 => ?_⟩
    · obtain ⟨f1, f2⟩ := flat_V dv (hr d hd)
      refine iteT (B := K0 H') ?_
      refine ⟨_, rfl, x, rfl, f1, ?_⟩
      rw [f2]
      exact k H' (Same.refl H')
    refine ⟨",", p6, _, rfl, rfl, SqL.of e6, ?_, szOk rfl, fun p7 H7 g7 s7 e7 => kk H7 p7 (s6.trans s7) e7⟩
    have a := sum_len hr
    have e1 : ("," : Str).length = 1 := rfl
    rw [e1, List.length_map]
    rw [List.length_cons] at a ⊢
    omega
  | few k r hk hl hr =>
    cases hx with
    | cons x1 t =>
    cases dv_str x1
    rename_i yr
    refine ⟨_, rfl, q, _, 0, .str k, rfl, rfl, SqT.of hq, atI_nat (j := 0) rfl, ?_⟩
    have hk2 : k.length ≤ 8 ∧ k ≠ "put" ∧ k ≠ "out" ∧ k ≠ "mark" ∧ k ≠ "note" ∧ k ≠ "line" ∧ k ≠ "cell" ∧ k ≠ "leave" ∧ k ≠ "pour" ∧ inV (.str k) [.str "back", .str "again", .str "bring", .str "drop", .str "nothing"] = true := by rcases hk with rfl | rfl | rfl | rfl | rfl <;> decide +kernel
    obtain ⟨k8, k1, k2, k3, k4, k5, k6, k7, k9, ki⟩ := hk2
    refine ⟨_, rfl, rfl, _, rfl, itF (ne_t k1) ?_⟩
    refine ⟨_, rfl, rfl, _, rfl, itF (ne_t k2) ?_⟩
    refine ⟨_, rfl, rfl, _, rfl, itF (ne_t k3) ?_⟩
    refine ⟨_, rfl, rfl, _, rfl, itF (ne_t k4) ?_⟩
    refine ⟨_, rfl, rfl, _, rfl, itF (ne_t k5) ?_⟩
    refine ⟨_, rfl, rfl, _, rfl, itF (ne_t k6) ?_⟩
    refine ⟨_, rfl, rfl, _, rfl, itF (ne_t k7) ?_⟩
    refine ⟨_, rfl, rfl, _, rfl, itF (ne_t k9) ?_⟩
    refine ⟨_, rfl, szOk rfl, fun p1 H1 g1 s1 e1 => ?_⟩
    refine ⟨p1, _, rfl, .inl (SqL.of e1), rfl, rfl, _, rfl, itT ki ?_⟩
    refine ⟨_, rfl, q, rfl, ⟨_, SqT.of (s1 _ _ hq)⟩, lc_map strD (ds := .str k :: r) (s1 _ _ hq) (DTs.same s1 (.cons (.str k) t)) (by rw [List.length_cons]; omega) (fun x d H' K1 K0 hd dv s kq => ?_) fun H6 p6 s6 g6 e6 => kk H6 p6 (s1.trans s6) e6⟩
    have fd : Flat1 d := by
      rcases List.mem_cons.mp hd with rfl | hd
      · exact .inl ⟨k, rfl, k8⟩
      · exact (hr d hd).1
    obtain ⟨f1, f2⟩ := flat_V dv fd
    refine iteT (B := K0 H') ?_
    refine ⟨_, rfl, x, rfl, f1, ?_⟩
    rw [f2]
    exact kq H' (Same.refl H')
  | names k ns hk hl hn =>
    cases hx with
    | cons x1 t =>
    cases dv_str x1
    rename_i yr
    have lr := dvs_len t
    rw [List.length_map] at lr
    refine ⟨_, rfl, q, _, 0, .str k, rfl, rfl, SqT.of hq, atI_nat (j := 0) rfl, ?_⟩
    have hk2 : k.length ≤ 8 ∧ k ≠ "put" ∧ k ≠ "out" ∧ k ≠ "mark" ∧ k ≠ "note" ∧ k ≠ "line" ∧ k ≠ "cell" ∧ k ≠ "leave" ∧ k ≠ "pour" ∧ inV (.str k) [.str "back", .str "again", .str "bring", .str "drop", .str "nothing"] = false := by rcases hk with rfl | rfl | rfl | rfl <;> decide +kernel
    obtain ⟨k8, k1, k2, k3, k4, k5, k6, k7, k9, ki⟩ := hk2
    refine ⟨_, rfl, rfl, _, rfl, itF (ne_t k1) ?_⟩
    refine ⟨_, rfl, rfl, _, rfl, itF (ne_t k2) ?_⟩
    refine ⟨_, rfl, rfl, _, rfl, itF (ne_t k3) ?_⟩
    refine ⟨_, rfl, rfl, _, rfl, itF (ne_t k4) ?_⟩
    refine ⟨_, rfl, rfl, _, rfl, itF (ne_t k5) ?_⟩
    refine ⟨_, rfl, rfl, _, rfl, itF (ne_t k6) ?_⟩
    refine ⟨_, rfl, rfl, _, rfl, itF (ne_t k7) ?_⟩
    refine ⟨_, rfl, rfl, _, rfl, itF (ne_t k9) ?_⟩
    refine ⟨_, rfl, szOk rfl, fun p1 H1 g1 s1 e1 => ?_⟩
    refine ⟨p1, _, rfl, .inl (SqL.of e1), rfl, rfl, _, rfl, itF ki ?_⟩
    refine ⟨_, rfl, szOk rfl, fun p2 H2 g2 s2 e2 => ?_⟩
    have t2 := s1.trans s2
    refine ⟨_, rfl, _, rfl, q, _, rfl, SqT.of (t2 _ _ hq), ?_, fun p17 g17 => ?_⟩
    · show ¬ (HT.sIx (yr.length + 1) 0 (some 1) = 0 ∧ _)
      intro z
      have := z.1
      rw [show (1 : Int) = ((1 : Nat) : Int) from rfl, HT.sIx_nat] at this
      omega
    have ec : cutV (.str k :: yr) (some 1) none = yr := by
      unfold cutV
      rw [show (1 : Int) = ((1 : Nat) : Int) from rfl, HT.sIx_nat, HT.sIx_none]
      show List.take (yr.length + 1 - min 1 (yr.length + 1)) (List.drop (min 1 (yr.length + 1)) (V.str k :: yr)) = yr
      rw [Nat.min_eq_left (by omega)]
      show List.take (yr.length + 1 - 1) yr = yr
      exact List.take_of_length_le (by omega)
    rw [ec]
    have n17 : Same H2 (upd H2 p17 (.tup yr)) := Same.new g17
    refine ⟨p17, rfl, ⟨_, SqT.of upd_same⟩, lc_map thT upd_same (DTs.same (t2.trans n17) t) (by rw [List.length_map]; omega) (fun x d H' K1 K0 hd dv s kq => ?_) fun H18 p18 s18 g18 e18 => ?_⟩
    · refine iteT (B := K0 H') ?_
      obtain ⟨n, hn', rfl⟩ := List.mem_map.mp hd
      rw [thT_name (hn n hn')] at kq
      exact ⟨_, rfl, x, n, rfl, dv, hn n hn', kq⟩
    refine ⟨p2, p18, _, _, rfl, rfl, s18 _ _ (n17 _ _ e2), e18, ?_, fun p5 H5 g5 s5 e5 => kk H5 p5 (((t2.trans n17).trans s18).trans s5) ?_⟩
    · rw [List.length_map, List.length_map, List.length_map]
      exact Nat.le_of_lt (small1000 (by show 1 + _ ≤ 1000; omega))
    · rw [e5, List.map_map (f := PyData.tuple), show List.map (thT ∘ PyData.tuple) ns = List.map nmT ns from List.map_congr_left fun n hn' => thT_name (hn n hn')]
      rfl
theorem ok_fwords_of (T : Txt K mg d tk) (gfshown_name : FnOk P w K mg base CX0 1 d.fshown_name d.fshown_named ["name"] (sp_fshown_name K)) (gfshown_sign : FnOk P w K mg base CX0 2 d.fshown_sign d.fshown_signd ["sign"] (sp_fshown_sign K)) (gfshown_thing : FnOk P w K mg base CX0 3 d.fshown_thing d.fshown_thingd ["thing"] (sp_fshown_thing K)) : FnOk P w K mg base CX0 4 d.fwords_of d.fwords_ofd ["what"] (sp_fwords_of K) := by
  refine T.F_fwords_of.ok sc_fwords_of (fun vs H Q E h => len_fwords_of h) (fun cdv A outer s H vs Q E hr h => ?_)
  have hu : (A.deeper (envOfC "words_of" (defScope s_fwords_of) s.heap.objs.size d.fwords_of cdv)).units < cLine := hr.units0
  refine ⟨_, (@pss_cons _ _ _ _ _ (@ps_if _ _ _ _ _ _ _ _ (@pt_cmpR _ _ _ _ _ _ _ _ op_eq (@pe_ix _ _ _ _ _ _ _ ix_tup (@pv _ 0 _ _ rfl (Or.inl rfl) rfl rfl) (@pe_int _ _ _ _) (fun _ _ => rfl)) (@pe_str _ _ _ _) (nomark _)) (@pss_one _ _ _ (@ps_setC _ (1) _ _ _ _ _ _ _ _ _ (["sign"]) ([]) _ _ _ _ _ sc_fwords_of.nd rfl (Or.inl rfl) rfl (@pi_tup _ _ _ _ (@pe_ix _ _ _ _ _ _ _ ix_tup (@pv _ 0 _ _ rfl (Or.inl rfl) rfl rfl) (@pe_int _ _ _ _) (fun _ _ => rfl))) ⟨rfl, by decide +kernel, by decide +kernel⟩ (caps0 (by decide +kernel)) (fun _ _ _ => (@pg_name _ _ (0) _ (by show List.Nodup (["sign"] : List Str); decide +kernel) rfl (Or.inl rfl) (by first | exact .inl rfl | exact .inr rfl))) (fun _ => fresh_name rfl) (fun _ _ _ => (@pts_nil _)) (fun _ _ _ => (@pe_call _ _ _ _ _ _ _ _ _ _ _ _ _ _ _ _ gfshown_sign (hr.mono (by decide)) (by rfl) T.m_fshown_sign T.k_fshown_sign T.d_fshown_sign .nil pass0 (@pa_cons _ _ _ _ _ (@pv _ 0 _ _ rfl (Or.inl rfl) rfl rfl) (@pa_nil _) (by rfl)) (by decide) (by rfl) (by rfl))) (by intro _; rfl) (by rfl) (by first | exact .inl rfl | exact .inr rfl))) (@pss_one _ _ _ (@ps_if _ _ _ _ _ _ _ _ (@pt_cmpR _ _ _ _ _ _ _ _ op_eq (@pe_ix _ _ _ _ _ _ _ ix_tup (@pv _ 0 _ _ rfl (Or.inl rfl) rfl rfl) (@pe_int _ _ _ _) (fun _ _ => rfl)) (@pe_str _ _ _ _) (nomark _)) (@pss_one _ _ _ (@ps_setC _ (1) _ _ _ _ _ _ _ _ _ (["name"]) ([]) _ _ _ _ _ sc_fwords_of.nd rfl (Or.inl rfl) rfl (@pi_tup _ _ _ _ (@pe_ix _ _ _ _ _ _ _ ix_tup (@pv _ 0 _ _ rfl (Or.inl rfl) rfl rfl) (@pe_int _ _ _ _) (fun _ _ => rfl))) ⟨rfl, by decide +kernel, by decide +kernel⟩ (caps0 (by decide +kernel)) (fun _ _ _ => (@pg_name _ _ (0) _ (by show List.Nodup (["name"] : List Str); decide +kernel) rfl (Or.inl rfl) (by first | exact .inl rfl | exact .inr rfl))) (fun _ => fresh_name rfl) (fun _ _ _ => (@pts_nil _)) (fun _ _ _ => (@pe_call _ _ _ _ _ _ _ _ _ _ _ _ _ _ _ _ gfshown_name (hr.mono (by decide)) (by rfl) T.m_fshown_name T.k_fshown_name T.d_fshown_name .nil pass0 (@pa_cons _ _ _ _ _ (@pv _ 0 _ _ rfl (Or.inl rfl) rfl rfl) (@pa_nil _) (by rfl)) (by decide) (by rfl) (by rfl))) (by intro _; rfl) (by rfl) (by first | exact .inl rfl | exact .inr rfl))) (@pss_one _ _ _ (@ps_ret _ _ _ _ (@pe_lcomp _ _ _ _ _ _ _ (["thing"]) ([]) _ _ _ _ _ rfl (@pi_tup _ _ _ _ (@pv _ 0 _ _ rfl (Or.inl rfl) rfl rfl)) ⟨rfl, by decide +kernel, by decide +kernel⟩ (caps0 (by decide +kernel)) (fun _ _ _ => (@pg_name _ _ (0) _ (by show List.Nodup (["thing"] : List Str); decide +kernel) rfl (Or.inl rfl) (by first | exact .inl rfl | exact .inr rfl))) (fun _ => fresh_name rfl) (fun _ _ _ => (@pts_nil _)) (fun _ _ _ => (@pe_call _ _ _ _ _ _ _ _ _ _ _ _ _ _ _ _ gfshown_thing (hr.mono (by decide)) (by rfl) T.m_fshown_thing T.k_fshown_thing T.d_fshown_thing .nil pass0 (@pa_cons _ _ _ _ _ (@pv _ 0 _ _ rfl (Or.inl rfl) rfl rfl) (@pa_nil _) (by rfl)) (by decide) (by rfl) (by rfl))) (by intro _; rfl))))))) (@pss_one _ _ _ (@ps_ret _ _ _ _ (@pe_op _ _ _ _ _ _ _ _ op_catA (@pe_lcomp _ _ _ _ _ _ _ (["thing"]) ([]) _ _ _ _ _ rfl (@pi_tup _ _ _ _ (@pe_slice _ _ _ _ _ _ _ _ _ _ sl_tup (@pv _ 0 _ _ rfl (Or.inl rfl) rfl rfl) (@po_none _) (@po_some _ _ _ (@pe_un _ _ _ _ _ _ un_neg (@pe_int _ _ _ _))))) ⟨rfl, by decide +kernel, by decide +kernel⟩ (caps0 (by decide +kernel)) (fun _ _ _ => (@pg_name _ _ (0) _ (by show List.Nodup (["thing"] : List Str); decide +kernel) rfl (Or.inl rfl) (by first | exact .inl rfl | exact .inr rfl))) (fun _ => fresh_name rfl) (fun _ _ _ => (@pts_nil _)) (fun _ _ _ => (@pe_call _ _ _ _ _ _ _ _ _ _ _ _ _ _ _ _ gfshown_thing (hr.mono (by decide)) (by rfl) T.m_fshown_thing T.k_fshown_thing T.d_fshown_thing .nil pass0 (@pa_cons _ _ _ _ _ (@pv _ 0 _ _ rfl (Or.inl rfl) rfl rfl) (@pa_nil _) (by rfl)) (by decide) (by rfl) (by rfl))) (by intro _; rfl)) (@pv _ 1 _ _ rfl (Or.inl rfl) rfl rfl))))), ?_⟩
  obtain ⟨v, ds, ws, rfl, hv, hw, kk⟩ := h
  obtain ⟨q, xs, rfl, hq, hx⟩ := dv_tup hv
  rcases hw.plain with ⟨p, b, sg, rfl, rfl, hp, hb, hl, hs⟩ | ⟨p, ns, rfl, rfl, hp, hl, hs⟩ | ⟨⟨k, r, rfl, hk1, hk2⟩, ha, rfl, hl⟩
  · cases hx with
    | cons x1 t =>
    cases t with
    | cons x2 t =>
    cases t with
    | cons x3 t =>
    cases t with
    | cons x4 t =>
    cases t
    cases dv_str x1
    obtain ⟨q4, xs4, rfl, hq4, hx4⟩ := dv_tup x4
    rename_i y2 y3
    refine ⟨_, rfl, q, _, 0, .str "put", rfl, rfl, SqT.of hq, atI_nat (j := 0) rfl, rfl, _, rfl, itT (by decide +kernel) ?_⟩
    refine ⟨_, rfl, q, _, 3, .ref q4, rfl, rfl, SqT.of hq, atI_nat (j := 3) rfl, q4, rfl, ⟨_, SqT.of hq4⟩, lc_map sgT hq4 hx4 (by omega) (fun x d H' K1 K0 hd dv s k => ?_) fun H1 p1 s1 g1 e1 => ?_⟩
    · refine iteT (B := K0 H') ?_
      exact ⟨_, rfl, x, d, rfl, dv, hs d hd, k⟩
    refine ⟨_, rfl, _, rfl, _, rfl, q, _, rfl, SqT.of (s1 _ _ hq), by show ¬ (HT.sIx 4 0 none = 0 ∧ HT.sIx 4 4 (some (-1)) = 4); decide, fun p2 g2 => ?_⟩
    have n2 : Same H1 (upd H1 p2 (.tup [.str "put", y2, y3])) := Same.new g2
    refine ⟨p2, rfl, ⟨_, SqT.of upd_same⟩, lc_map thT (xs := [.str "put", y2, y3]) (ds := [.str "put", .tuple p, b]) upd_same ?_ (Nat.le_of_ble_eq_true rfl) (fun x d H' K1 K0 hd dv s k => ?_) fun H3 p3 s3 g3 e3 => ?_⟩
    · exact DTs.same (s1.trans n2) (.cons x1 (.cons x2 (.cons x3 .nil)))
    · refine iteT (B := K0 H') ?_
      refine ⟨_, rfl, x, d, rfl, dv, ?_, k⟩
      simp only [List.mem_cons, List.not_mem_nil, or_false] at hd
      rcases hd with rfl | rfl | rfl
      · exact .str _ (by decide)
      · exact .name p hp
      · exact nn_th hb
    refine ⟨_, rfl, p3, p1, _, _, rfl, rfl, e3, (n2.trans s3) _ _ e1, ?_, fun p5 H5 g5 s5 e5 => kk H5 p5 (((s1.trans n2).trans s3).trans s5) ?_⟩
    · rw [List.length_map, List.length_map, List.length_map, List.length_map]
      exact Nat.le_of_lt (small1000 (by show 3 + _ ≤ 1000; omega))
    · rw [e5, List.map_append, ← thT_name hp]
      rfl
  · cases hx with
    | cons x1 t =>
    cases t with
    | cons x2 t =>
    cases t with
    | cons x4 t =>
    cases t
    cases dv_str x1
    obtain ⟨q4, xs4, rfl, hq4, hx4⟩ := dv_tup x4
    rename_i y2
    refine ⟨_, rfl, q, _, 0, .str "out", rfl, rfl, SqT.of hq, atI_nat (j := 0) rfl, rfl, _, rfl, itF (by decide +kernel) ?_⟩
    refine ⟨_, rfl, q, _, 0, .str "out", rfl, rfl, SqT.of hq, atI_nat (j := 0) rfl, rfl, _, rfl, itT (by decide +kernel) ?_⟩
    refine ⟨_, rfl, q, _, 2, .ref q4, rfl, rfl, SqT.of hq, atI_nat (j := 2) rfl, q4, rfl, ⟨_, SqT.of hq4⟩, lc_map thT hq4 hx4 (by rw [List.length_map]; omega) (fun x d H' K1 K0 hd dv s k => ?_) fun H1 p1 s1 g1 e1 => ?_⟩
    · refine iteT (B := K0 H') ?_
      obtain ⟨n, hn, rfl⟩ := List.mem_map.mp hd
      rw [thT_name (hs n hn)] at k
      exact ⟨_, rfl, x, n, rfl, dv, hs n hn, k⟩
    refine ⟨_, rfl, _, rfl, _, rfl, q, _, rfl, SqT.of (s1 _ _ hq), by show ¬ (HT.sIx 3 0 none = 0 ∧ HT.sIx 3 3 (some (-1)) = 3); decide, fun p2 g2 => ?_⟩
    have n2 : Same H1 (upd H1 p2 (.tup [.str "out", y2])) := Same.new g2
    refine ⟨p2, rfl, ⟨_, SqT.of upd_same⟩, lc_map thT (xs := [.str "out", y2]) (ds := [.str "out", .tuple p]) upd_same ?_ (Nat.le_of_ble_eq_true rfl) (fun x d H' K1 K0 hd dv s k => ?_) fun H3 p3 s3 g3 e3 => ?_⟩
    · exact DTs.same (s1.trans n2) (.cons x1 (.cons x2 .nil))
    · refine iteT (B := K0 H') ?_
      refine ⟨_, rfl, x, d, rfl, dv, ?_, k⟩
      simp only [List.mem_cons, List.not_mem_nil, or_false] at hd
      rcases hd with rfl | rfl
      · exact .str _ (by decide)
      · exact .name p hp
    refine ⟨_, rfl, p3, p1, _, _, rfl, rfl, e3, (n2.trans s3) _ _ e1, ?_, fun p5 H5 g5 s5 e5 => kk H5 p5 (((s1.trans n2).trans s3).trans s5) ?_⟩
    · rw [List.length_map, List.length_map, List.length_map, List.length_map, List.length_map]
      exact Nat.le_of_lt (small1000 (by show 2 + _ ≤ 1000; omega))
    · rw [e5, List.map_append, ← thT_name hp, List.map_map (f := PyData.tuple), show List.map (thT ∘ PyData.tuple) ns = List.map nmT ns from List.map_congr_left fun n hn => thT_name (hs n hn)]
      rfl
  · cases hx with
    | cons x1 t =>
    cases dv_str x1
    refine ⟨_, rfl, q, _, 0, .str k, rfl, rfl, SqT.of hq, atI_nat (j := 0) rfl, rfl, _, rfl, itF (decide_eq_false fun z => hk1 (V.str.inj z)) ?_⟩
    refine ⟨_, rfl, q, _, 0, .str k, rfl, rfl, SqT.of hq, atI_nat (j := 0) rfl, rfl, _, rfl, itF (decide_eq_false fun z => hk2 (V.str.inj z)) ?_⟩
    refine ⟨_, rfl, q, rfl, ⟨_, SqT.of hq⟩, lc_map thT hq (.cons x1 t) (by omega) (fun x d H' K1 K0 hd dv s k => ?_) fun H1 p1 s1 g1 e1 => kk H1 p1 s1 e1⟩
    refine iteT (B := K0 H') ?_
    exact ⟨_, rfl, x, d, rfl, dv, ha d hd, k⟩
theorem ok_f_law_signs (T : Txt K mg d tk) (gf_law_sign : FnOk P w K mg base CX0 3 d.f_law_sign d.f_law_signd ["_law_number", "_law_roll_here"] (sp_f_law_sign K)) : FnOk P w K mg base CX0 4 d.f_law_signs d.f_law_signsd ["_law_draws_here", "_law_roll_here"] (sp_f_law_signs K) := by
  refine T.F_f_law_signs.ok sc_f_law_signs (fun vs H Q E h => len_f_law_signs h) (fun cdv A outer s H vs Q E hr h => ?_)
  have hu : (A.deeper (envOfC "_law_signs" (defScope s_f_law_signs) s.heap.objs.size d.f_law_signs cdv)).units < cLine := hr.units0
  refine ⟨_, (@pss_one _ _ _ (@ps_ret _ _ _ _ (@pe_callTy _ _ _ _ _ _ _ _ _ call_tupA (by rfl) T.b_tuple boot_tuple (@pa_cons _ _ _ _ _ (@pe_lcomp _ _ _ _ _ _ _ (["_law_number"]) ([("_law_roll_here", 1)]) _ _ _ _ _ rfl (@pi_list _ _ _ _ (@pe_slice _ _ _ _ _ _ _ _ _ _ sl_listA (@pv _ 0 _ _ rfl (Or.inl rfl) rfl rfl) (@po_none _) (@po_some _ _ _ (@pe_op _ _ _ _ _ _ _ _ op_add (@pe_int _ _ _ _) (@pe_op _ _ _ _ _ _ _ _ op_mod (@pe_ix _ _ _ _ _ _ _ ix_list (@pv _ 0 _ _ rfl (Or.inl rfl) rfl rfl) (@pe_int _ _ _ _) (fun _ _ => rfl)) (@pe_int _ _ _ _)))))) ⟨rfl, by decide +kernel, by decide +kernel⟩ (caps_def (defScope s_f_law_signs) ["_law_draws_here", "_law_roll_here"] rfl rfl (fun _ h => cell_has h) (by decide +kernel) (by decide +kernel) (by decide +kernel)) (fun _ _ _ => (@pg_name _ _ (0) _ (by show List.Nodup (["_law_number", "_law_roll_here"] : List Str); decide +kernel) rfl (Or.inl rfl) (by first | exact .inl rfl | exact .inr rfl))) (fun _ => fresh_name rfl) (fun _ _ _ => (@pts_nil _)) (fun _ _ _ => (@pe_call _ _ _ _ _ _ _ _ _ _ _ _ _ _ _ _ gf_law_sign (hr.mono (by decide)) (by rfl) T.m_f_law_sign T.k_f_law_sign T.d_f_law_sign .nil pass0 (@pa_cons _ _ _ _ _ (@pe_op _ _ _ _ _ _ _ _ op_fdiv (@pv _ 0 _ _ rfl (Or.inl rfl) rfl rfl) (@pe_int _ _ _ _)) (@pa_cons _ _ _ _ _ (@pv _ 1 _ _ rfl (Or.inr (Or.inl rfl)) rfl rfl) (@pa_nil _) (by rfl)) (by rfl)) (by decide) (by rfl) (by rfl))) (by intro _; rfl)) (@pa_nil _) (by rfl)) (by decide) (by decide) (by rfl) (by rfl)))), ?_⟩
  obtain ⟨dd, p, ws, ns, rfl, hp, hd, k⟩ := h
  obtain ⟨a0, h0⟩ := hd.get 0 (by decide)
  refine ⟨_, rfl, _, rfl, dd, _, 0, .int a0, rfl, rfl, SqL.of hd.at', h0, _, _, rfl, rfl, (by show (0 : Int) < 12; decide), _, _, rfl, rfl, _, rfl, dd, _, rfl, SqL.of hd.at', fun q1 H1 g1 s1 e1 => ?_⟩
  have hcut := cut_few (xs := List.map V.int ns) (b := 1 + a0 % 12) (by have := mod_lo a0 (m := 12) (by decide); omega) (by have := mod_hi a0 (m := 12) (by decide); omega) (by rw [List.length_map]; exact hd.len)
  refine ⟨q1, rfl, ⟨_, SqL.of e1⟩, lc_any (xs := cutV (List.map V.int ns) none (some (1 + a0 % 12))) (Nat.le_of_lt (small1000 (by omega))) (fun j ys H' => Same H1 H' ∧ ∃ sg, DTs H' ys sg ∧ sg.length = j ∧ ∀ x ∈ sg, SignD ws x) ⟨Same.refl _, [], .nil, rfl, fun _ z => nomatch z⟩ (fun _ _ H' s => SqL.of (s.1 _ _ e1)) (fun j x ys H' K1 K0 hx s' k1 k0 => ?_) fun H' q ys s' hy hq => ?_⟩
  · obtain ⟨m, rfl⟩ := cut_int (List.mem_of_getElem? hx)
    obtain ⟨s', sg, dsg, hsl, hsg⟩ := s'
    refine iteT (B := K0 H') ?_
    refine ⟨_, rfl, _, _, rfl, rfl, ⟨by decide, by decide⟩, _, rfl, _, p, ws, rfl, hp.mono (s1.trans s'), fun H2 v d s2 dv hd2 => ?_⟩
    refine k1 v H2 ⟨s'.trans s2, sg ++ [d], (DTs.same s2 dsg).snoc dv, by rw [List.length_append, List.length_singleton, hsl], fun x hx => ?_⟩
    rcases List.mem_append.mp hx with hx | hx
    · exact hsg x hx
    · rw [List.mem_singleton.mp hx]; exact hd2
  · obtain ⟨s', sg, dsg, hsl, hsg⟩ := s'
    refine ⟨q, ys, rfl, SqL.of upd_same, fun l H2 hl2 s2 e2 => ?_⟩
    exact k H2 (.ref l) sg (((s1.trans s').up hq).trans s2) (.tup e2 (DTs.same ((Same.new hq).trans s2) dsg)) (by omega) (by omega) hsg
theorem ok_f_law_what_of_marks (T : Txt K mg d tk) (gf_law_name : FnOk P w K mg base CX0 1 d.f_law_name d.f_law_named ["_law_number", "_law_roll_here"] (sp_f_law_name K)) (gf_law_part : FnOk P w K mg base CX0 2 d.f_law_part d.f_law_partd ["_law_number", "_law_roll_here"] (sp_f_law_part K)) (gf_law_side : FnOk P w K mg base CX0 3 d.f_law_side d.f_law_sided ["_law_number", "_law_roll_here"] (sp_f_law_side K)) (gf_law_word : FnOk P w K mg base CX0 1 d.f_law_word d.f_law_wordd ["_law_number"] (sp_f_law_word K)) : FnOk P w K mg base CX0 4 d.f_law_what_of_marks d.f_law_what_of_marksd ["_law_kind", "_law_more", "_law_roll_here"] (sp_f_law_what_of_marks K) := by
  refine T.F_f_law_what_of_marks.ok sc_f_law_what_of_marks (fun vs H Q E h => len_f_law_what_of_marks h) (fun cdv A outer s H vs Q E hr h => ?_)
  have hu : (A.deeper (envOfC "_law_what_of_marks" (defScope s_f_law_what_of_marks) s.heap.objs.size d.f_law_what_of_marks cdv)).units < cLine := hr.units0
  refine ⟨_, (@pss_cons _ _ _ _ _ (@ps_set _ _ (3) _ _ _ _ sc_f_law_what_of_marks.nd rfl (Or.inl rfl) (@pe_call _ _ _ _ _ _ _ _ _ _ _ _ _ _ _ _ gf_law_part (hr.mono (by decide)) (by rfl) T.m_f_law_part T.k_f_law_part T.d_f_law_part .nil pass0 (@pa_cons _ _ _ _ _ (@pe_ix _ _ _ _ _ _ _ ix_list (@pv _ 1 _ _ rfl (Or.inl rfl) rfl rfl) (@pe_int _ _ _ _) (fun _ _ => rfl)) (@pa_cons _ _ _ _ _ (@pv _ 2 _ _ rfl (Or.inl rfl) rfl rfl) (@pa_nil _) (by rfl)) (by rfl)) (by decide) (by rfl) (by rfl)) (by rfl) (by first | exact .inl rfl | exact .inr rfl)) (@pss_cons _ _ _ _ _ (@ps_set _ _ (4) _ _ _ _ sc_f_law_what_of_marks.nd rfl (Or.inl rfl) (@pe_call _ _ _ _ _ _ _ _ _ _ _ _ _ _ _ _ gf_law_name (hr.mono (by decide)) (by rfl) T.m_f_law_name T.k_f_law_name T.d_f_law_name .nil pass0 (@pa_cons _ _ _ _ _ (@pe_ix _ _ _ _ _ _ _ ix_list (@pv _ 1 _ _ rfl (Or.inl rfl) rfl rfl) (@pe_int _ _ _ _) (fun _ _ => rfl)) (@pa_cons _ _ _ _ _ (@pv _ 2 _ _ rfl (Or.inl rfl) rfl rfl) (@pa_nil _) (by rfl)) (by rfl)) (by decide) (by rfl) (by rfl)) (by rfl) (by first | exact .inl rfl | exact .inr rfl)) (@pss_cons _ _ _ _ _ (@ps_set _ _ (5) _ _ _ _ sc_f_law_what_of_marks.nd rfl (Or.inl rfl) (@pe_tupA _ _ _ _ _ (@pa_cons _ _ _ _ _ (@pe_call _ _ _ _ _ _ _ _ _ _ _ _ _ _ _ _ gf_law_side (hr.mono (by decide)) (by rfl) T.m_f_law_side T.k_f_law_side T.d_f_law_side .nil pass0 (@pa_cons _ _ _ _ _ (@pe_ix _ _ _ _ _ _ _ ix_list (@pv _ 1 _ _ rfl (Or.inl rfl) rfl rfl) (@pe_int _ _ _ _) (fun _ _ => rfl)) (@pa_cons _ _ _ _ _ (@pv _ 2 _ _ rfl (Or.inl rfl) rfl rfl) (@pa_nil _) (by rfl)) (by rfl)) (by decide) (by rfl) (by rfl)) (@pa_cons _ _ _ _ _ (@pe_call _ _ _ _ _ _ _ _ _ _ _ _ _ _ _ _ gf_law_side (hr.mono (by decide)) (by rfl) T.m_f_law_side T.k_f_law_side T.d_f_law_side .nil pass0 (@pa_cons _ _ _ _ _ (@pe_ix _ _ _ _ _ _ _ ix_list (@pv _ 1 _ _ rfl (Or.inl rfl) rfl rfl) (@pe_int _ _ _ _) (fun _ _ => rfl)) (@pa_cons _ _ _ _ _ (@pv _ 2 _ _ rfl (Or.inl rfl) rfl rfl) (@pa_nil _) (by rfl)) (by rfl)) (by decide) (by rfl) (by rfl)) (@pa_nil _) (by rfl)) (by rfl))) (by rfl) (by first | exact .inl rfl | exact .inr rfl)) (@pss_cons _ _ _ _ _ (@ps_if _ _ _ _ _ _ _ _ (@pt_cmpR _ _ _ _ _ _ _ _ op_eq (@pv _ 0 _ _ rfl (Or.inl rfl) rfl rfl) (@pe_int _ _ _ _) (nomark _)) (@pss_cons _ _ _ _ _ (@ps_set _ _ (6) _ _ _ _ sc_f_law_what_of_marks.nd rfl (Or.inl rfl) (@pe_ix _ _ _ _ _ _ _ ix_any (@pe_lstA _ _ _ _ (@pa_cons _ _ _ _ _ (@pe_non _ _ _) (@pa_cons _ _ _ _ _ (@pe_call _ _ _ _ _ _ _ _ _ _ _ _ _ _ _ _ gf_law_word (hr.mono (by decide)) (by rfl) T.m_f_law_word T.k_f_law_word T.d_f_law_word .nil pass0 (@pa_cons _ _ _ _ _ (@pe_op _ _ _ _ _ _ _ _ op_fdiv (@pe_ix _ _ _ _ _ _ _ ix_list (@pv _ 1 _ _ rfl (Or.inl rfl) rfl rfl) (@pe_int _ _ _ _) (fun _ _ => rfl)) (@pe_int _ _ _ _)) (@pa_nil _) (by rfl)) (by decide) (by rfl) (by rfl)) (@pa_nil _) (by rfl)) (by rfl))) (@pe_callTy _ _ _ _ _ _ _ _ _ call_int1 (by rfl) T.b_int boot_int (@pa_cons _ _ _ _ _ (@pe_cmpR _ _ _ _ _ _ _ _ op_gt (@pe_op _ _ _ _ _ _ _ _ op_mod (@pe_ix _ _ _ _ _ _ _ ix_list (@pv _ 1 _ _ rfl (Or.inl rfl) rfl rfl) (@pe_int _ _ _ _) (fun _ _ => rfl)) (@pe_int _ _ _ _)) (@pe_int _ _ _ _) (nomark _)) (@pa_nil _) (by rfl)) (by decide) (by decide) (by rfl) (by rfl)) (fun _ _ => rfl)) (by rfl) (by first | exact .inl rfl | exact .inr rfl)) (@pss_one _ _ _ (@ps_ret _ _ _ _ (@pe_op _ _ _ _ _ _ _ _ op_catTA (@pe_op _ _ _ _ _ _ _ _ op_catTA (@pe_tupA _ _ _ _ _ (@pa_cons _ _ _ _ _ (@pe_str _ _ _ _) (@pa_cons _ _ _ _ _ (@pv _ 3 _ _ rfl (Or.inl rfl) rfl rfl) (@pa_nil _) (by rfl)) (by rfl))) (@pv _ 5 _ _ rfl (Or.inl rfl) rfl rfl)) (@pe_tupA _ _ _ _ _ (@pa_cons _ _ _ _ _ (@pe_call _ _ _ _ _ _ _ _ _ _ _ _ _ _ _ _ gf_law_word (hr.mono (by decide)) (by rfl) T.m_f_law_word T.k_f_law_word T.d_f_law_word .nil pass0 (@pa_cons _ _ _ _ _ (@pe_ix _ _ _ _ _ _ _ ix_list (@pv _ 1 _ _ rfl (Or.inl rfl) rfl rfl) (@pe_int _ _ _ _) (fun _ _ => rfl)) (@pa_nil _) (by rfl)) (by decide) (by rfl) (by rfl)) (@pa_cons _ _ _ _ _ (@pv _ 6 _ _ rfl (Or.inl rfl) rfl rfl) (@pa_nil _) (by rfl)) (by rfl))))))) (@pss_nil _)) (@pss_cons _ _ _ _ _ (@ps_if _ _ _ _ _ _ _ _ (@pt_cmpR _ _ _ _ _ _ _ _ op_eq (@pv _ 0 _ _ rfl (Or.inl rfl) rfl rfl) (@pe_int _ _ _ _) (nomark _)) (@pss_one _ _ _ (@ps_ret _ _ _ _ (@pe_op _ _ _ _ _ _ _ _ op_catTA (@pe_op _ _ _ _ _ _ _ _ op_catTA (@pe_tupA _ _ _ _ _ (@pa_cons _ _ _ _ _ (@pe_str _ _ _ _) (@pa_cons _ _ _ _ _ (@pv _ 3 _ _ rfl (Or.inl rfl) rfl rfl) (@pa_nil _) (by rfl)) (by rfl))) (@pv _ 5 _ _ rfl (Or.inl rfl) rfl rfl)) (@pe_tupA _ _ _ _ _ (@pa_cons _ _ _ _ _ (@pe_call _ _ _ _ _ _ _ _ _ _ _ _ _ _ _ _ gf_law_word (hr.mono (by decide)) (by rfl) T.m_f_law_word T.k_f_law_word T.d_f_law_word .nil pass0 (@pa_cons _ _ _ _ _ (@pe_ix _ _ _ _ _ _ _ ix_list (@pv _ 1 _ _ rfl (Or.inl rfl) rfl rfl) (@pe_int _ _ _ _) (fun _ _ => rfl)) (@pa_nil _) (by rfl)) (by decide) (by rfl) (by rfl)) (@pa_nil _) (by rfl)))))) (@pss_nil _)) (@pss_cons _ _ _ _ _ (@ps_if _ _ _ _ _ _ _ _ (@pt_cmpR _ _ _ _ _ _ _ _ op_eq (@pv _ 0 _ _ rfl (Or.inl rfl) rfl rfl) (@pe_int _ _ _ _) (nomark _)) (@pss_one _ _ _ (@ps_ret _ _ _ _ (@pe_tupA _ _ _ _ _ (@pa_cons _ _ _ _ _ (@pe_str _ _ _ _) (@pa_cons _ _ _ _ _ (@pv _ 3 _ _ rfl (Or.inl rfl) rfl rfl) (@pa_cons _ _ _ _ _ (@pe_ix _ _ _ _ _ _ _ ix_any (@pe_lstA _ _ _ _ (@pa_cons _ _ _ _ _ (@pe_str _ _ _ _) (@pa_cons _ _ _ _ _ (@pe_str _ _ _ _) (@pa_nil _) (by rfl)) (by rfl))) (@pe_op _ _ _ _ _ _ _ _ op_mod (@pe_ix _ _ _ _ _ _ _ ix_list (@pv _ 1 _ _ rfl (Or.inl rfl) rfl rfl) (@pe_int _ _ _ _) (fun _ _ => rfl)) (@pe_int _ _ _ _)) (fun _ _ => rfl)) (@pa_cons _ _ _ _ _ (@pe_ix _ _ _ _ _ _ _ ix_any (@pe_lstA _ _ _ _ (@pa_cons _ _ _ _ _ (@pe_non _ _ _) (@pa_cons _ _ _ _ _ (@pv _ 4 _ _ rfl (Or.inl rfl) rfl rfl) (@pa_nil _) (by rfl)) (by rfl))) (@pe_callTy _ _ _ _ _ _ _ _ _ call_int1 (by rfl) T.b_int boot_int (@pa_cons _ _ _ _ _ (@pe_cmpR _ _ _ _ _ _ _ _ op_gt (@pe_op _ _ _ _ _ _ _ _ op_mod (@pe_op _ _ _ _ _ _ _ _ op_fdiv (@pe_ix _ _ _ _ _ _ _ ix_list (@pv _ 1 _ _ rfl (Or.inl rfl) rfl rfl) (@pe_int _ _ _ _) (fun _ _ => rfl)) (@pe_int _ _ _ _)) (@pe_int _ _ _ _)) (@pe_int _ _ _ _) (nomark _)) (@pa_nil _) (by rfl)) (by decide) (by decide) (by rfl) (by rfl)) (fun _ _ => rfl)) (@pa_nil _) (by rfl)) (by rfl)) (by rfl)) (by rfl))))) (@pss_nil _)) (@pss_cons _ _ _ _ _ (@ps_if _ _ _ _ _ _ _ _ (@pt_cmpR _ _ _ _ _ _ _ _ op_eq (@pv _ 0 _ _ rfl (Or.inl rfl) rfl rfl) (@pe_int _ _ _ _) (nomark _)) (@pss_one _ _ _ (@ps_ret _ _ _ _ (@pe_tupA _ _ _ _ _ (@pa_cons _ _ _ _ _ (@pe_str _ _ _ _) (@pa_cons _ _ _ _ _ (@pv _ 3 _ _ rfl (Or.inl rfl) rfl rfl) (@pa_cons _ _ _ _ _ (@pv _ 4 _ _ rfl (Or.inl rfl) rfl rfl) (@pa_nil _) (by rfl)) (by rfl)) (by rfl))))) (@pss_nil _)) (@pss_cons _ _ _ _ _ (@ps_set _ _ (7) _ _ _ _ sc_f_law_what_of_marks.nd rfl (Or.inl rfl) (@pe_ix _ _ _ _ _ _ _ ix_any (@pe_lstA _ _ _ _ (@pa_cons _ _ _ _ _ (@pe_str _ _ _ _) (@pa_cons _ _ _ _ _ (@pe_call _ _ _ _ _ _ _ _ _ _ _ _ _ _ _ _ gf_law_word (hr.mono (by decide)) (by rfl) T.m_f_law_word T.k_f_law_word T.d_f_law_word .nil pass0 (@pa_cons _ _ _ _ _ (@pe_op _ _ _ _ _ _ _ _ op_fdiv (@pe_ix _ _ _ _ _ _ _ ix_list (@pv _ 1 _ _ rfl (Or.inl rfl) rfl rfl) (@pe_int _ _ _ _) (fun _ _ => rfl)) (@pe_int _ _ _ _)) (@pa_nil _) (by rfl)) (by decide) (by rfl) (by rfl)) (@pa_nil _) (by rfl)) (by rfl))) (@pe_callTy _ _ _ _ _ _ _ _ _ call_int1 (by rfl) T.b_int boot_int (@pa_cons _ _ _ _ _ (@pe_cmpR _ _ _ _ _ _ _ _ op_gt (@pe_op _ _ _ _ _ _ _ _ op_mod (@pe_ix _ _ _ _ _ _ _ ix_list (@pv _ 1 _ _ rfl (Or.inl rfl) rfl rfl) (@pe_int _ _ _ _) (fun _ _ => rfl)) (@pe_int _ _ _ _)) (@pe_int _ _ _ _) (nomark _)) (@pa_nil _) (by rfl)) (by decide) (by decide) (by rfl) (by rfl)) (fun _ _ => rfl)) (by rfl) (by first | exact .inl rfl | exact .inr rfl)) (@pss_one _ _ _ (@ps_ret _ _ _ _ (@pe_tupA _ _ _ _ _ (@pa_cons _ _ _ _ _ (@pe_str _ _ _ _) (@pa_cons _ _ _ _ _ (@pv _ 3 _ _ rfl (Or.inl rfl) rfl rfl) (@pa_cons _ _ _ _ _ (@pv _ 4 _ _ rfl (Or.inl rfl) rfl rfl) (@pa_cons _ _ _ _ _ (@pe_call _ _ _ _ _ _ _ _ _ _ _ _ _ _ _ _ gf_law_name (hr.mono (by decide)) (by rfl) T.m_f_law_name T.k_f_law_name T.d_f_law_name .nil pass0 (@pa_cons _ _ _ _ _ (@pe_ix _ _ _ _ _ _ _ ix_list (@pv _ 1 _ _ rfl (Or.inl rfl) rfl rfl) (@pe_int _ _ _ _) (fun _ _ => rfl)) (@pa_cons _ _ _ _ _ (@pv _ 2 _ _ rfl (Or.inl rfl) rfl rfl) (@pa_nil _) (by rfl)) (by rfl)) (by decide) (by rfl) (by rfl)) (@pa_cons _ _ _ _ _ (@pv _ 7 _ _ rfl (Or.inl rfl) rfl rfl) (@pa_nil _) (by rfl)) (by rfl)) (by rfl)) (by rfl)) (by rfl))))))))))))), ?_⟩
  obtain ⟨i, dd, p, ws, ns, rfl, hp, hd, k⟩ := h
  obtain ⟨a0, h0⟩ := hd.get 0 (by decide)
  obtain ⟨a1, h1⟩ := hd.get 1 (by decide)
  obtain ⟨a2, h2⟩ := hd.get 2 (by decide)
  obtain ⟨a3, h3⟩ := hd.get 3 (by decide)
  obtain ⟨a4, h4⟩ := hd.get 4 (by decide)
  have s := Same.refl H
  refine ⟨_, rfl, dd, _, 0, .int a0, rfl, rfl, SqL.of hd.at', h0, _, rfl, _, p, ws, rfl, hp, fun H1 v1 d1 s1 n1 t1 => ?_⟩
  obtain ⟨pd, rfl, hpd⟩ := t1
  replace hp := hp.mono s1
  replace hd := hd.mono s1
  replace s := s.trans s1
  refine ⟨_, rfl, dd, _, 1, .int a1, rfl, rfl, SqL.of hd.at', h1, _, rfl, _, p, ws, rfl, hp, fun H2 v2 d2 s2 n2 t2 => ?_⟩
  obtain ⟨nd, rfl, hnd⟩ := t2
  replace hp := hp.mono s2
  replace hd := hd.mono s2
  replace n1 := n1.same s2
  replace s := s.trans s2
  refine ⟨_, rfl, dd, _, 1, .int a1, rfl, rfl, SqL.of hd.at', h1, _, rfl, _, p, ws, rfl, hp, fun H3 v3 d3 s3 n3 t3 => ?_⟩
  replace hp := hp.mono s3
  replace hd := hd.mono s3
  replace n1 := n1.same s3
  replace n2 := n2.same s3
  replace s := s.trans s3
  refine ⟨_, rfl, dd, _, 2, .int a2, rfl, rfl, SqL.of hd.at', h2, _, rfl, _, p, ws, rfl, hp, fun H4 v4 d4 s4 n4 t4 => ?_⟩
  replace hp := hp.mono s4
  replace hd := hd.mono s4
  replace n1 := n1.same s4
  replace n2 := n2.same s4
  replace n3 := n3.same s4
  replace s := s.trans s4
  refine ⟨szOk rfl, fun q5 H5 g5 s5 e5 => ?_⟩
  replace hp := hp.mono s5
  replace hd := hd.mono s5
  replace n1 := n1.same s5
  replace n2 := n2.same s5
  replace n3 := n3.same s5
  replace n4 := n4.same s5
  replace s := s.trans s5
  refine ⟨_, rfl, rfl, _, rfl, ?_⟩
  refine ite2 (fun _ => ?_) fun _ => ?_
  · refine ⟨_, rfl, dd, _, 4, .int a4, rfl, rfl, SqL.of hd.at', h4, _, _, rfl, rfl, ⟨by decide, by decide⟩, _, rfl, fun z hz => ?_⟩
    refine ⟨szOk rfl, fun q6 H6 g6 s6 e6 => ?_⟩
    replace hp := hp.mono s6
    replace hd := hd.mono s6
    replace n1 := n1.same s6
    replace n2 := n2.same s6
    replace n3 := n3.same s6
    replace n4 := n4.same s6
    replace s := s.trans s6
    replace e5 := s6 _ _ e5
    refine ⟨_, rfl, dd, _, 4, .int a4, rfl, rfl, SqL.of hd.at', h4, _, _, rfl, rfl, (by show (0 : Int) < 3; decide), _, _, rfl, rfl, .inr ⟨_, rfl, ?_⟩⟩
    refine ⟨q6, _, _, rfl, rfl, SqL.of e6, bit_lo _, bit_hi2 _, fun v hv => ?_⟩
    have hb : ∃ b, (∀ H', DT H' v b) ∧ WnD b := by
      simp only [List.mem_cons, List.not_mem_nil, or_false] at hv
      rcases hv with rfl | rfl
      · exact ⟨_, fun _ => .non, .inl rfl⟩
      · exact ⟨_, fun _ => .str z, .inr ⟨_, rfl, hz⟩⟩
    obtain ⟨b, db, hb⟩ := hb
    refine ⟨_, rfl, szOk rfl, fun q7 H7 g7 s7 e7 => ?_⟩
    replace hp := hp.mono s7
    replace hd := hd.mono s7
    replace n1 := n1.same s7
    replace n2 := n2.same s7
    replace n3 := n3.same s7
    replace n4 := n4.same s7
    replace s := s.trans s7
    replace e5 := s7 _ _ e5
    refine ⟨_, rfl, q7, q5, _, _, rfl, rfl, SqT.of e7, SqT.of e5, by simp, by simp, szOk rfl, fun q8 H8 g8 s8 e8 => ?_⟩
    replace hp := hp.mono s8
    replace hd := hd.mono s8
    replace n1 := n1.same s8
    replace n2 := n2.same s8
    replace n3 := n3.same s8
    replace n4 := n4.same s8
    replace s := s.trans s8
    refine ⟨_, rfl, dd, _, 3, .int a3, rfl, rfl, SqL.of hd.at', h3, _, rfl, fun z2 hz2 => ?_⟩
    refine ⟨_, rfl, szOk rfl, fun q10 H10 g10 s10 e10 => ?_⟩
    replace hp := hp.mono s10
    replace hd := hd.mono s10
    replace n1 := n1.same s10
    replace n2 := n2.same s10
    replace n3 := n3.same s10
    replace n4 := n4.same s10
    replace s := s.trans s10
    replace e8 := s10 _ _ e8
    refine ⟨q8, q10, _, _, rfl, rfl, SqT.of e8, SqT.of e10, by simp, by simp, szOk rfl, fun q9 H9 g9 s9 e9 => ?_⟩
    exact k H9 _ _ (s.trans s9) (.tup (xs := [.str "mark", v1, v3, v4, .str z2, v]) e9 (.cons (.str _) (.cons (n1.same s9) (.cons (n3.same s9) (.cons (n4.same s9) (.cons (.str z2) (.cons (db _) .nil))))))) fun num => .mark _ _ _ _ _ hpd t3 t4 hz2 hb
  refine ⟨_, rfl, rfl, _, rfl, ?_⟩
  refine ite2 (fun _ => ?_) fun _ => ?_
  · refine ⟨_, rfl, szOk rfl, fun q7 H7 g7 s7 e7 => ?_⟩
    replace hp := hp.mono s7
    replace hd := hd.mono s7
    replace n1 := n1.same s7
    replace n2 := n2.same s7
    replace n3 := n3.same s7
    replace n4 := n4.same s7
    replace s := s.trans s7
    replace e5 := s7 _ _ e5
    refine ⟨_, rfl, q7, q5, _, _, rfl, rfl, SqT.of e7, SqT.of e5, by simp, by simp, szOk rfl, fun q8 H8 g8 s8 e8 => ?_⟩
    replace hp := hp.mono s8
    replace hd := hd.mono s8
    replace n1 := n1.same s8
    replace n2 := n2.same s8
    replace n3 := n3.same s8
    replace n4 := n4.same s8
    replace s := s.trans s8
    refine ⟨_, rfl, dd, _, 3, .int a3, rfl, rfl, SqL.of hd.at', h3, _, rfl, fun z2 hz2 => ?_⟩
    refine ⟨szOk rfl, fun q10 H10 g10 s10 e10 => ?_⟩
    replace hp := hp.mono s10
    replace hd := hd.mono s10
    replace n1 := n1.same s10
    replace n2 := n2.same s10
    replace n3 := n3.same s10
    replace n4 := n4.same s10
    replace s := s.trans s10
    replace e8 := s10 _ _ e8
    refine ⟨q8, q10, _, _, rfl, rfl, SqT.of e8, SqT.of e10, by simp, by simp, szOk rfl, fun q9 H9 g9 s9 e9 => ?_⟩
    exact k H9 _ _ (s.trans s9) (.tup (xs := [.str "note", v1, v3, v4, .str z2]) e9 (.cons (.str _) (.cons (n1.same s9) (.cons (n3.same s9) (.cons (n4.same s9) (.cons (.str z2) .nil)))))) fun num => .note _ _ _ _ hpd t3 t4 hz2
  refine ⟨_, rfl, rfl, _, rfl, ?_⟩
  refine ite2 (fun _ => ?_) fun _ => ?_
  · refine ⟨_, rfl, szOk rfl, fun q7 H7 g7 s7 e7 => ?_⟩
    replace hp := hp.mono s7
    replace hd := hd.mono s7
    replace n1 := n1.same s7
    replace n2 := n2.same s7
    replace n3 := n3.same s7
    replace n4 := n4.same s7
    replace s := s.trans s7
    refine ⟨_, rfl, dd, _, 2, .int a2, rfl, rfl, SqL.of hd.at', h2, _, _, rfl, rfl, (by show (0 : Int) < 2; decide), q7, _, _, rfl, rfl, SqL.of e7, mod_lo _ (by decide), mod_hi _ (by decide), fun v hv => ?_⟩
    obtain ⟨z, rfl, hz⟩ : ∃ z : Str, v = .str z ∧ (z = "row" ∨ z = "column") := by
      simp only [List.mem_cons, List.not_mem_nil, or_false] at hv
      rcases hv with rfl | rfl
      · exact ⟨_, rfl, .inl rfl⟩
      · exact ⟨_, rfl, .inr rfl⟩
    refine ⟨_, rfl, szOk rfl, fun q8 H8 g8 s8 e8 => ?_⟩
    replace hp := hp.mono s8
    replace hd := hd.mono s8
    replace n1 := n1.same s8
    replace n2 := n2.same s8
    replace n3 := n3.same s8
    replace n4 := n4.same s8
    replace s := s.trans s8
    refine ⟨_, rfl, dd, _, 2, .int a2, rfl, rfl, SqL.of hd.at', h2, _, _, rfl, rfl, ⟨by decide, by decide⟩, _, _, rfl, rfl, (by show (0 : Int) < 3; decide), _, _, rfl, rfl, .inr ⟨_, rfl, ?_⟩⟩
    refine ⟨q8, _, _, rfl, rfl, SqL.of e8, bit_lo _, bit_hi2 _, fun v2' hv2 => ?_⟩
    have hb : ∃ b, DT H8 v2' b ∧ OrD (NameD ws) b := by
      simp only [List.mem_cons, List.not_mem_nil, or_false] at hv2
      rcases hv2 with rfl | rfl
      · exact ⟨_, .non, .inl rfl⟩
      · exact ⟨_, n2, .inr ⟨_, rfl, hnd⟩⟩
    obtain ⟨b, db, hb⟩ := hb
    exact ⟨szOk rfl, fun q9 H9 g9 s9 e9 => k H9 _ _ (s.trans s9) (.tup e9 (.cons (.str _) (.cons (n1.same s9) (.cons (.str z) (.cons (db.same s9) .nil))))) fun num => .line _ _ _ hpd hz hb⟩
  refine ⟨_, rfl, rfl, _, rfl, ?_⟩
  refine ite2 (fun _ => ⟨_, rfl, _, rfl, szOk rfl, fun q9 H9 g9 s9 e9 => k H9 _ _ (s.trans s9) (.tup e9 (.cons (.str _) (.cons (n1.same s9) (.cons (n2.same s9) .nil)))) fun num => .strike _ _ hpd hnd⟩) fun _ => ?_
  refine ⟨_, rfl, dd, _, 3, .int a3, rfl, rfl, SqL.of hd.at', h3, _, _, rfl, rfl, ⟨by decide, by decide⟩, _, rfl, fun z hz => ?_⟩
  refine ⟨szOk rfl, fun q6 H6 g6 s6 e6 => ?_⟩
  replace hp := hp.mono s6
  replace hd := hd.mono s6
  replace n1 := n1.same s6
  replace n2 := n2.same s6
  replace n3 := n3.same s6
  replace n4 := n4.same s6
  replace s := s.trans s6
  refine ⟨_, rfl, dd, _, 3, .int a3, rfl, rfl, SqL.of hd.at', h3, _, _, rfl, rfl, (by show (0 : Int) < 3; decide), _, _, rfl, rfl, .inr ⟨_, rfl, ?_⟩⟩
  refine ⟨q6, _, _, rfl, rfl, SqL.of e6, bit_lo _, bit_hi2 _, fun v hv => ?_⟩
  obtain ⟨z', rfl, hz'⟩ : ∃ z' : Str, v = .str z' ∧ (z' = "" ∨ IsW z') := by
    simp only [List.mem_cons, List.not_mem_nil, or_false] at hv
    rcases hv with rfl | rfl
    · exact ⟨_, rfl, .inl rfl⟩
    · exact ⟨_, rfl, .inr hz⟩
  refine ⟨_, rfl, _, rfl, _, rfl, dd, _, 2, .int a2, rfl, rfl, SqL.of hd.at', h2, _, rfl, _, p, ws, rfl, hp, fun H7 v7 d7 s7 n7 t7 => ?_⟩
  obtain ⟨nd2, rfl, hnd2⟩ := t7
  replace hp := hp.mono s7
  replace hd := hd.mono s7
  replace n1 := n1.same s7
  replace n2 := n2.same s7
  replace n3 := n3.same s7
  replace n4 := n4.same s7
  replace s := s.trans s7
  exact ⟨_, rfl, szOk rfl, fun q9 H9 g9 s9 e9 => k H9 _ _ (s.trans s9) (.tup e9 (.cons (.str _) (.cons (n1.same s9) (.cons (n2.same s9) (.cons (n7.same s9) (.cons (.str z') .nil)))))) fun num => .cell _ _ _ _ hpd hnd hnd2 hz'⟩
theorem ok_f_law_shown (T : Txt K mg d tk) (gf_law_shown_what : FnOk P w K mg base CX0 3 d.f_law_shown_what d.f_law_shown_whatd ["_law_what_here"] (sp_f_law_shown_what K)) : FnOk P w K mg base CX0 4 d.f_law_shown d.f_law_shownd ["_law_deed"] (sp_f_law_shown K) := by
  refine T.F_f_law_shown.ok sc_f_law_shown (fun vs H Q E h => len_f_law_shown h) (fun cdv A outer s H vs Q E hr h => ?_)
  have hu : (A.deeper (envOfC "_law_shown" (defScope s_f_law_shown) s.heap.objs.size d.f_law_shown cdv)).units < cLine := hr.units0
  refine ⟨_, (@pss_cons _ _ _ _ _ (@ps_asg _ _ _ _ _ _ (@pv _ 0 _ _ rfl (Or.inl rfl) rfl rfl) (@pg_tup _ _ _ _ _ _ rfl (@pgs_cons _ _ _ _ _ (@pg_name _ _ (1) _ sc_f_law_shown.nd rfl (Or.inl rfl) (by first | exact .inl rfl | exact .inr rfl)) (@pgs_cons _ _ _ _ _ (@pg_name _ _ (2) _ sc_f_law_shown.nd rfl (Or.inl rfl) (by first | exact .inl rfl | exact .inr rfl)) (@pgs_cons _ _ _ _ _ (@pg_name _ _ (3) _ sc_f_law_shown.nd rfl (Or.inl rfl) (by first | exact .inl rfl | exact .inr rfl)) (@pgs_cons _ _ _ _ _ (@pg_name _ _ (4) _ sc_f_law_shown.nd rfl (Or.inl rfl) (by first | exact .inl rfl | exact .inr rfl)) (@pgs_cons _ _ _ _ _ (@pg_name _ _ (5) _ sc_f_law_shown.nd rfl (Or.inl rfl) (by first | exact .inl rfl | exact .inr rfl)) (@pgs_nil _) (by rfl)) (by rfl)) (by rfl)) (by rfl)) (by rfl)) (by rfl) (by rfl)) (by rfl) (by rfl) (by rfl)) (@pss_cons _ _ _ _ _ (@ps_set _ _ (6) _ _ _ _ sc_f_law_shown.nd rfl (Or.inl rfl) (@pe_lstA _ _ _ _ (@pa_cons _ _ _ _ _ (@pv _ 1 _ _ rfl (Or.inl rfl) rfl rfl) (@pa_cons _ _ _ _ _ (@pe_callTy _ _ _ _ _ _ _ _ _ call_strV (by rfl) T.b_str boot_str (@pa_cons _ _ _ _ _ (@pv _ 2 _ _ rfl (Or.inl rfl) rfl rfl) (@pa_nil _) (by rfl)) (by decide) (by decide) (by rfl) (by rfl)) (@pa_cons _ _ _ _ _ (@pe_bm _ _ _ _ _ _ _ _ _ _ _ _ PySem.F.plainAttrs_str PySem.F.slot_str_join PySem.F.type_str_join mt_join (@pe_str _ _ _ _) (@pa_cons _ _ _ _ _ (@pe_lcomp _ _ _ _ _ _ _ (["_law_many"]) ([]) _ _ _ _ _ rfl (@pi_tup _ _ _ _ (@pv _ 3 _ _ rfl (Or.inl rfl) rfl rfl)) ⟨rfl, by decide +kernel, by decide +kernel⟩ (caps0 (by decide +kernel)) (fun _ _ _ => (@pg_name _ _ (0) _ (by show List.Nodup (["_law_many"] : List Str); decide +kernel) rfl (Or.inl rfl) (by first | exact .inl rfl | exact .inr rfl))) (fun _ => fresh_name rfl) (fun _ _ _ => (@pts_nil _)) (fun _ _ _ => (@pe_callTy _ _ _ _ _ _ _ _ _ call_strV (by rfl) T.b_str boot_str (@pa_cons _ _ _ _ _ (@pv _ 0 _ _ rfl (Or.inl rfl) rfl rfl) (@pa_nil _) (by rfl)) (by decide) (by decide) (by rfl) (by rfl))) (by intro _; rfl)) (@pa_nil _) (by rfl)) (by rfl) (by rfl) (by rfl) (by rfl) (by rfl)) (@pa_nil _) (by rfl)) (by rfl)) (by rfl))) (by rfl) (by first | exact .inl rfl | exact .inr rfl)) (@pss_cons _ _ _ _ _ (@ps_if _ _ _ _ _ _ _ _ (@pt_cmpR _ _ _ _ _ _ _ _ op_isN (@pv _ 4 _ _ rfl (Or.inl rfl) rfl rfl) (@pe_non _ _ _) (nomark _)) (@pss_one _ _ _ (@ps_expr _ _ _ _ (@pe_bm _ _ _ _ _ _ _ _ _ _ _ _ PySem.F.plainAttrs_list PySem.F.slot_list_append PySem.F.type_list_append mt_append (@pv _ 6 _ _ rfl (Or.inl rfl) rfl rfl) (@pa_cons _ _ _ _ _ (@pe_str _ _ _ _) (@pa_nil _) (by rfl)) (by rfl) (by rfl) (by rfl) (by rfl) (by rfl)) (by rfl))) (@pss_one _ _ _ (@ps_expr _ _ _ _ (@pe_bm _ _ _ _ _ _ _ _ _ _ _ _ PySem.F.plainAttrs_list PySem.F.slot_list_append PySem.F.type_list_append mt_append (@pv _ 6 _ _ rfl (Or.inl rfl) rfl rfl) (@pa_cons _ _ _ _ _ (@pe_op _ _ _ _ _ _ _ _ op_add_str (@pe_op _ _ _ _ _ _ _ _ op_add_str (@pe_ix _ _ _ _ _ _ _ ix_tup (@pv _ 4 _ _ rfl (Or.inl rfl) rfl rfl) (@pe_int _ _ _ _) (fun _ _ => rfl)) (@pe_str _ _ _ _)) (@pe_ix _ _ _ _ _ _ _ ix_tup (@pv _ 4 _ _ rfl (Or.inl rfl) rfl rfl) (@pe_int _ _ _ _) (fun _ _ => rfl))) (@pa_nil _) (by rfl)) (by rfl) (by rfl) (by rfl) (by rfl) (by rfl)) (by rfl)))) (@pss_one _ _ _ (@ps_ret _ _ _ _ (@pe_bm _ _ _ _ _ _ _ _ _ _ _ _ PySem.F.plainAttrs_str PySem.F.slot_str_join PySem.F.type_str_join mt_join (@pe_str _ _ _ _) (@pa_cons _ _ _ _ _ (@pe_op _ _ _ _ _ _ _ _ op_catA (@pv _ 6 _ _ rfl (Or.inl rfl) rfl rfl) (@pe_call _ _ _ _ _ _ _ _ _ _ _ _ _ _ _ _ gf_law_shown_what (hr.mono (by decide)) (by rfl) T.m_f_law_shown_what T.k_f_law_shown_what T.d_f_law_shown_what .nil pass0 (@pa_cons _ _ _ _ _ (@pv _ 5 _ _ rfl (Or.inl rfl) rfl rfl) (@pa_nil _) (by rfl)) (by decide) (by rfl) (by rfl))) (@pa_nil _) (by rfl)) (by rfl) (by rfl) (by rfl) (by rfl) (by rfl))))))), ?_⟩
  obtain ⟨v, w, n, hs, b, ws, rfl, dk, kk⟩ := h
  obtain ⟨q, hq, vb, vx, ds, rfl, eq, dh, db, dx, hw⟩ := dk.at'
  obtain ⟨qh, hxs, rfl, hqq, hx⟩ := dv_tup dh
  refine ⟨_, rfl, q, _, rfl, SqT.of eq, rfl, ?_⟩
  refine ⟨_, _, rfl, _, _, rfl, _, _, rfl, _, _, rfl, _, _, rfl, rfl, ?_⟩
  refine ⟨_, rfl, _, rfl, _, rfl, .inr ⟨n, rfl, log_nb dk.nn⟩, ?_⟩
  refine ⟨rfl, _, rfl, qh, rfl, ⟨_, SqT.of hqq⟩, lc_map strD hqq hx (by have := dk.hl; omega) (fun x d H' K1 K0 hd dv s k => ?_) fun H6 p6 s6 g6 e6 => ?_⟩
  · obtain ⟨f1, f2⟩ := flat_V dv (dk.hf d hd)
    refine iteT (B := K0 H') ?_
    refine ⟨_, rfl, x, rfl, f1, ?_⟩
    rw [f2]
    exact k H' (Same.refl H')
  refine ⟨",", p6, _, rfl, rfl, SqL.of e6, ?_, ?_⟩
  · have a := sum_len dk.hf
    have := dk.hl
    have e1 : ("," : Str).length = 1 := rfl
    rw [e1, List.length_map]
    omega
  refine ⟨szOk rfl, fun p7 H7 g7 s7 e7 => ?_⟩
  have t7 := s6.trans s7
  have wl := hw.len
  rcases dk.bo with rfl | ⟨a, c, rfl, la, lc⟩
  · cases dv_non db
    refine ⟨_, rfl, rfl, _, rfl, itT (decide_eq_true rfl) ?_⟩
    refine ⟨_, rfl, .inl ⟨rfl, _, SqL.of e7⟩, p7, _, _, rfl, rfl, e7, small1000 (Nat.le_of_ble_eq_true rfl), ?_⟩
    have w8 := s7.wr (o := .lst [.str w, .str (toString n), .str (Txt.join "," (hs.map strD)), .str "-"]) g7
    have t8 := s6.trans w8
    refine ⟨rfl, _, rfl, _, rfl, vx, ds, ws, rfl, dx.same t8, hw, fun H9 p9 s9 e9 => ?_⟩
    have t9 := t8.trans s9
    refine ⟨p7, p9, _, _, rfl, rfl, s9 _ _ upd_same, e9, ?_, fun p5 H5 g5 s5 e5 => ?_⟩
    · rw [List.length_map]
      exact Nat.le_of_lt (small1000 (by show 4 + _ ≤ 1000; omega))
    refine ⟨" ", p5, ([w, toString n, Txt.join "," (hs.map strD), brT .none] : List Str) ++ ws, rfl, rfl, SqL.of ?_, dd_len dk.wl dk.nn dk.hl dk.hf dk.bo wl, kk H5 (t9.trans s5)⟩
    rw [e5, List.map_append]
    rfl
  · obtain ⟨qb, xs, rfl, hqb, hxb⟩ := dv_tup db
    cases hxb with
    | cons y1 t =>
    cases t with
    | cons y2 t =>
    cases t
    cases dv_str y1
    cases dv_str y2
    refine ⟨_, rfl, rfl, _, rfl, itF (decide_eq_false fun z => nomatch z) ?_⟩
    have e1 : ("." : Str).length = 1 := rfl
    refine ⟨_, rfl, .inl ⟨rfl, _, SqL.of e7⟩, _, rfl, qb, _, 0, .str a, rfl, rfl, SqT.of (t7 _ _ hqb), atI_nat (j := 0) rfl, _, _, rfl, rfl, by rw [e1]; show _ ≤ 16777216; omega, _, rfl, qb, _, 1, .str c, rfl, rfl, SqT.of (t7 _ _ hqb), atI_nat (j := 1) rfl, _, _, rfl, rfl, by rw [Str.length_append, e1]; show _ ≤ 16777216; omega, p7, _, _, rfl, rfl, e7, small1000 (Nat.le_of_ble_eq_true rfl), ?_⟩
    have w8 := s7.wr (o := .lst [.str w, .str (toString n), .str (Txt.join "," (hs.map strD)), .str (a ++ "." ++ c)]) g7
    have t8 := s6.trans w8
    refine ⟨rfl, _, rfl, _, rfl, vx, ds, ws, rfl, dx.same t8, hw, fun H9 p9 s9 e9 => ?_⟩
    have t9 := t8.trans s9
    refine ⟨p7, p9, _, _, rfl, rfl, s9 _ _ upd_same, e9, ?_, fun p5 H5 g5 s5 e5 => ?_⟩
    · rw [List.length_map]
      exact Nat.le_of_lt (small1000 (by show 4 + _ ≤ 1000; omega))
    refine ⟨" ", p5, ([w, toString n, Txt.join "," (hs.map strD), brT (.tuple [.str a, .str c])] : List Str) ++ ws, rfl, rfl, SqL.of ?_, dd_len dk.wl dk.nn dk.hl dk.hf dk.bo wl, kk H5 (t9.trans s5)⟩
    rw [e5, List.map_append, show brT (.tuple [.str a, .str c]) = a ++ "." ++ c from br_join a c]
    rfl
theorem ok_fshown_deed (T : Txt K mg d tk) (gfshown_branch : FnOk P w K mg base CX0 1 d.fshown_branch d.fshown_branchd ["branch"] (sp_fshown_branch K)) (gfshown_counts : FnOk P w K mg base CX0 1 d.fshown_counts d.fshown_countsd ["counts"] (sp_fshown_counts K)) (gfwords_of : FnOk P w K mg base CX0 4 d.fwords_of d.fwords_ofd ["what"] (sp_fwords_of K)) : FnOk P w K mg base CX0 5 d.fshown_deed d.fshown_deedd ["deed"] (sp_fshown_deed K) := by
  refine T.F_fshown_deed.ok sc_fshown_deed (fun vs H Q E h => len_fshown_deed h) (fun cdv A outer s H vs Q E hr h => ?_)
  have hu : (A.deeper (envOfC "shown_deed" (defScope s_fshown_deed) s.heap.objs.size d.fshown_deed cdv)).units < cLine := hr.units0
  refine ⟨_, (@pss_cons _ _ _ _ _ (@ps_set _ _ (1) _ _ _ _ sc_fshown_deed.nd rfl (Or.inl rfl) (@pe_lstA _ _ _ _ (@pa_cons _ _ _ _ _ (@pe_ix _ _ _ _ _ _ _ ix_tup (@pv _ 0 _ _ rfl (Or.inl rfl) rfl rfl) (@pe_int _ _ _ _) (fun _ _ => rfl)) (@pa_cons _ _ _ _ _ (@pe_callTy _ _ _ _ _ _ _ _ _ call_strV (by rfl) T.b_str boot_str (@pa_cons _ _ _ _ _ (@pe_ix _ _ _ _ _ _ _ ix_tup (@pv _ 0 _ _ rfl (Or.inl rfl) rfl rfl) (@pe_int _ _ _ _) (fun _ _ => rfl)) (@pa_nil _) (by rfl)) (by decide) (by decide) (by rfl) (by rfl)) (@pa_cons _ _ _ _ _ (@pe_call _ _ _ _ _ _ _ _ _ _ _ _ _ _ _ _ gfshown_counts (hr.mono (by decide)) (by rfl) T.m_fshown_counts T.k_fshown_counts T.d_fshown_counts .nil pass0 (@pa_cons _ _ _ _ _ (@pe_ix _ _ _ _ _ _ _ ix_tup (@pv _ 0 _ _ rfl (Or.inl rfl) rfl rfl) (@pe_int _ _ _ _) (fun _ _ => rfl)) (@pa_nil _) (by rfl)) (by decide) (by rfl) (by rfl)) (@pa_cons _ _ _ _ _ (@pe_call _ _ _ _ _ _ _ _ _ _ _ _ _ _ _ _ gfshown_branch (hr.mono (by decide)) (by rfl) T.m_fshown_branch T.k_fshown_branch T.d_fshown_branch .nil pass0 (@pa_cons _ _ _ _ _ (@pe_ix _ _ _ _ _ _ _ ix_tup (@pv _ 0 _ _ rfl (Or.inl rfl) rfl rfl) (@pe_int _ _ _ _) (fun _ _ => rfl)) (@pa_nil _) (by rfl)) (by decide) (by rfl) (by rfl)) (@pa_nil _) (by rfl)) (by rfl)) (by rfl)) (by rfl))) (by rfl) (by first | exact .inl rfl | exact .inr rfl)) (@pss_one _ _ _ (@ps_ret _ _ _ _ (@pe_bm _ _ _ _ _ _ _ _ _ _ _ _ PySem.F.plainAttrs_str PySem.F.slot_str_join PySem.F.type_str_join mt_join (@pe_str _ _ _ _) (@pa_cons _ _ _ _ _ (@pe_op _ _ _ _ _ _ _ _ op_catA (@pv _ 1 _ _ rfl (Or.inl rfl) rfl rfl) (@pe_call _ _ _ _ _ _ _ _ _ _ _ _ _ _ _ _ gfwords_of (hr.mono (by decide)) (by rfl) T.m_fwords_of T.k_fwords_of T.d_fwords_of .nil pass0 (@pa_cons _ _ _ _ _ (@pe_ix _ _ _ _ _ _ _ ix_tup (@pv _ 0 _ _ rfl (Or.inl rfl) rfl rfl) (@pe_int _ _ _ _) (fun _ _ => rfl)) (@pa_nil _) (by rfl)) (by decide) (by rfl) (by rfl))) (@pa_nil _) (by rfl)) (by rfl) (by rfl) (by rfl) (by rfl) (by rfl))))), ?_⟩
  obtain ⟨v, w, n, hs, b, ws, rfl, dk, kk⟩ := h
  obtain ⟨q, hq, vb, vx, ds, rfl, eq, dh, db, dx, hw⟩ := dk.at'
  refine ⟨_, rfl, q, _, 0, .str w, rfl, rfl, SqT.of eq, atI_nat (j := 0) rfl, ?_⟩
  refine ⟨_, rfl, q, _, 1, .int n, rfl, rfl, SqT.of eq, atI_nat (j := 1) rfl, _, rfl, .inr ⟨n, rfl, log_nb dk.nn⟩, ?_⟩
  refine ⟨_, rfl, q, _, 2, hq, rfl, rfl, SqT.of eq, atI_nat (j := 2) rfl, hq, hs, rfl, dh, dk.hl, dk.hf, fun H1 s1 => ?_⟩
  refine ⟨_, rfl, q, _, 3, vb, rfl, rfl, SqT.of (s1 _ _ eq), atI_nat (j := 3) rfl, vb, b, rfl, db.same s1, dk.bo, fun H2 s2 => ?_⟩
  have t2 := s1.trans s2
  refine ⟨szOk rfl, fun p3 H3 g3 s3 e3 => ?_⟩
  have t3 := t2.trans s3
  refine ⟨rfl, _, rfl, _, rfl, q, _, 4, vx, rfl, rfl, SqT.of (t3 _ _ eq), atI_nat (j := 4) rfl, vx, ds, ws, rfl, dx.same t3, hw, fun H4 p4 s4 e4 => ?_⟩
  have t4 := t3.trans s4
  have wl := hw.len
  refine ⟨p3, p4, _, _, rfl, rfl, s4 _ _ e3, e4, ?_, fun p5 H5 g5 s5 e5 => ?_⟩
  · rw [List.length_map]
    exact Nat.le_of_lt (small1000 (by show 4 + _ ≤ 1000; omega))
  refine ⟨" ", p5, ([w, toString n, Txt.join "," (hs.map strD), brT b] : List Str) ++ ws, rfl, rfl, SqL.of ?_, dd_len dk.wl dk.nn dk.hl dk.hf dk.bo wl, kk H5 (t4.trans s5)⟩
  rw [e5, List.map_append]
  rfl
theorem ok_f_law_what_of_signs (T : Txt K mg d tk) (gf_law_name : FnOk P w K mg base CX0 1 d.f_law_name d.f_law_named ["_law_number", "_law_roll_here"] (sp_f_law_name K)) (gf_law_part : FnOk P w K mg base CX0 2 d.f_law_part d.f_law_partd ["_law_number", "_law_roll_here"] (sp_f_law_part K)) (gf_law_sign_name : FnOk P w K mg base CX0 2 d.f_law_sign_name d.f_law_sign_named ["_law_number", "_law_roll_here"] (sp_f_law_sign_name K)) (gf_law_sign_names : FnOk P w K mg base CX0 3 d.f_law_sign_names d.f_law_sign_namesd ["_law_draws_here", "_law_roll_here"] (sp_f_law_sign_names K)) (gf_law_signs : FnOk P w K mg base CX0 4 d.f_law_signs d.f_law_signsd ["_law_draws_here", "_law_roll_here"] (sp_f_law_signs K)) : FnOk P w K mg base CX0 5 d.f_law_what_of_signs d.f_law_what_of_signsd ["_law_kind", "_law_more", "_law_roll_here"] (sp_f_law_what_of_signs K) := by
  refine T.F_f_law_what_of_signs.ok sc_f_law_what_of_signs (fun vs H Q E h => len_f_law_what_of_signs h) (fun cdv A outer s H vs Q E hr h => ?_)
  have hu : (A.deeper (envOfC "_law_what_of_signs" (defScope s_f_law_what_of_signs) s.heap.objs.size d.f_law_what_of_signs cdv)).units < cLine := hr.units0
  refine ⟨_, (@pss_cons _ _ _ _ _ (@ps_set _ _ (3) _ _ _ _ sc_f_law_what_of_signs.nd rfl (Or.inl rfl) (@pe_call _ _ _ _ _ _ _ _ _ _ _ _ _ _ _ _ gf_law_part (hr.mono (by decide)) (by rfl) T.m_f_law_part T.k_f_law_part T.d_f_law_part .nil pass0 (@pa_cons _ _ _ _ _ (@pe_ix _ _ _ _ _ _ _ ix_list (@pv _ 1 _ _ rfl (Or.inl rfl) rfl rfl) (@pe_int _ _ _ _) (fun _ _ => rfl)) (@pa_cons _ _ _ _ _ (@pv _ 2 _ _ rfl (Or.inl rfl) rfl rfl) (@pa_nil _) (by rfl)) (by rfl)) (by decide) (by rfl) (by rfl)) (by rfl) (by first | exact .inl rfl | exact .inr rfl)) (@pss_cons _ _ _ _ _ (@ps_set _ _ (4) _ _ _ _ sc_f_law_what_of_signs.nd rfl (Or.inl rfl) (@pe_call _ _ _ _ _ _ _ _ _ _ _ _ _ _ _ _ gf_law_name (hr.mono (by decide)) (by rfl) T.m_f_law_name T.k_f_law_name T.d_f_law_name .nil pass0 (@pa_cons _ _ _ _ _ (@pe_ix _ _ _ _ _ _ _ ix_list (@pv _ 1 _ _ rfl (Or.inl rfl) rfl rfl) (@pe_int _ _ _ _) (fun _ _ => rfl)) (@pa_cons _ _ _ _ _ (@pv _ 2 _ _ rfl (Or.inl rfl) rfl rfl) (@pa_nil _) (by rfl)) (by rfl)) (by decide) (by rfl) (by rfl)) (by rfl) (by first | exact .inl rfl | exact .inr rfl)) (@pss_cons _ _ _ _ _ (@ps_set _ _ (5) _ _ _ _ sc_f_law_what_of_signs.nd rfl (Or.inl rfl) (@pe_ix _ _ _ _ _ _ _ ix_any (@pe_lstA _ _ _ _ (@pa_cons _ _ _ _ _ (@pe_non _ _ _) (@pa_cons _ _ _ _ _ (@pe_call _ _ _ _ _ _ _ _ _ _ _ _ _ _ _ _ gf_law_sign_name (hr.mono (by decide)) (by rfl) T.m_f_law_sign_name T.k_f_law_sign_name T.d_f_law_sign_name .nil pass0 (@pa_cons _ _ _ _ _ (@pe_op _ _ _ _ _ _ _ _ op_fdiv (@pe_ix _ _ _ _ _ _ _ ix_list (@pv _ 1 _ _ rfl (Or.inl rfl) rfl rfl) (@pe_int _ _ _ _) (fun _ _ => rfl)) (@pe_int _ _ _ _)) (@pa_cons _ _ _ _ _ (@pv _ 2 _ _ rfl (Or.inl rfl) rfl rfl) (@pa_nil _) (by rfl)) (by rfl)) (by decide) (by rfl) (by rfl)) (@pa_nil _) (by rfl)) (by rfl))) (@pe_callTy _ _ _ _ _ _ _ _ _ call_int1 (by rfl) T.b_int boot_int (@pa_cons _ _ _ _ _ (@pe_cmpR _ _ _ _ _ _ _ _ op_gt (@pe_op _ _ _ _ _ _ _ _ op_mod (@pe_ix _ _ _ _ _ _ _ ix_list (@pv _ 1 _ _ rfl (Or.inl rfl) rfl rfl) (@pe_int _ _ _ _) (fun _ _ => rfl)) (@pe_int _ _ _ _)) (@pe_int _ _ _ _) (nomark _)) (@pa_nil _) (by rfl)) (by decide) (by decide) (by rfl) (by rfl)) (fun _ _ => rfl)) (by rfl) (by first | exact .inl rfl | exact .inr rfl)) (@pss_cons _ _ _ _ _ (@ps_if _ _ _ _ _ _ _ _ (@pt_cmpR _ _ _ _ _ _ _ _ op_eq (@pv _ 0 _ _ rfl (Or.inl rfl) rfl rfl) (@pe_int _ _ _ _) (nomark _)) (@pss_one _ _ _ (@ps_ret _ _ _ _ (@pe_tupA _ _ _ _ _ (@pa_cons _ _ _ _ _ (@pe_str _ _ _ _) (@pa_cons _ _ _ _ _ (@pv _ 3 _ _ rfl (Or.inl rfl) rfl rfl) (@pa_nil _) (by rfl)) (by rfl))))) (@pss_nil _)) (@pss_cons _ _ _ _ _ (@ps_if _ _ _ _ _ _ _ _ (@pt_cmpR _ _ _ _ _ _ _ _ op_eq (@pv _ 0 _ _ rfl (Or.inl rfl) rfl rfl) (@pe_int _ _ _ _) (nomark _)) (@pss_one _ _ _ (@ps_ret _ _ _ _ (@pe_tupA _ _ _ _ _ (@pa_cons _ _ _ _ _ (@pe_str _ _ _ _) (@pa_cons _ _ _ _ _ (@pv _ 4 _ _ rfl (Or.inl rfl) rfl rfl) (@pa_cons _ _ _ _ _ (@pv _ 3 _ _ rfl (Or.inl rfl) rfl rfl) (@pa_nil _) (by rfl)) (by rfl)) (by rfl))))) (@pss_nil _)) (@pss_cons _ _ _ _ _ (@ps_if _ _ _ _ _ _ _ _ (@pt_cmpR _ _ _ _ _ _ _ _ op_eq (@pv _ 0 _ _ rfl (Or.inl rfl) rfl rfl) (@pe_int _ _ _ _) (nomark _)) (@pss_one _ _ _ (@ps_ret _ _ _ _ (@pe_tupA _ _ _ _ _ (@pa_cons _ _ _ _ _ (@pe_str _ _ _ _) (@pa_cons _ _ _ _ _ (@pv _ 4 _ _ rfl (Or.inl rfl) rfl rfl) (@pa_nil _) (by rfl)) (by rfl))))) (@pss_nil _)) (@pss_cons _ _ _ _ _ (@ps_if _ _ _ _ _ _ _ _ (@pt_cmpR _ _ _ _ _ _ _ _ op_eq (@pv _ 0 _ _ rfl (Or.inl rfl) rfl rfl) (@pe_int _ _ _ _) (nomark _)) (@pss_one _ _ _ (@ps_ret _ _ _ _ (@pe_tupA _ _ _ _ _ (@pa_cons _ _ _ _ _ (@pe_str _ _ _ _) (@pa_cons _ _ _ _ _ (@pv _ 3 _ _ rfl (Or.inl rfl) rfl rfl) (@pa_cons _ _ _ _ _ (@pv _ 5 _ _ rfl (Or.inl rfl) rfl rfl) (@pa_cons _ _ _ _ _ (@pe_call _ _ _ _ _ _ _ _ _ _ _ _ _ _ _ _ gf_law_signs (hr.mono (by decide)) (by rfl) T.m_f_law_signs T.k_f_law_signs T.d_f_law_signs .nil pass0 (@pa_cons _ _ _ _ _ (@pe_slice _ _ _ _ _ _ _ _ _ _ sl_listA (@pv _ 1 _ _ rfl (Or.inl rfl) rfl rfl) (@po_some _ _ _ (@pe_int _ _ _ _)) (@po_none _)) (@pa_cons _ _ _ _ _ (@pv _ 2 _ _ rfl (Or.inl rfl) rfl rfl) (@pa_nil _) (by rfl)) (by rfl)) (by decide) (by rfl) (by rfl)) (@pa_nil _) (by rfl)) (by rfl)) (by rfl)) (by rfl))))) (@pss_nil _)) (@pss_cons _ _ _ _ _ (@ps_if _ _ _ _ _ _ _ _ (@pt_cmpR _ _ _ _ _ _ _ _ op_eq (@pv _ 0 _ _ rfl (Or.inl rfl) rfl rfl) (@pe_int _ _ _ _) (nomark _)) (@pss_one _ _ _ (@ps_ret _ _ _ _ (@pe_tupA _ _ _ _ _ (@pa_cons _ _ _ _ _ (@pe_str _ _ _ _) (@pa_cons _ _ _ _ _ (@pv _ 3 _ _ rfl (Or.inl rfl) rfl rfl) (@pa_cons _ _ _ _ _ (@pe_call _ _ _ _ _ _ _ _ _ _ _ _ _ _ _ _ gf_law_sign_names (hr.mono (by decide)) (by rfl) T.m_f_law_sign_names T.k_f_law_sign_names T.d_f_law_sign_names .nil pass0 (@pa_cons _ _ _ _ _ (@pe_slice _ _ _ _ _ _ _ _ _ _ sl_listA (@pv _ 1 _ _ rfl (Or.inl rfl) rfl rfl) (@po_some _ _ _ (@pe_int _ _ _ _)) (@po_none _)) (@pa_cons _ _ _ _ _ (@pv _ 2 _ _ rfl (Or.inl rfl) rfl rfl) (@pa_nil _) (by rfl)) (by rfl)) (by decide) (by rfl) (by rfl)) (@pa_nil _) (by rfl)) (by rfl)) (by rfl))))) (@pss_nil _)) (@pss_one _ _ _ (@ps_ret _ _ _ _ (@pe_tupA _ _ _ _ _ (@pa_cons _ _ _ _ _ (@pe_str _ _ _ _) (@pa_nil _) (by rfl))))))))))))), ?_⟩
  obtain ⟨i, dd, p, ws, ns, rfl, hp, hd, k⟩ := h
  obtain ⟨a0, h0⟩ := hd.get 0 (by decide)
  obtain ⟨a1, h1⟩ := hd.get 1 (by decide)
  have s := Same.refl H
  refine ⟨_, rfl, dd, _, 0, .int a0, rfl, rfl, SqL.of hd.at', h0, _, rfl, _, p, ws, rfl, hp, fun H1 v1 d1 s1 n1 t1 => ?_⟩
  obtain ⟨pd, rfl, hpd⟩ := t1
  replace hp := hp.mono s1
  replace hd := hd.mono s1
  replace s := s.trans s1
  refine ⟨_, rfl, dd, _, 1, .int a1, rfl, rfl, SqL.of hd.at', h1, _, rfl, _, p, ws, rfl, hp, fun H2 v2 d2 s2 n2 t2 => ?_⟩
  obtain ⟨nd, rfl, hnd⟩ := t2
  replace hp := hp.mono s2
  replace hd := hd.mono s2
  replace n1 := n1.same s2
  replace s := s.trans s2
  refine ⟨_, rfl, dd, _, 1, .int a1, rfl, rfl, SqL.of hd.at', h1, _, _, rfl, rfl, ⟨by decide, by decide⟩, _, rfl, _, p, ws, rfl, hp, fun H3 v3 d3 s3 n3 t3 => ?_⟩
  obtain ⟨sd, rfl, hsd⟩ := t3
  replace hp := hp.mono s3
  replace hd := hd.mono s3
  replace n1 := n1.same s3
  replace n2 := n2.same s3
  replace s := s.trans s3
  refine ⟨szOk rfl, fun q4 H4 g4 s4 e4 => ?_⟩
  replace hp := hp.mono s4
  replace hd := hd.mono s4
  replace n1 := n1.same s4
  replace n2 := n2.same s4
  replace n3 := n3.same s4
  replace s := s.trans s4
  refine ⟨_, rfl, dd, _, 1, .int a1, rfl, rfl, SqL.of hd.at', h1, _, _, rfl, rfl, (by show (0 : Int) < 3; decide), _, _, rfl, rfl, .inr ⟨_, rfl, ?_⟩⟩
  refine ⟨q4, _, _, rfl, rfl, SqL.of e4, bit_lo _, bit_hi2 _, fun v hv => ?_⟩
  have hb : ∃ b, DT H4 v b ∧ OrD (SnD ws) b := by
    simp only [List.mem_cons, List.not_mem_nil, or_false] at hv
    rcases hv with rfl | rfl
    · exact ⟨_, .non, .inl rfl⟩
    · exact ⟨_, n3, .inr ⟨_, rfl, hsd⟩⟩
  obtain ⟨b, db, hb⟩ := hb
  refine ⟨_, rfl, rfl, _, rfl, ?_⟩
  refine ite2 (fun _ => ⟨_, rfl, szOk rfl, fun q9 H9 g9 s9 e9 => k H9 _ _ (s.trans s9) (.tup e9 (.cons (.str _) (.cons (n1.same s9) .nil))) fun num => .part _ hpd⟩) fun _ => ?_
  refine ⟨_, rfl, rfl, _, rfl, ?_⟩
  refine ite2 (fun _ => ⟨_, rfl, _, rfl, szOk rfl, fun q9 H9 g9 s9 e9 => k H9 _ _ (s.trans s9) (.tup e9 (.cons (.str _) (.cons (n2.same s9) (.cons (n1.same s9) .nil)))) fun num => .move _ _ hnd hpd⟩) fun _ => ?_
  refine ⟨_, rfl, rfl, _, rfl, ?_⟩
  refine ite2 (fun _ => ⟨_, rfl, szOk rfl, fun q9 H9 g9 s9 e9 => k H9 _ _ (s.trans s9) (.tup e9 (.cons (.str _) (.cons (n2.same s9) .nil))) fun num => .cut _ hnd⟩) fun _ => ?_
  refine ⟨_, rfl, rfl, _, rfl, ?_⟩
  refine ite2 (fun _ => ?_) fun _ => ?_
  · refine ⟨_, rfl, _, rfl, _, rfl, _, rfl, dd, _, rfl, SqL.of hd.at', fun q5 H5 g5 s5 e5 => ?_⟩
    refine ⟨_, rfl, q5, p, ws, _, rfl, hp.mono s5, ⟨(hd.from 2 (by decide) e5).at', by have := (hd.from 2 (by decide) e5).len; omega, (hd.from 2 (by decide) e5).few⟩, fun H6 v6 sg s6 d6 l1 l2 hsg => ?_⟩
    refine ⟨szOk rfl, fun q9 H9 g9 s9 e9 => ?_⟩
    have t9 := (s5.trans s6).trans s9
    exact k H9 _ _ (s.trans t9) (.tup e9 (.cons (.str _) (.cons (n1.same t9) (.cons (db.same t9) (.cons (d6.same s9) .nil))))) fun num => .put _ _ _ hpd hb l1 l2 hsg
  refine ⟨_, rfl, rfl, _, rfl, ?_⟩
  refine ite2 (fun _ => ?_) fun _ => ?_
  · refine ⟨_, rfl, _, rfl, _, rfl, dd, _, rfl, SqL.of hd.at', fun q5 H5 g5 s5 e5 => ?_⟩
    refine ⟨_, rfl, q5, p, ws, _, rfl, hp.mono s5, ⟨(hd.from 1 (by decide) e5).at', by have := (hd.from 1 (by decide) e5).len; omega, (hd.from 1 (by decide) e5).few⟩, fun H6 v6 nn s6 d6 l1 l2 hnn hnd2 => ?_⟩
    refine ⟨szOk rfl, fun q9 H9 g9 s9 e9 => ?_⟩
    have t9 := (s5.trans s6).trans s9
    exact k H9 _ _ (s.trans t9) (.tup e9 (.cons (.str _) (.cons (n1.same t9) (.cons (d6.same s9) .nil)))) fun num => .out _ _ hpd l1 l2 hnn hnd2
  · exact ⟨szOk rfl, fun q9 H9 g9 s9 e9 => k H9 _ _ (s.trans s9) (.tup e9 (.cons (.str _) .nil)) fun num => .nothing⟩
theorem ok_f_law_what (T : Txt K mg d tk) (gf_law_part : FnOk P w K mg base CX0 2 d.f_law_part d.f_law_partd ["_law_number", "_law_roll_here"] (sp_f_law_part K)) (gf_law_what_of_marks : FnOk P w K mg base CX0 4 d.f_law_what_of_marks d.f_law_what_of_marksd ["_law_kind", "_law_more", "_law_roll_here"] (sp_f_law_what_of_marks K)) (gf_law_what_of_signs : FnOk P w K mg base CX0 5 d.f_law_what_of_signs d.f_law_what_of_signsd ["_law_kind", "_law_more", "_law_roll_here"] (sp_f_law_what_of_signs K)) (gf_law_word : FnOk P w K mg base CX0 1 d.f_law_word d.f_law_wordd ["_law_number"] (sp_f_law_word K)) : FnOk P w K mg base CX0 6 d.f_law_what d.f_law_whatd ["_law_draws_here", "_law_roll_here", "_law_number"] (sp_f_law_what K) := by
  refine T.F_f_law_what.ok sc_f_law_what (fun vs H Q E h => len_f_law_what h) (fun cdv A outer s H vs Q E hr h => ?_)
  have hu : (A.deeper (envOfC "_law_what" (defScope s_f_law_what) s.heap.objs.size d.f_law_what cdv)).units < cLine := hr.units0
  refine ⟨_, (@pss_cons _ _ _ _ _ (@ps_set _ _ (3) _ _ _ _ sc_f_law_what.nd rfl (Or.inl rfl) (@pe_op _ _ _ _ _ _ _ _ op_mod (@pe_ix _ _ _ _ _ _ _ ix_list (@pv _ 0 _ _ rfl (Or.inl rfl) rfl rfl) (@pe_int _ _ _ _) (fun _ _ => rfl)) (@pe_int _ _ _ _)) (by rfl) (by first | exact .inl rfl | exact .inr rfl)) (@pss_cons _ _ _ _ _ (@ps_set _ _ (4) _ _ _ _ sc_f_law_what.nd rfl (Or.inl rfl) (@pe_slice _ _ _ _ _ _ _ _ _ _ sl_listA (@pv _ 0 _ _ rfl (Or.inl rfl) rfl rfl) (@po_some _ _ _ (@pe_int _ _ _ _)) (@po_none _)) (by rfl) (by first | exact .inl rfl | exact .inr rfl)) (@pss_cons _ _ _ _ _ (@ps_if _ _ _ _ _ _ _ _ (@pt_cmpR _ _ _ _ _ _ _ _ op_lt (@pv _ 3 _ _ rfl (Or.inl rfl) rfl rfl) (@pe_int _ _ _ _) (nomark _)) (@pss_one _ _ _ (@ps_ret _ _ _ _ (@pe_call _ _ _ _ _ _ _ _ _ _ _ _ _ _ _ _ gf_law_what_of_signs (hr.mono (by decide)) (by rfl) T.m_f_law_what_of_signs T.k_f_law_what_of_signs T.d_f_law_what_of_signs .nil pass0 (@pa_cons _ _ _ _ _ (@pv _ 3 _ _ rfl (Or.inl rfl) rfl rfl) (@pa_cons _ _ _ _ _ (@pv _ 4 _ _ rfl (Or.inl rfl) rfl rfl) (@pa_cons _ _ _ _ _ (@pv _ 1 _ _ rfl (Or.inl rfl) rfl rfl) (@pa_nil _) (by rfl)) (by rfl)) (by rfl)) (by decide) (by rfl) (by rfl)))) (@pss_nil _)) (@pss_cons _ _ _ _ _ (@ps_if _ _ _ _ _ _ _ _ (@pt_cmpR _ _ _ _ _ _ _ _ op_lt (@pv _ 3 _ _ rfl (Or.inl rfl) rfl rfl) (@pe_int _ _ _ _) (nomark _)) (@pss_one _ _ _ (@ps_ret _ _ _ _ (@pe_call _ _ _ _ _ _ _ _ _ _ _ _ _ _ _ _ gf_law_what_of_marks (hr.mono (by decide)) (by rfl) T.m_f_law_what_of_marks T.k_f_law_what_of_marks T.d_f_law_what_of_marks .nil pass0 (@pa_cons _ _ _ _ _ (@pv _ 3 _ _ rfl (Or.inl rfl) rfl rfl) (@pa_cons _ _ _ _ _ (@pv _ 4 _ _ rfl (Or.inl rfl) rfl rfl) (@pa_cons _ _ _ _ _ (@pv _ 1 _ _ rfl (Or.inl rfl) rfl rfl) (@pa_nil _) (by rfl)) (by rfl)) (by rfl)) (by decide) (by rfl) (by rfl)))) (@pss_nil _)) (@pss_cons _ _ _ _ _ (@ps_if _ _ _ _ _ _ _ _ (@pt_cmpR _ _ _ _ _ _ _ _ op_eq (@pv _ 3 _ _ rfl (Or.inl rfl) rfl rfl) (@pe_int _ _ _ _) (nomark _)) (@pss_cons _ _ _ _ _ (@ps_set _ _ (5) _ _ _ _ sc_f_law_what.nd rfl (Or.inl rfl) (@pe_ix _ _ _ _ _ _ _ ix_any (@pe_lstA _ _ _ _ (@pa_cons _ _ _ _ _ (@pe_str _ _ _ _) (@pa_cons _ _ _ _ _ (@pe_str _ _ _ _) (@pa_cons _ _ _ _ _ (@pe_str _ _ _ _) (@pa_cons _ _ _ _ _ (@pe_str _ _ _ _) (@pa_nil _) (by rfl)) (by rfl)) (by rfl)) (by rfl))) (@pe_op _ _ _ _ _ _ _ _ op_mod (@pe_ix _ _ _ _ _ _ _ ix_list (@pv _ 4 _ _ rfl (Or.inl rfl) rfl rfl) (@pe_int _ _ _ _) (fun _ _ => rfl)) (@pe_int _ _ _ _)) (fun _ _ => rfl)) (by rfl) (by first | exact .inl rfl | exact .inr rfl)) (@pss_one _ _ _ (@ps_ret _ _ _ _ (@pe_tupA _ _ _ _ _ (@pa_cons _ _ _ _ _ (@pe_str _ _ _ _) (@pa_cons _ _ _ _ _ (@pe_call _ _ _ _ _ _ _ _ _ _ _ _ _ _ _ _ gf_law_part (hr.mono (by decide)) (by rfl) T.m_f_law_part T.k_f_law_part T.d_f_law_part .nil pass0 (@pa_cons _ _ _ _ _ (@pe_ix _ _ _ _ _ _ _ ix_list (@pv _ 4 _ _ rfl (Or.inl rfl) rfl rfl) (@pe_int _ _ _ _) (fun _ _ => rfl)) (@pa_cons _ _ _ _ _ (@pv _ 1 _ _ rfl (Or.inl rfl) rfl rfl) (@pa_nil _) (by rfl)) (by rfl)) (by decide) (by rfl) (by rfl)) (@pa_cons _ _ _ _ _ (@pe_ix _ _ _ _ _ _ _ ix_any (@pv _ 1 _ _ rfl (Or.inl rfl) rfl rfl) (@pe_op _ _ _ _ _ _ _ _ op_mod (@pe_ix _ _ _ _ _ _ _ ix_list (@pv _ 4 _ _ rfl (Or.inl rfl) rfl rfl) (@pe_int _ _ _ _) (fun _ _ => rfl)) (@pe_callB _ _ _ _ _ _ _ _ _ call_len_seq (by rfl) T.b_len boot_len (@pa_cons _ _ _ _ _ (@pv _ 1 _ _ rfl (Or.inl rfl) rfl rfl) (@pa_nil _) (by rfl)) (by decide) (by decide) (by rfl) (by rfl))) (fun _ _ => rfl)) (@pa_cons _ _ _ _ _ (@pv _ 5 _ _ rfl (Or.inl rfl) rfl rfl) (@pa_cons _ _ _ _ _ (@pe_cmpR _ _ _ _ _ _ _ _ op_eq (@pe_op _ _ _ _ _ _ _ _ op_mod (@pe_ix _ _ _ _ _ _ _ ix_list (@pv _ 4 _ _ rfl (Or.inl rfl) rfl rfl) (@pe_int _ _ _ _) (fun _ _ => rfl)) (@pe_int _ _ _ _)) (@pe_int _ _ _ _) (nomark _)) (@pa_nil _) (by rfl)) (by rfl)) (by rfl)) (by rfl)) (by rfl)))))) (@pss_nil _)) (@pss_cons _ _ _ _ _ (@ps_if _ _ _ _ _ _ _ _ (@PW.pt _ _ _ (@pw_and _ _ _ _ _ _ _ (@pt_cmpR _ _ _ _ _ _ _ _ op_lt (@pv _ 3 _ _ rfl (Or.inl rfl) rfl rfl) (@pe_int _ _ _ _) (nomark _)) (@pw_and1 _ _ _ _ (@pt_cmpR _ _ _ _ _ _ _ _ op_gt (@pv _ 2 _ _ rfl (Or.inl rfl) rfl rfl) (@pe_int _ _ _ _) (nomark _))))) (@pss_one _ _ _ (@ps_ret _ _ _ _ (@pe_tupA _ _ _ _ _ (@pa_cons _ _ _ _ _ (@pe_ix _ _ _ _ _ _ _ ix_any (@pe_lstA _ _ _ _ (@pa_cons _ _ _ _ _ (@pe_str _ _ _ _) (@pa_cons _ _ _ _ _ (@pe_str _ _ _ _) (@pa_nil _) (by rfl)) (by rfl))) (@pe_op _ _ _ _ _ _ _ _ op_sub (@pv _ 3 _ _ rfl (Or.inl rfl) rfl rfl) (@pe_int _ _ _ _)) (fun _ _ => rfl)) (@pa_cons _ _ _ _ _ (@pe_op _ _ _ _ _ _ _ _ op_add (@pe_int _ _ _ _) (@pe_op _ _ _ _ _ _ _ _ op_mod (@pe_ix _ _ _ _ _ _ _ ix_list (@pv _ 4 _ _ rfl (Or.inl rfl) rfl rfl) (@pe_int _ _ _ _) (fun _ _ => rfl)) (@pe_op _ _ _ _ _ _ _ _ op_sub (@pv _ 2 _ _ rfl (Or.inl rfl) rfl rfl) (@pe_int _ _ _ _)))) (@pa_nil _) (by rfl)) (by rfl))))) (@pss_nil _)) (@pss_cons _ _ _ _ _ (@ps_if _ _ _ _ _ _ _ _ (@PW.pt _ _ _ (@pw_or _ _ _ _ _ _ _ (@pt_cmpR _ _ _ _ _ _ _ _ op_eq (@pv _ 3 _ _ rfl (Or.inl rfl) rfl rfl) (@pe_int _ _ _ _) (nomark _)) (@pw_or1 _ _ _ _ (@pt_cmpR _ _ _ _ _ _ _ _ op_eq (@pv _ 3 _ _ rfl (Or.inl rfl) rfl rfl) (@pe_int _ _ _ _) (nomark _))))) (@pss_one _ _ _ (@ps_ret _ _ _ _ (@pe_tupA _ _ _ _ _ (@pa_cons _ _ _ _ _ (@pe_ix _ _ _ _ _ _ _ ix_any (@pe_lstA _ _ _ _ (@pa_cons _ _ _ _ _ (@pe_str _ _ _ _) (@pa_cons _ _ _ _ _ (@pe_str _ _ _ _) (@pa_nil _) (by rfl)) (by rfl))) (@pe_op _ _ _ _ _ _ _ _ op_sub (@pv _ 3 _ _ rfl (Or.inl rfl) rfl rfl) (@pe_int _ _ _ _)) (fun _ _ => rfl)) (@pa_cons _ _ _ _ _ (@pe_call _ _ _ _ _ _ _ _ _ _ _ _ _ _ _ _ gf_law_word (hr.mono (by decide)) (by rfl) T.m_f_law_word T.k_f_law_word T.d_f_law_word .nil pass0 (@pa_cons _ _ _ _ _ (@pe_ix _ _ _ _ _ _ _ ix_list (@pv _ 4 _ _ rfl (Or.inl rfl) rfl rfl) (@pe_int _ _ _ _) (fun _ _ => rfl)) (@pa_nil _) (by rfl)) (by decide) (by rfl) (by rfl)) (@pa_nil _) (by rfl)) (by rfl))))) (@pss_nil _)) (@pss_cons _ _ _ _ _ (@ps_if _ _ _ _ _ _ _ _ (@pt_cmpR _ _ _ _ _ _ _ _ op_eq (@pv _ 3 _ _ rfl (Or.inl rfl) rfl rfl) (@pe_int _ _ _ _) (nomark _)) (@pss_one _ _ _ (@ps_ret _ _ _ _ (@pe_tupA _ _ _ _ _ (@pa_cons _ _ _ _ _ (@pe_str _ _ _ _) (@pa_cons _ _ _ _ _ (@pe_callTy _ _ _ _ _ _ _ _ _ call_tupA (by rfl) T.b_tuple boot_tuple (@pa_cons _ _ _ _ _ (@pe_lcomp _ _ _ _ _ _ _ (["_law_one"]) ([]) _ _ _ _ _ rfl (@pi_list _ _ _ _ (@pe_slice _ _ _ _ _ _ _ _ _ _ sl_listA (@pv _ 4 _ _ rfl (Or.inl rfl) rfl rfl) (@po_none _) (@po_some _ _ _ (@pe_callB _ _ _ _ _ _ _ _ _ call_len_seq (by rfl) T.b_len boot_len (@pa_cons _ _ _ _ _ (@pv _ 1 _ _ rfl (Or.inl rfl) rfl rfl) (@pa_nil _) (by rfl)) (by decide) (by decide) (by rfl) (by rfl))))) ⟨rfl, by decide +kernel, by decide +kernel⟩ (caps0 (by decide +kernel)) (fun _ _ _ => (@pg_name _ _ (0) _ (by show List.Nodup (["_law_one"] : List Str); decide +kernel) rfl (Or.inl rfl) (by first | exact .inl rfl | exact .inr rfl))) (fun _ => fresh_name rfl) (fun _ _ _ => (@pts_nil _)) (fun _ _ _ => (@pe_op _ _ _ _ _ _ _ _ op_mod (@pv _ 0 _ _ rfl (Or.inl rfl) rfl rfl) (@pe_ix _ _ _ _ _ _ _ (ix_anyK (K := K) rfl) (@pe_lstA _ _ _ _ (@pa_cons _ _ _ _ _ (@pe_int _ _ _ _) (@pa_cons _ _ _ _ _ (@pe_op _ _ _ _ _ _ _ _ op_add (@pe_op _ _ _ _ _ _ _ _ op_pow (@pe_int _ _ _ _) (@pe_int _ _ _ _)) (@pe_int _ _ _ _)) (@pa_nil _) (by rfl)) (by rfl))) (@pe_op _ _ _ _ _ _ _ _ op_mod (@pe_op _ _ _ _ _ _ _ _ op_fdiv (@pv _ 0 _ _ rfl (Or.inl rfl) rfl rfl) (@pe_int _ _ _ _)) (@pe_int _ _ _ _)) (fun _ _ => rfl)))) (by intro _; rfl)) (@pa_nil _) (by rfl)) (by decide) (by decide) (by rfl) (by rfl)) (@pa_nil _) (by rfl)) (by rfl))))) (@pss_nil _)) (@pss_one _ _ _ (@ps_ret _ _ _ _ (@pe_tupA _ _ _ _ _ (@pa_cons _ _ _ _ _ (@pe_str _ _ _ _) (@pa_nil _) (by rfl))))))))))))), ?_⟩
  obtain ⟨d0, p, ws, ns0, num, rfl, hp, hd0, k⟩ := h
  obtain ⟨b0, g0⟩ := hd0.get 0 (by decide)
  refine ⟨_, rfl, d0, _, 0, .int b0, rfl, rfl, SqL.of hd0.at', g0, _, _, rfl, rfl, (by show (0 : Int) < 17; decide), ?_⟩
  refine ⟨_, rfl, _, rfl, d0, _, rfl, SqL.of hd0.at', fun dd H1 g1 s e1 => ?_⟩
  replace hp := hp.mono s
  have hd := hd0.from 1 (by decide) e1
  have hd6 : DR H1 dd (ns0.drop 1) 6 := ⟨hd.at', by have := hd.len; omega, hd.few⟩
  obtain ⟨a0, h0⟩ := hd.get 0 (by decide)
  obtain ⟨a1, h1⟩ := hd.get 1 (by decide)
  obtain ⟨a2, h2⟩ := hd.get 2 (by decide)
  obtain ⟨a3, h3⟩ := hd.get 3 (by decide)
  refine ⟨_, rfl, _, _, rfl, rfl, _, rfl, ?_⟩
  refine ite2 (fun _ => ?_) fun c1 => ?_
  · exact ⟨_, rfl, _, rfl, _, rfl, _, dd, p, ws, _, rfl, hp, hd6, fun H9 v9 w9 s9 d9 h9 => k H9 _ _ (s.trans s9) d9 (h9 _)⟩
  refine ⟨_, rfl, _, _, rfl, rfl, _, rfl, ?_⟩
  refine ite2 (fun _ => ?_) fun c2 => ?_
  · exact ⟨_, rfl, _, rfl, _, rfl, _, dd, p, ws, _, rfl, hp, hd6, fun H9 v9 w9 s9 d9 h9 => k H9 _ _ (s.trans s9) d9 (h9 _)⟩
  refine ⟨_, rfl, rfl, _, rfl, ?_⟩
  refine ite2 (fun _ => ?_) fun c3 => ?_
  · refine ⟨szOk rfl, fun q2 H2 g2 s2 e2 => ?_⟩
    replace hp := hp.mono s2
    replace hd := hd.mono s2
    replace s := s.trans s2
    refine ⟨_, rfl, dd, _, 2, .int a2, rfl, rfl, SqL.of hd.at', h2, _, _, rfl, rfl, (by show (0 : Int) < 4; decide), q2, _, _, rfl, rfl, SqL.of e2, mod_lo _ (by decide), mod_hi _ (by decide), fun v hv => ?_⟩
    obtain ⟨z, rfl, hz⟩ : ∃ z : Str, v = .str z ∧ z ∈ (["read", "note", "write", "give"] : List Str) := by
      obtain ⟨z, hz, rfl⟩ := List.mem_map.mp (show v ∈ (["read", "note", "write", "give"] : List Str).map V.str from hv)
      exact ⟨z, rfl, hz⟩
    refine ⟨_, rfl, dd, _, 0, .int a0, rfl, rfl, SqL.of hd.at', h0, _, rfl, _, p, ws, rfl, hp, fun H3 v3 d3 s3 n3 t3 => ?_⟩
    obtain ⟨pd, rfl, hpd⟩ := t3
    replace hp := hp.mono s3
    replace hd := hd.mono s3
    replace s := s.trans s3
    refine ⟨_, rfl, _, rfl, dd, _, 1, .int a1, rfl, rfl, SqL.of hd.at', h1, _, rfl, p, _, rfl, .inl (SqL.of hp.at'), _, _, rfl, rfl, hp.len.1, p, _, _, rfl, rfl, SqL.of hp.at', mod_lo _ hp.len.1, mod_hi _ hp.len.1, fun v2 hv2 => ?_⟩
    obtain ⟨w, hw, rfl⟩ := List.mem_map.mp hv2
    exact ⟨_, rfl, _, rfl, dd, _, 3, .int a3, rfl, rfl, SqL.of hd.at', h3, _, _, rfl, rfl, (by show (0 : Int) < 2; decide), rfl, szOk rfl, fun q9 H9 g9 s9 e9 => k H9 _ _ (s.trans s9) (.tup e9 (.cons (.str _) (.cons (n3.same s9) (.cons (.str w) (.cons (.str z) (.cons (.bl _) .nil)))))) (.leave _ _ _ _ hpd hw hz)⟩
  have hk : (0 : Int) ≤ b0 % 17 ∧ b0 % 17 < 17 := ⟨mod_lo _ (by decide), mod_hi _ (by decide)⟩
  have c2 : ¬ b0 % 17 < 11 := fun z => c2 (decide_eq_true z)
  have c3 : ¬ b0 % 17 = 11 := fun z => c3 (by rw [decide_eq_true_eq]; exact congrArg V.int z)
  refine ⟨_, rfl, _, _, rfl, rfl, _, rfl, ?_⟩
  refine ite2 (fun c4 => ?_) fun c4 => iteF ?_
  · have c4 : b0 % 17 < 14 := of_decide_eq_true c4
    refine ⟨_, rfl, _, _, rfl, rfl, _, rfl, ?_⟩
    refine ite2 (fun c5 => ?_) fun c5 => ?_
    · have c5 : 1 < num := of_decide_eq_true c5
      refine ⟨szOk rfl, fun q2 H2 g2 s2 e2 => ?_⟩
      replace hp := hp.mono s2
      replace hd := hd.mono s2
      replace s := s.trans s2
      refine ⟨_, rfl, _, _, rfl, rfl, q2, _, _, rfl, rfl, SqL.of e2, (by show 0 ≤ b0 % 17 - 12; omega), (by show b0 % 17 - 12 < 2; omega), fun v hv => ?_⟩
      obtain ⟨kk, rfl, hkk⟩ : ∃ z : Str, v = .str z ∧ (z = "back" ∨ z = "again") := by
        simp only [List.mem_cons, List.not_mem_nil, or_false] at hv
        rcases hv with rfl | rfl
        · exact ⟨_, rfl, .inl rfl⟩
        · exact ⟨_, rfl, .inr rfl⟩
      have lo := mod_lo a0 (m := num - 1) (by omega)
      have hi := mod_hi a0 (m := num - 1) (by omega)
      exact ⟨_, rfl, dd, _, 0, .int a0, rfl, rfl, SqL.of hd.at', h0, _, rfl, _, _, rfl, rfl, _, _, rfl, rfl, (by show 0 < num - 1; omega), _, _, rfl, rfl, szOk rfl, fun q9 H9 g9 s9 e9 => k H9 _ _ (s.trans s9) (.tup e9 (.cons (.str _) (.cons (.int _) .nil))) (.back _ _ hkk (by show 1 ≤ 1 + a0 % (num - 1); omega) (by show 1 + a0 % (num - 1) < num; omega))⟩
    · refine ⟨_, rfl, rfl, _, rfl, ?_⟩
      refine ite2 (fun c6 => ?_) fun c6 => ?_
      · have c6 : b0 % 17 = 14 := V.int.inj (of_decide_eq_true c6)
        refine iteT ?_
        refine ⟨szOk rfl, fun q2 H2 g2 s2 e2 => ?_⟩
        replace hp := hp.mono s2
        replace hd := hd.mono s2
        replace s := s.trans s2
        refine ⟨_, rfl, _, _, rfl, rfl, q2, _, _, rfl, rfl, SqL.of e2, (by show 0 ≤ b0 % 17 - 14; omega), (by show b0 % 17 - 14 < 2; omega), fun v hv => ?_⟩
        obtain ⟨kk, rfl, hkk⟩ : ∃ z : Str, v = .str z ∧ (z = "bring" ∨ z = "drop") := by
          simp only [List.mem_cons, List.not_mem_nil, or_false] at hv
          rcases hv with rfl | rfl
          · exact ⟨_, rfl, .inl rfl⟩
          · exact ⟨_, rfl, .inr rfl⟩
        exact ⟨_, rfl, dd, _, 0, .int a0, rfl, rfl, SqL.of hd.at', h0, _, rfl, fun z hz => ⟨szOk rfl, fun q9 H9 g9 s9 e9 => k H9 _ _ (s.trans s9) (.tup e9 (.cons (.str _) (.cons (.str z) .nil))) (.bring _ _ hkk hz)⟩⟩
      · refine ⟨_, rfl, rfl, _, rfl, ?_⟩
        refine ite2 (fun c7 => ?_) fun c7 => ?_
        · have c7 : b0 % 17 = 15 := V.int.inj (of_decide_eq_true c7)
          refine ⟨szOk rfl, fun q2 H2 g2 s2 e2 => ?_⟩
          replace hp := hp.mono s2
          replace hd := hd.mono s2
          replace s := s.trans s2
          refine ⟨_, rfl, _, _, rfl, rfl, q2, _, _, rfl, rfl, SqL.of e2, (by show 0 ≤ b0 % 17 - 14; omega), (by show b0 % 17 - 14 < 2; omega), fun v hv => ?_⟩
          obtain ⟨kk, rfl, hkk⟩ : ∃ z : Str, v = .str z ∧ (z = "bring" ∨ z = "drop") := by
            simp only [List.mem_cons, List.not_mem_nil, or_false] at hv
            rcases hv with rfl | rfl
            · exact ⟨_, rfl, .inl rfl⟩
            · exact ⟨_, rfl, .inr rfl⟩
          exact ⟨_, rfl, dd, _, 0, .int a0, rfl, rfl, SqL.of hd.at', h0, _, rfl, fun z hz => ⟨szOk rfl, fun q9 H9 g9 s9 e9 => k H9 _ _ (s.trans s9) (.tup e9 (.cons (.str _) (.cons (.str z) .nil))) (.bring _ _ hkk hz)⟩⟩
        · refine ⟨_, rfl, rfl, _, rfl, ?_⟩
          refine ite2 (fun _ => ?_) fun _ => ?_
          · refine ⟨_, rfl, _, rfl, p, _, rfl, .inl (SqL.of hp.at'), _, rfl, dd, _, rfl, SqL.of hd.at', fun q3 H3 g3 s3 e3 => ?_⟩
            have hcut : (cutV (List.map V.int (ns0.drop 1)) none (some ((ws.map V.str).length : Int))).length = ws.length := by
              rw [cut_exact (by have := hd.len; have := hp.few; rw [List.length_map, List.length_map]; omega), List.length_map]
            have h6 := hp.few
            refine ⟨q3, rfl, ⟨_, SqL.of e3⟩, lc_any (Nat.le_of_lt (small1000 (by omega))) (fun j ys H' => Same H3 H' ∧ ∃ cs : List Int, ys = cs.map V.int ∧ cs.length = j ∧ ∀ c ∈ cs, 0 ≤ c ∧ c ≤ 1000000) ⟨Same.refl _, [], rfl, rfl, fun _ z => nomatch z⟩ (fun _ _ H' s' => SqL.of (s'.1 _ _ e3)) (fun j x ys H' K1 K0 hx s' k1 k0 => ?_) fun H' q ys s' hy hq => ?_⟩
            · obtain ⟨m, rfl⟩ := cut_int (List.mem_of_getElem? hx)
              obtain ⟨s', cs, rfl, hcl, hcs⟩ := s'
              refine iteT (B := K0 H') ?_
              refine ⟨_, rfl, _, _, rfl, rfl, ⟨by decide, by decide, by decide⟩, _, _, rfl, rfl, szOk rfl, fun q4 H4 g4 s4 e4 => ?_⟩
              refine ⟨_, rfl, _, _, rfl, rfl, ⟨by decide, by decide⟩, _, _, rfl, rfl, (by show (0 : Int) < 2; decide), q4, _, _, rfl, rfl, SqL.of e4, mod_lo _ (by decide), mod_hi _ (by decide), fun m2 hm2 => ?_⟩
              obtain ⟨n, rfl, hn, hn2⟩ : ∃ n, m2 = V.int n ∧ 0 < n ∧ n ≤ 1000001 := by
                simp only [List.mem_cons, List.not_mem_nil, or_false] at hm2
                rcases hm2 with rfl | rfl
                · exact ⟨9, rfl, by decide, by decide⟩
                · exact ⟨_, rfl, by decide, by decide⟩
              refine ⟨_, _, rfl, rfl, hn, k1 _ H4 ⟨s'.trans s4, cs ++ [m % n], by rw [List.map_append]; rfl, by rw [List.length_append, List.length_singleton, hcl], fun c hc => ?_⟩⟩
              rcases List.mem_append.mp hc with hc | hc
              · exact hcs c hc
              · rw [List.mem_singleton.mp hc]
                exact ⟨mod_lo _ hn, by have := mod_hi m hn; omega⟩
            · obtain ⟨s', cs, rfl, hcl, hcs⟩ := s'
              exact ⟨q, _, rfl, SqL.of upd_same, fun l H5 g5 s5 e5 => ⟨szOk rfl, fun q9 H9 g9 s9 e9 => k H9 _ _ ((s.trans (((s3.trans s').up hq).trans s5)).trans s9) (.tup e9 (.cons (.str _) (.cons (.tup (s9 _ _ e5) (dts_ints _ cs)) .nil))) (.pour cs (by omega) hcs)⟩⟩
          · exact ⟨szOk rfl, fun q9 H9 g9 s9 e9 => k H9 _ _ (s.trans s9) (.tup e9 (.cons (.str _) .nil)) .nothing⟩
  · refine ⟨_, rfl, rfl, _, rfl, ?_⟩
    refine ite2 (fun c6 => ?_) fun c6 => ?_
    · have c6 : b0 % 17 = 14 := V.int.inj (of_decide_eq_true c6)
      refine iteT ?_
      refine ⟨szOk rfl, fun q2 H2 g2 s2 e2 => ?_⟩
      replace hp := hp.mono s2
      replace hd := hd.mono s2
      replace s := s.trans s2
      refine ⟨_, rfl, _, _, rfl, rfl, q2, _, _, rfl, rfl, SqL.of e2, (by show 0 ≤ b0 % 17 - 14; omega), (by show b0 % 17 - 14 < 2; omega), fun v hv => ?_⟩
      obtain ⟨kk, rfl, hkk⟩ : ∃ z : Str, v = .str z ∧ (z = "bring" ∨ z = "drop") := by
        simp only [List.mem_cons, List.not_mem_nil, or_false] at hv
        rcases hv with rfl | rfl
        · exact ⟨_, rfl, .inl rfl⟩
        · exact ⟨_, rfl, .inr rfl⟩
      exact ⟨_, rfl, dd, _, 0, .int a0, rfl, rfl, SqL.of hd.at', h0, _, rfl, fun z hz => ⟨szOk rfl, fun q9 H9 g9 s9 e9 => k H9 _ _ (s.trans s9) (.tup e9 (.cons (.str _) (.cons (.str z) .nil))) (.bring _ _ hkk hz)⟩⟩
    · refine ⟨_, rfl, rfl, _, rfl, ?_⟩
      refine ite2 (fun c7 => ?_) fun c7 => ?_
      · have c7 : b0 % 17 = 15 := V.int.inj (of_decide_eq_true c7)
        refine ⟨szOk rfl, fun q2 H2 g2 s2 e2 => ?_⟩
        replace hp := hp.mono s2
        replace hd := hd.mono s2
        replace s := s.trans s2
        refine ⟨_, rfl, _, _, rfl, rfl, q2, _, _, rfl, rfl, SqL.of e2, (by show 0 ≤ b0 % 17 - 14; omega), (by show b0 % 17 - 14 < 2; omega), fun v hv => ?_⟩
        obtain ⟨kk, rfl, hkk⟩ : ∃ z : Str, v = .str z ∧ (z = "bring" ∨ z = "drop") := by
          simp only [List.mem_cons, List.not_mem_nil, or_false] at hv
          rcases hv with rfl | rfl
          · exact ⟨_, rfl, .inl rfl⟩
          · exact ⟨_, rfl, .inr rfl⟩
        exact ⟨_, rfl, dd, _, 0, .int a0, rfl, rfl, SqL.of hd.at', h0, _, rfl, fun z hz => ⟨szOk rfl, fun q9 H9 g9 s9 e9 => k H9 _ _ (s.trans s9) (.tup e9 (.cons (.str _) (.cons (.str z) .nil))) (.bring _ _ hkk hz)⟩⟩
      · refine ⟨_, rfl, rfl, _, rfl, ?_⟩
        refine ite2 (fun _ => ?_) fun _ => ?_
        · refine ⟨_, rfl, _, rfl, p, _, rfl, .inl (SqL.of hp.at'), _, rfl, dd, _, rfl, SqL.of hd.at', fun q3 H3 g3 s3 e3 => ?_⟩
          have hcut : (cutV (List.map V.int (ns0.drop 1)) none (some ((ws.map V.str).length : Int))).length = ws.length := by
            rw [cut_exact (by have := hd.len; have := hp.few; rw [List.length_map, List.length_map]; omega), List.length_map]
          have h6 := hp.few
          refine ⟨q3, rfl, ⟨_, SqL.of e3⟩, lc_any (Nat.le_of_lt (small1000 (by omega))) (fun j ys H' => Same H3 H' ∧ ∃ cs : List Int, ys = cs.map V.int ∧ cs.length = j ∧ ∀ c ∈ cs, 0 ≤ c ∧ c ≤ 1000000) ⟨Same.refl _, [], rfl, rfl, fun _ z => nomatch z⟩ (fun _ _ H' s' => SqL.of (s'.1 _ _ e3)) (fun j x ys H' K1 K0 hx s' k1 k0 => ?_) fun H' q ys s' hy hq => ?_⟩
          · obtain ⟨m, rfl⟩ := cut_int (List.mem_of_getElem? hx)
            obtain ⟨s', cs, rfl, hcl, hcs⟩ := s'
            refine iteT (B := K0 H') ?_
            refine ⟨_, rfl, _, _, rfl, rfl, ⟨by decide, by decide, by decide⟩, _, _, rfl, rfl, szOk rfl, fun q4 H4 g4 s4 e4 => ?_⟩
            refine ⟨_, rfl, _, _, rfl, rfl, ⟨by decide, by decide⟩, _, _, rfl, rfl, (by show (0 : Int) < 2; decide), q4, _, _, rfl, rfl, SqL.of e4, mod_lo _ (by decide), mod_hi _ (by decide), fun m2 hm2 => ?_⟩
            obtain ⟨n, rfl, hn, hn2⟩ : ∃ n, m2 = V.int n ∧ 0 < n ∧ n ≤ 1000001 := by
              simp only [List.mem_cons, List.not_mem_nil, or_false] at hm2
              rcases hm2 with rfl | rfl
              · exact ⟨9, rfl, by decide, by decide⟩
              · exact ⟨_, rfl, by decide, by decide⟩
            refine ⟨_, _, rfl, rfl, hn, k1 _ H4 ⟨s'.trans s4, cs ++ [m % n], by rw [List.map_append]; rfl, by rw [List.length_append, List.length_singleton, hcl], fun c hc => ?_⟩⟩
            rcases List.mem_append.mp hc with hc | hc
            · exact hcs c hc
            · rw [List.mem_singleton.mp hc]
              exact ⟨mod_lo _ hn, by have := mod_hi m hn; omega⟩
          · obtain ⟨s', cs, rfl, hcl, hcs⟩ := s'
            exact ⟨q, _, rfl, SqL.of upd_same, fun l H5 g5 s5 e5 => ⟨szOk rfl, fun q9 H9 g9 s9 e9 => k H9 _ _ ((s.trans (((s3.trans s').up hq).trans s5)).trans s9) (.tup e9 (.cons (.str _) (.cons (.tup (s9 _ _ e5) (dts_ints _ cs)) .nil))) (.pour cs (by omega) hcs)⟩⟩
        · exact ⟨szOk rfl, fun q9 H9 g9 s9 e9 => k H9 _ _ (s.trans s9) (.tup e9 (.cons (.str _) .nil)) .nothing⟩
theorem ok_f_law_house (T : Txt K mg d tk) (gf_law_branch : FnOk P w K mg base CX0 2 d.f_law_branch d.f_law_branchd ["_law_number", "_law_roll_here"] (sp_f_law_branch K)) (gf_law_draws : FnOk P w K mg base CX0 1 d.f_law_draws d.f_law_drawsd ["_law_cell", "_law_many"] (sp_f_law_draws K)) (gf_law_roll : FnOk P w K mg base CX0 2 d.f_law_roll d.f_law_rolld ["_law_cell"] (sp_f_law_roll K)) (gf_law_what : FnOk P w K mg base CX0 6 d.f_law_what d.f_law_whatd ["_law_draws_here", "_law_roll_here", "_law_number"] (sp_f_law_what K)) : FnOk P w K mg base CX0 7 d.f_law_house d.f_law_housed ["_law_script", "_law_most"] (sp_f_law_house K) := by
  refine T.F_f_law_house.ok sc_f_law_house (fun vs H Q E h => len_f_law_house h) (fun cdv A outer s H vs Q E hr h => ?_)
  have hu : (A.deeper (envOfC "_law_house" (defScope s_f_law_house) s.heap.objs.size d.f_law_house cdv)).units < cLine := hr.units0
  have hu1 : (A.deeper (envOfC "_law_house" (defScope s_f_law_house) s.heap.objs.size d.f_law_house cdv)).units + 1 < cLine := hu_of hr
  refine ⟨_, (@pss_cons _ _ _ _ _ (@ps_set _ _ (2) _ _ _ _ sc_f_law_house.nd rfl (Or.inl rfl) (@pe_op _ _ _ _ _ _ _ _ op_catS (@pv _ 0 _ _ rfl (Or.inl rfl) rfl rfl) (@pe_lstA _ _ _ _ (@pa_cons _ _ _ _ _ (@pe_int _ _ _ _) (@pa_nil _) (by rfl)))) (by rfl) (by first | exact .inl rfl | exact .inr rfl)) (@pss_cons _ _ _ _ _ (@ps_set _ _ (3) _ _ _ _ sc_f_law_house.nd rfl (Or.inl rfl) (@pe_call _ _ _ _ _ _ _ _ _ _ _ _ _ _ _ _ gf_law_roll (hr.mono (by decide)) (by rfl) T.m_f_law_roll T.k_f_law_roll T.d_f_law_roll .nil pass0 (@pa_cons _ _ _ _ _ (@pe_ix _ _ _ _ _ _ _ ix_list (@pv _ 2 _ _ rfl (Or.inl rfl) rfl rfl) (@pe_int _ _ _ _) (fun _ _ => rfl)) (@pa_nil _) (by rfl)) (by decide) (by rfl) (by rfl)) (by rfl) (by first | exact .inl rfl | exact .inr rfl)) (@pss_cons _ _ _ _ _ (@ps_set _ _ (4) _ _ _ _ sc_f_law_house.nd rfl (Or.inr rfl) (@pe_callB _ _ _ _ _ _ _ _ _ call_len_seq (by rfl) T.b_len boot_len (@pa_cons _ _ _ _ _ (@pv _ 3 _ _ rfl (Or.inl rfl) rfl rfl) (@pa_nil _) (by rfl)) (by decide) (by decide) (by rfl) (by rfl)) (by rfl) (by first | exact .inl rfl | exact .inr rfl)) (@pss_cons _ _ _ _ _ (@ps_set _ _ (5) _ _ _ _ sc_f_law_house.nd rfl (Or.inr rfl) (@pe_lcomp _ _ _ _ _ _ _ (["_law_hand"]) ([("_law_many", 4)]) _ _ _ _ _ rfl (@pi_list _ _ _ _ (@pv _ 3 _ _ rfl (Or.inl rfl) rfl rfl)) ⟨rfl, by decide +kernel, by decide +kernel⟩ (caps_def (defScope s_f_law_house) ["_law_script", "_law_most", "_law_cells", "_law_roll_here", "_law_many", "_law_known", "_law_table", "_law_deeds", "_law_k", "_law_cell", "_law_draws_here", "_law_who", "_law_turn", "_law_other", "_law_to", "_law_theirs", "_law_number", "_law_heard", "_law_what_here"] rfl rfl (fun _ h => cell_has h) (by decide +kernel) (by decide +kernel) (by decide +kernel)) (fun _ _ _ => (@pg_name _ _ (0) _ (by show List.Nodup (["_law_hand", "_law_many"] : List Str); decide +kernel) rfl (Or.inl rfl) (by first | exact .inl rfl | exact .inr rfl))) (fun _ => fresh_name rfl) (fun _ _ _ => (@pts_nil _)) (fun _ _ _ => (@pe_op _ _ _ _ _ _ _ _ op_repA (@pe_lstA _ _ _ _ (@pa_cons _ _ _ _ _ (@pe_int _ _ _ _) (@pa_nil _) (by rfl))) (@pv _ 1 _ _ rfl (Or.inr (Or.inl rfl)) rfl rfl))) (by intro _; rfl)) (by rfl) (by first | exact .inl rfl | exact .inr rfl)) (@pss_cons _ _ _ _ _ (@ps_set _ _ (6) _ _ _ _ sc_f_law_house.nd rfl (Or.inl rfl) (@pe_dctTA _ _) (by rfl) (by first | exact .inl rfl | exact .inr rfl)) (@pss_cons _ _ _ _ _ (@ps_set _ _ (7) _ _ _ _ sc_f_law_house.nd rfl (Or.inl rfl) (@pe_lstA _ _ _ _ (@pa_nil _)) (by rfl) (by first | exact .inl rfl | exact .inr rfl)) (@pss_cons _ _ _ _ _ (@ps_for _ _ _ _ _ _ _ _ PassesOwn.never rfl (@pi_enum _ _ _ _ _ _ _ _ (by rfl) T.b_enumerate (@pa_cons _ _ _ _ _ (@pe_slice _ _ _ _ _ _ _ _ _ _ sl_listA (@pv _ 0 _ _ rfl (Or.inl rfl) rfl rfl) (@po_some _ _ _ (@pe_int _ _ _ _)) (@po_some _ _ _ (@pv _ 1 _ _ rfl (Or.inl rfl) rfl rfl))) (@pa_nil _) (by rfl)) (by rfl)) (@pg_tup _ _ _ _ _ _ rfl (@pgs_cons _ _ _ _ _ (@pg_name _ _ (8) _ sc_f_law_house.nd rfl (Or.inl rfl) (by first | exact .inl rfl | exact .inr rfl)) (@pgs_cons _ _ _ _ _ (@pg_name _ _ (9) _ sc_f_law_house.nd rfl (Or.inl rfl) (by first | exact .inl rfl | exact .inr rfl)) (@pgs_nil _) (by rfl)) (by rfl)) (by rfl) (by rfl)) (@pss_cons _ _ _ _ _ (@ps_set _ _ (10) _ _ _ _ sc_f_law_house.nd rfl (Or.inl rfl) (@pe_call _ _ _ _ _ _ _ _ _ _ _ _ _ _ _ _ gf_law_draws (hr.mono (by decide)) (by rfl) T.m_f_law_draws T.k_f_law_draws T.d_f_law_draws .nil pass0 (@pa_cons _ _ _ _ _ (@pe_op _ _ _ _ _ _ _ _ op_add (@pv _ 9 _ _ rfl (Or.inl rfl) rfl rfl) (@pe_op _ _ _ _ _ _ _ _ op_mul (@pe_op _ _ _ _ _ _ _ _ op_mul (@pe_op _ _ _ _ _ _ _ _ op_mul (@pe_int _ _ _ _) (@pe_int _ _ _ _)) (@pv _ 8 _ _ rfl (Or.inl rfl) rfl rfl)) (@pv _ 8 _ _ rfl (Or.inl rfl) rfl rfl))) (@pa_cons _ _ _ _ _ (@pe_int _ _ _ _) (@pa_nil _) (by rfl)) (by rfl)) (by decide) (by rfl) (by rfl)) (by rfl) (by first | exact .inl rfl | exact .inr rfl)) (@pss_cons _ _ _ _ _ (@ps_set _ _ (11) _ _ _ _ sc_f_law_house.nd rfl (Or.inr rfl) (@pe_op _ _ _ _ _ _ _ _ op_mod (@pe_ix _ _ _ _ _ _ _ ix_list (@pv _ 10 _ _ rfl (Or.inl rfl) rfl rfl) (@pe_int _ _ _ _) (fun _ _ => rfl)) (@pv _ 4 _ _ rfl (Or.inr (Or.inl rfl)) rfl rfl)) (by rfl) (by first | exact .inl rfl | exact .inr rfl)) (@pss_cons _ _ _ _ _ (@ps_for _ _ _ _ _ _ _ _ PassesOwn.never rfl (@pi_range1 _ _ _ _ _ _ (by rfl) T.b_range (@pa_cons _ _ _ _ _ (@pe_op _ _ _ _ _ _ _ _ op_mod (@pe_op _ _ _ _ _ _ _ _ op_fdiv (@pe_ix _ _ _ _ _ _ _ ix_list (@pv _ 10 _ _ rfl (Or.inl rfl) rfl rfl) (@pe_int _ _ _ _) (fun _ _ => rfl)) (@pv _ 4 _ _ rfl (Or.inr (Or.inl rfl)) rfl rfl)) (@pe_int _ _ _ _)) (@pa_nil _) (by rfl)) (by rfl)) (@pg_name _ _ (12) _ sc_f_law_house.nd rfl (Or.inl rfl) (by first | exact .inl rfl | exact .inr rfl)) (@pss_cons _ _ _ _ _ (@ps_set _ _ (13) _ _ _ _ sc_f_law_house.nd rfl (Or.inl rfl) (@pe_op _ _ _ _ _ _ _ _ op_mod (@pe_ix _ _ _ _ _ _ _ ix_any (@pv _ 10 _ _ rfl (Or.inl rfl) rfl rfl) (@pe_op _ _ _ _ _ _ _ _ op_add (@pe_int _ _ _ _) (@pv _ 12 _ _ rfl (Or.inl rfl) rfl rfl)) (fun _ _ => rfl)) (@pv _ 4 _ _ rfl (Or.inr (Or.inl rfl)) rfl rfl)) (by rfl) (by first | exact .inl rfl | exact .inr rfl)) (@pss_cons _ _ _ _ _ (@ps_set _ _ (14) _ _ _ _ sc_f_law_house.nd rfl (Or.inl rfl) (@pe_op _ _ _ _ _ _ _ _ op_mod (@pe_op _ _ _ _ _ _ _ _ op_fdiv (@pe_ix _ _ _ _ _ _ _ ix_any (@pv _ 10 _ _ rfl (Or.inl rfl) rfl rfl) (@pe_op _ _ _ _ _ _ _ _ op_add (@pe_int _ _ _ _) (@pv _ 12 _ _ rfl (Or.inl rfl) rfl rfl)) (fun _ _ => rfl)) (@pv _ 4 _ _ rfl (Or.inr (Or.inl rfl)) rfl rfl)) (@pe_op _ _ _ _ _ _ _ _ op_add (@pe_ix _ _ _ _ _ _ _ ix_list (@pe_ix _ _ _ _ _ _ _ ix_list (@pv _ 5 _ _ rfl (Or.inr (Or.inl rfl)) rfl rfl) (@pv _ 13 _ _ rfl (Or.inl rfl) rfl rfl) (fun _ _ => rfl)) (@pv _ 13 _ _ rfl (Or.inl rfl) rfl rfl) (fun _ _ => rfl)) (@pe_int _ _ _ _))) (by rfl) (by first | exact .inl rfl | exact .inr rfl)) (@pss_one _ _ _ (@ps_if _ _ _ _ _ _ _ _ (@pt_cmpR _ _ _ _ _ _ _ _ op_gt (@pv _ 14 _ _ rfl (Or.inl rfl) rfl rfl) (@pe_ix _ _ _ _ _ _ _ ix_list (@pe_ix _ _ _ _ _ _ _ ix_list (@pv _ 5 _ _ rfl (Or.inr (Or.inl rfl)) rfl rfl) (@pv _ 11 _ _ rfl (Or.inr (Or.inl rfl)) rfl rfl) (fun _ _ => rfl)) (@pv _ 13 _ _ rfl (Or.inl rfl) rfl rfl) (fun _ _ => rfl)) (nomark _)) (@pss_cons _ _ _ _ _ (@ps_set _ _ (15) _ _ _ _ sc_f_law_house.nd rfl (Or.inr rfl) (@pe_dget _ _ _ _ _ _ hu1 (@pv _ 6 _ _ rfl (Or.inl rfl) rfl rfl) (@pe_tupA _ _ _ _ _ (@pa_cons _ _ _ _ _ (@pv _ 13 _ _ rfl (Or.inl rfl) rfl rfl) (@pa_cons _ _ _ _ _ (@pv _ 14 _ _ rfl (Or.inl rfl) rfl rfl) (@pa_nil _) (by rfl)) (by rfl))) (fun _ _ => rfl)) (by rfl) (by first | exact .inl rfl | exact .inr rfl)) (@pss_cons _ _ _ _ _ (@ps_asg _ _ _ _ _ _ (@pe_lcomp _ _ _ _ _ _ _ (["_law_at"]) ([("_law_theirs", 15), ("_law_known", 5), ("_law_who", 11)]) _ _ _ _ _ rfl (@pi_range1 _ _ _ _ _ _ (by rfl) T.b_range (@pa_cons _ _ _ _ _ (@pv _ 4 _ _ rfl (Or.inr (Or.inl rfl)) rfl rfl) (@pa_nil _) (by rfl)) (by rfl)) ⟨rfl, by decide +kernel, by decide +kernel⟩ (caps_def (defScope s_f_law_house) ["_law_script", "_law_most", "_law_cells", "_law_roll_here", "_law_many", "_law_known", "_law_table", "_law_deeds", "_law_k", "_law_cell", "_law_draws_here", "_law_who", "_law_turn", "_law_other", "_law_to", "_law_theirs", "_law_number", "_law_heard", "_law_what_here"] rfl rfl (fun _ h => cell_has h) (by decide +kernel) (by decide +kernel) (by decide +kernel)) (fun _ _ _ => (@pg_name _ _ (0) _ (by show List.Nodup (["_law_at", "_law_theirs", "_law_known", "_law_who"] : List Str); decide +kernel) rfl (Or.inl rfl) (by first | exact .inl rfl | exact .inr rfl))) (fun _ => fresh_name rfl) (fun _ _ _ => (@pts_nil _)) (fun _ _ _ => (@pe_callB _ _ _ _ _ _ _ _ _ (call_max2 rfl) (by rfl) T.b_max boot_max (@pa_cons _ _ _ _ _ (@pe_ix _ _ _ _ _ _ _ (ix_listK (K := K) rfl) (@pe_ix _ _ _ _ _ _ _ (ix_listK (K := K) rfl) (@pv _ 2 _ _ rfl (Or.inr (Or.inl rfl)) rfl rfl) (@pv _ 3 _ _ rfl (Or.inr (Or.inl rfl)) rfl rfl) (fun _ _ => rfl)) (@pv _ 0 _ _ rfl (Or.inl rfl) rfl rfl) (fun _ _ => rfl)) (@pa_cons _ _ _ _ _ (@pe_ix _ _ _ _ _ _ _ (ix_listK (K := K) rfl) (@pv _ 1 _ _ rfl (Or.inr (Or.inl rfl)) rfl rfl) (@pv _ 0 _ _ rfl (Or.inl rfl) rfl rfl) (fun _ _ => rfl)) (@pa_nil _) (by rfl)) (by rfl)) (by decide) (by decide) (by rfl) (by rfl))) (by intro _; rfl)) (@pg_sub _ _ _ _ _ _ _ (@pv _ 5 _ _ rfl (Or.inr (Or.inl rfl)) rfl rfl) (@pv _ 11 _ _ rfl (Or.inr (Or.inl rfl)) rfl rfl) set_list (by intro _; rfl)) (by rfl) (by rfl) (by rfl)) (@pss_one _ _ _ (@ps_asg _ _ _ _ _ _ (@pe_callB _ _ _ _ _ _ _ _ _ (call_max2 rfl) (by rfl) T.b_max boot_max (@pa_cons _ _ _ _ _ (@pe_ix _ _ _ _ _ _ _ ix_list (@pe_ix _ _ _ _ _ _ _ ix_list (@pv _ 5 _ _ rfl (Or.inr (Or.inl rfl)) rfl rfl) (@pv _ 11 _ _ rfl (Or.inr (Or.inl rfl)) rfl rfl) (fun _ _ => rfl)) (@pv _ 13 _ _ rfl (Or.inl rfl) rfl rfl) (fun _ _ => rfl)) (@pa_cons _ _ _ _ _ (@pv _ 14 _ _ rfl (Or.inl rfl) rfl rfl) (@pa_nil _) (by rfl)) (by rfl)) (by decide) (by decide) (by rfl) (by rfl)) (@pg_sub _ _ _ _ _ _ _ (@pe_ix _ _ _ _ _ _ _ ix_list (@pv _ 5 _ _ rfl (Or.inr (Or.inl rfl)) rfl rfl) (@pv _ 11 _ _ rfl (Or.inr (Or.inl rfl)) rfl rfl) (fun _ _ => rfl)) (@pv _ 13 _ _ rfl (Or.inl rfl) rfl rfl) set_list (by intro _; rfl)) (by rfl) (by rfl) (by rfl))))) (@pss_nil _))))) (by intro _; rfl)) (@pss_cons _ _ _ _ _ (@ps_set _ _ (16) _ _ _ _ sc_f_law_house.nd rfl (Or.inl rfl) (@pe_op _ _ _ _ _ _ _ _ op_add (@pe_ix _ _ _ _ _ _ _ ix_list (@pe_ix _ _ _ _ _ _ _ ix_list (@pv _ 5 _ _ rfl (Or.inr (Or.inl rfl)) rfl rfl) (@pv _ 11 _ _ rfl (Or.inr (Or.inl rfl)) rfl rfl) (fun _ _ => rfl)) (@pv _ 11 _ _ rfl (Or.inr (Or.inl rfl)) rfl rfl) (fun _ _ => rfl)) (@pe_int _ _ _ _)) (by rfl) (by first | exact .inl rfl | exact .inr rfl)) (@pss_cons _ _ _ _ _ (@ps_set _ _ (17) _ _ _ _ sc_f_law_house.nd rfl (Or.inl rfl) (@pe_callTy _ _ _ _ _ _ _ _ _ call_tupA (by rfl) T.b_tuple boot_tuple (@pa_cons _ _ _ _ _ (@pe_ix _ _ _ _ _ _ _ ix_list (@pv _ 5 _ _ rfl (Or.inr (Or.inl rfl)) rfl rfl) (@pv _ 11 _ _ rfl (Or.inr (Or.inl rfl)) rfl rfl) (fun _ _ => rfl)) (@pa_nil _) (by rfl)) (by decide) (by decide) (by rfl) (by rfl)) (by rfl) (by first | exact .inl rfl | exact .inr rfl)) (@pss_cons _ _ _ _ _ (@ps_dput _ _ _ _ _ _ _ _ _ hu1 (@pv _ 6 _ _ rfl (Or.inl rfl) rfl rfl) (@pe_tupA _ _ _ _ _ (@pa_cons _ _ _ _ _ (@pv _ 11 _ _ rfl (Or.inr (Or.inl rfl)) rfl rfl) (@pa_cons _ _ _ _ _ (@pv _ 16 _ _ rfl (Or.inl rfl) rfl rfl) (@pa_nil _) (by rfl)) (by rfl))) (@pe_callTy _ _ _ _ _ _ _ _ _ call_lstA (by rfl) T.b_list boot_list (@pa_cons _ _ _ _ _ (@pv _ 17 _ _ rfl (Or.inl rfl) rfl rfl) (@pa_nil _) (by rfl)) (by decide) (by decide) (by rfl) (by rfl)) rfl) (@pss_cons _ _ _ _ _ (@ps_asg _ _ _ _ _ _ (@pv _ 16 _ _ rfl (Or.inl rfl) rfl rfl) (@pg_sub _ _ _ _ _ _ _ (@pe_ix _ _ _ _ _ _ _ ix_list (@pv _ 5 _ _ rfl (Or.inr (Or.inl rfl)) rfl rfl) (@pv _ 11 _ _ rfl (Or.inr (Or.inl rfl)) rfl rfl) (fun _ _ => rfl)) (@pv _ 11 _ _ rfl (Or.inr (Or.inl rfl)) rfl rfl) set_list (by intro _; rfl)) (by rfl) (by rfl) (by rfl)) (@pss_cons _ _ _ _ _ (@ps_set _ _ (18) _ _ _ _ sc_f_law_house.nd rfl (Or.inl rfl) (@pe_call _ _ _ _ _ _ _ _ _ _ _ _ _ _ _ _ gf_law_what (hr.mono (by decide)) (by rfl) T.m_f_law_what T.k_f_law_what T.d_f_law_what .nil pass0 (@pa_cons _ _ _ _ _ (@pe_slice _ _ _ _ _ _ _ _ _ _ sl_listA (@pv _ 10 _ _ rfl (Or.inl rfl) rfl rfl) (@po_some _ _ _ (@pe_int _ _ _ _)) (@po_none _)) (@pa_cons _ _ _ _ _ (@pv _ 3 _ _ rfl (Or.inl rfl) rfl rfl) (@pa_cons _ _ _ _ _ (@pv _ 16 _ _ rfl (Or.inl rfl) rfl rfl) (@pa_nil _) (by rfl)) (by rfl)) (by rfl)) (by decide) (by rfl) (by rfl)) (by rfl) (by first | exact .inl rfl | exact .inr rfl)) (@pss_one _ _ _ (@ps_expr _ _ _ _ (@pe_bm _ _ _ _ _ _ _ _ _ _ _ _ PySem.F.plainAttrs_list PySem.F.slot_list_append PySem.F.type_list_append mt_append (@pv _ 7 _ _ rfl (Or.inl rfl) rfl rfl) (@pa_cons _ _ _ _ _ (@pe_tupA _ _ _ _ _ (@pa_cons _ _ _ _ _ (@pe_ix _ _ _ _ _ _ _ ix_list (@pv _ 3 _ _ rfl (Or.inl rfl) rfl rfl) (@pv _ 11 _ _ rfl (Or.inr (Or.inl rfl)) rfl rfl) (fun _ _ => rfl)) (@pa_cons _ _ _ _ _ (@pv _ 16 _ _ rfl (Or.inl rfl) rfl rfl) (@pa_cons _ _ _ _ _ (@pv _ 17 _ _ rfl (Or.inl rfl) rfl rfl) (@pa_cons _ _ _ _ _ (@pe_call _ _ _ _ _ _ _ _ _ _ _ _ _ _ _ _ gf_law_branch (hr.mono (by decide)) (by rfl) T.m_f_law_branch T.k_f_law_branch T.d_f_law_branch .nil pass0 (@pa_cons _ _ _ _ _ (@pe_ix _ _ _ _ _ _ _ ix_list (@pv _ 10 _ _ rfl (Or.inl rfl) rfl rfl) (@pe_int _ _ _ _) (fun _ _ => rfl)) (@pa_cons _ _ _ _ _ (@pv _ 3 _ _ rfl (Or.inl rfl) rfl rfl) (@pa_nil _) (by rfl)) (by rfl)) (by decide) (by rfl) (by rfl)) (@pa_cons _ _ _ _ _ (@pv _ 18 _ _ rfl (Or.inl rfl) rfl rfl) (@pa_nil _) (by rfl)) (by rfl)) (by rfl)) (by rfl)) (by rfl))) (@pa_nil _) (by rfl)) (by rfl) (by rfl) (by rfl) (by rfl) (by rfl)) (by rfl))))))))))) (by intro _; rfl)) (@pss_one _ _ _ (@ps_ret _ _ _ _ (@pe_tupA _ _ _ _ _ (@pa_cons _ _ _ _ _ (@pv _ 3 _ _ rfl (Or.inl rfl) rfl rfl) (@pa_cons _ _ _ _ _ (@pv _ 7 _ _ rfl (Or.inl rfl) rfl rfl) (@pa_nil _) (by rfl)) (by rfl)))))))))))), ?_⟩
  obtain ⟨sp, ns, most, rfl, hs, hl, k⟩ := h
  refine ⟨_, rfl, szOk rfl, fun p1 H1 g1 s1 e1 => ?_⟩
  refine ⟨sp, p1, _, _, rfl, rfl, hs.same s1, e1, by rw [List.length_map]; exact Nat.le_of_lt (small1000 (by show ns.length + 1 ≤ 1000; omega)), fun p2 H2 g2 s2 e2 => ?_⟩
  obtain ⟨i0, h0⟩ : ∃ i0, atI (List.map V.int ns ++ [V.int 0]) (0 : Int) = some (.int i0) := by
    cases ns with
    | nil => exact ⟨0, rfl⟩
    | cons n ns => exact ⟨n, atI_nat (j := 0) rfl⟩
  refine ⟨_, rfl, p2, _, _, _, rfl, rfl, SqL.of e2, h0, _, rfl, fun H3 rp ws s3 g3 rl h2 nd => ?_⟩
  refine ⟨_, rfl, rp, _, rfl, .inl (SqL.of rl.at'), ?_⟩
  generalize hM : (ws.map V.str).length = M
  have hM' : ws.length = M := by rw [← hM, List.length_map]
  have hM0 : 0 < M ∧ M ≤ 6 := ⟨by have := rl.pos; omega, by have := rl.few; omega⟩
  refine ⟨_, rfl, rp, rfl, ⟨_, SqL.of rl.at'⟩, lc_any (xs := ws.map V.str) (Nat.le_of_lt (small1000 (by omega)))
    (fun i ys H' => Same H3 H' ∧ ∃ ks : List Addr, ys = ks.map V.ref ∧ ks.length = i ∧ ks.Nodup ∧ ∀ kk ∈ ks, H3 kk = none ∧ H' kk = some (.lst (Hs.rowV (List.replicate M 0))))
    ⟨Same.refl _, [], rfl, rfl, List.nodup_nil, fun _ z => nomatch z⟩ (fun _ _ H' s' => SqL.of (s'.1 _ _ rl.at')) (fun j x ys H' K1 K0 hx s' k1 k0 => ?_) fun H' kp ys s' hy hq => ?_⟩
  · obtain ⟨s', ks, rfl, hk, nd', hks⟩ := s'
    refine iteT (B := K0 H') ?_
    refine ⟨szOk rfl, fun q1 H4 g4 s4 e4 => ?_⟩
    refine ⟨_, rfl, q1, _, _, rfl, rfl, e4, by omega, by omega, (by show 1 * (M : Int).toNat ≤ sizeLine; rw [Nat.one_mul, Int.toNat_natCast]; exact Nat.le_of_lt (small1000 (by omega))), fun q2 H5 g5 s5 e5 => ?_⟩
    rw [Hs.flat_zero] at e5
    refine k1 _ _ ⟨(s'.trans s4).trans s5, ks ++ [q2], by rw [List.map_append]; rfl, by rw [List.length_append, List.length_singleton, hk], ?_, fun kk hkk => ?_⟩
    · refine nd_snoc nd' fun z => ?_
      have := s4 _ _ (hks q2 z).2
      rw [g5] at this
      cases this
    · rcases List.mem_append.mp hkk with z | z
      · exact ⟨(hks kk z).1, s5 _ _ (s4 _ _ (hks kk z).2)⟩
      · rw [List.mem_singleton.mp z]
        exact ⟨(s'.trans s4).free g5, e5⟩
  · obtain ⟨s', ks, rfl, hk, nd', hks⟩ := s'
    rw [hM] at hk
    refine fun tp H4 g4 s4 e4 => ?_
    refine ⟨szOk rfl, fun dp H5 g5 s5 e5 => ?_⟩
    have gk : ∀ {a o}, H' a = some o → (upd H' kp (.lst (ks.map V.ref))) a = some o := fun {a o} e => Same.new hq a o e
    have st : Hs.HSt H3 H5 kp tp dp ws (List.replicate M (List.replicate M 0)) [] [] ks [] [] := by
      have kd : kp ≠ dp := ne_of_none (s4 _ _ upd_same) g5
      refine ⟨((s'.up hq).trans s4).trans s5, s5 _ _ (s4 _ _ upd_same), by rw [hk, List.length_replicate], fun i kk e => ?_, nd', fun z => ?_, kd, fun z => ?_, s'.free hq, (s'.up hq).free g4, ((s'.up hq).trans s4).free g5, fun kk z => (hks kk z).1, s5 _ _ e4, (fun d z => nomatch z), Nat.le_refl _, e5, ⟨rfl, fun i d z => by cases z⟩⟩
      · have hi := (List.getElem?_eq_some_iff.mp e).1
        rw [Hs.replicate_rows (by omega)]
        exact s5 _ _ (s4 _ _ (gk (hks kk (List.mem_of_getElem? e)).2))
      · have := (hks kp z).2
        rw [hq] at this
        cases this
      · have := s4 _ _ (gk (hks dp z).2)
        rw [g5] at this
        cases this
    refine ⟨_, rfl, _, rfl, _, rfl, _, rfl, sp, _, rfl, ((hs.same s1).same s2).same (s3.trans st.same), fun q6 H6 g6 s6 e6 => ?_⟩
    have st6 := st.guard g6 s6 e6
    have hcut : (cutV (List.map V.int ns) (some 1) (some most)).length ≤ 63 := Nat.le_trans (cutV_length _ _ _) (by rw [List.length_map]; exact hl)
    have hstart := Hs.Kn.start M
    refine ⟨q6, rfl, ⟨_, SqL.of e6⟩, for_enum (xs := cutV (List.map V.int ns) (some 1) (some most)) (fun i σ H7 => ∃ (kn : List (List Nat)) (ds : List Hs.Dd) (ks : List Addr) (kvs : List (List Key × V)) (des : List V) (v8 v9 v10 v11 v12 v13 v14 v15 v16 v17 v18 : Option V),
        σ = [some (.ref sp), some (.int most), some (.ref p2), some (.ref rp), some (.int M), some (.ref kp), some (.ref tp), some (.ref dp), v8, v9, v10, v11, v12, v13, v14, v15, v16, v17, v18] ∧
        Hs.HSt (upd H3 q6 (.lst (cutV (List.map V.int ns) (some 1) (some most)))) H7 kp tp dp ws kn ds ds ks kvs des ∧ Hs.Kn M ds kn ∧ Hs.Wh M ds ∧ ds.length ≤ i ∧ ∀ d ∈ ds, BrD ws d.br ∧ WhatD ws d.num d.wt)
      ⟨_, [], ks, [], [], none, none, none, none, none, none, none, none, none, none, none, rfl, st6, hstart.1, hstart.2, Nat.le_refl _, fun _ z => nomatch z⟩ ?_ ?_ ?_⟩
    · rintro i σ H7 _ ⟨kn, ds, ks, kvs, des, v8, v9, v10, v11, v12, v13, v14, v15, v16, v17, v18, rfl, h7, _⟩
      exact SqL.of (h7.same _ _ upd_same)
    · rintro i x σ H7 pe hx ⟨kn, ds, ks, kvs, des, v8, v9, v10, v11, v12, v13, v14, v15, v16, v17, v18, rfl, h7, K7, W7, hlen, hbw⟩ hpe
      obtain ⟨c, rfl⟩ := cut_int (List.mem_of_getElem? hx)
      have hi : i < 63 := Nat.lt_of_lt_of_le (List.getElem?_eq_some_iff.mp hx).1 hcut
      refine ⟨pe, _, rfl, SqT.of upd_same, rfl, ?_⟩
      have h7 := h7.mono (Same.new (o := .tup [.int i, .int c]) hpe)
      refine ⟨_, _, rfl, _, _, rfl, rfl, ?_⟩
      refine ⟨_, rfl, _, _, rfl, rfl, .inl ⟨by decide, by decide⟩, _, rfl, _, _, rfl, rfl, .inl ⟨by decide, by decide⟩, _, rfl, _, _, rfl, rfl, .inr ⟨by omega, by omega⟩, _, _, rfl, rfl, _, 22, rfl, by decide, fun H8 p1 ms s8 g8 d8 hl8 => ?_⟩
      have h8 := h7.guard g8 s8 d8.at'
      obtain ⟨a0, h0⟩ := d8.get 0 (by decide)
      refine ⟨_, rfl, p1, _, 0, .int a0, rfl, rfl, SqL.of d8.at', h0, _, rfl, _, _, rfl, rfl, (by omega : (0 : Int) < M), ?_⟩
      obtain ⟨w, hw⟩ := Int.eq_ofNat_of_zero_le (mod_lo a0 (by omega : (0 : Int) < M))
      have hwM : w < M := by have := mod_hi a0 (by omega : (0 : Int) < M); omega
      show gName 11 (V.int (a0 % (M : Int))) _ _ _
      rw [hw]
      have hr3 : 0 ≤ a0 / (M : Int) % 3 ∧ a0 / (M : Int) % 3 < 3 := ⟨mod_lo _ (by decide), mod_hi _ (by decide)⟩
      refine ⟨_, rfl, p1, _, 0, .int a0, rfl, rfl, SqL.of d8.at', h0, _, rfl, _, _, rfl, rfl, ⟨by omega, by omega⟩, _, _, rfl, rfl, (by show (0 : Int) < 3; decide), _, rfl, by omega, by omega, for_range (n := (a0 / (M : Int) % 3).toNat)
        (fun j σ H9 => ∃ (kn : List (List Nat)) (ks : List Addr) (v12 v13 v14 v15 : Option V),
          σ = [some (.ref sp), some (.int most), some (.ref p2), some (.ref rp), some (.int M), some (.ref kp), some (.ref tp), some (.ref dp), some (.int i), some (.int c), some (.ref p1), some (.int w), v12, v13, v14, v15, v16, v17, v18] ∧
          Hs.HSt (upd (upd H3 q6 (.lst (cutV (List.map V.int ns) (some 1) (some most)))) p1 (.lst (List.map V.int ms))) H9 kp tp dp ws kn ds ds ks kvs des ∧ Hs.Kn M ds kn)
        ⟨kn, ks, v12, v13, v14, v15, rfl, h8, K7⟩ ?_ ?_⟩
      · rintro j σ H9 hj ⟨kn, ks, v12, v13, v14, v15, rfl, h9, K9⟩
        have hj3 : j < 3 := by omega
        have d9 : DR H9 p1 ms 22 := ⟨h9.same _ _ upd_same, d8.len, d8.few⟩
        have hpos : (0 : Int) ≤ 1 + (0 + (j : Int)) ∧ 1 + (0 + (j : Int)) < ((List.map V.int ms).length : Int) := by rw [List.length_map]; omega
        refine ⟨_, rfl, _, rfl, _, _, rfl, rfl, p1, _, _, rfl, rfl, SqL.of d9.at', hpos.1, hpos.2, fun v hv => ?_⟩
        obtain ⟨b1, _, rfl⟩ := List.mem_map.mp hv
        refine ⟨_, rfl, _, _, rfl, rfl, (by omega : (0 : Int) < M), ?_⟩
        obtain ⟨o, ho⟩ := Int.eq_ofNat_of_zero_le (mod_lo b1 (by omega : (0 : Int) < M))
        have hoM : o < M := by have := mod_hi b1 (by omega : (0 : Int) < M); omega
        show gName 13 (V.int (b1 % (M : Int))) _ _ _
        rw [ho]
        obtain ⟨ko, hko, eko, ako⟩ := h9.rowAt (i := o) (by rw [K9.len]; exact hoM)
        obtain ⟨kw, hkw, ekw, akw⟩ := h9.rowAt (i := w) (by rw [K9.len]; exact hwM)
        have lo : (Hs.rowOf kn o).length = M := K9.row o hoM
        have lw : (Hs.rowOf kn w).length = M := K9.row w hwM
        refine ⟨_, rfl, _, rfl, _, _, rfl, rfl, p1, _, _, rfl, rfl, SqL.of d9.at', hpos.1, hpos.2, fun v hv => ?_⟩
        obtain ⟨b2, _, rfl⟩ := List.mem_map.mp hv
        refine ⟨_, rfl, _, _, rfl, rfl, ⟨by omega, by omega⟩, _, rfl, _, rfl, kp, _, _, _, rfl, rfl, SqL.of h9.kat, ako, _, rfl, ko, _, _, _, rfl, rfl, SqL.of eko, Hs.atI_row (by omega), _, _, rfl, rfl, _, _, rfl, rfl, (by omega), ?_⟩
        have hto := mod_lo (b2 / (M : Int)) (m := ((Hs.at0 (Hs.rowOf kn o) o : Nat) : Int) + 1) (by omega)
        have hto2 := mod_hi (b2 / (M : Int)) (m := ((Hs.at0 (Hs.rowOf kn o) o : Nat) : Int) + 1) (by omega)
        obtain ⟨t, ht⟩ := Int.eq_ofNat_of_zero_le hto
        rw [ht] at hto2
        show gName 14 (V.int (b2 / (M : Int) % (((Hs.at0 (Hs.rowOf kn o) o : Nat) : Int) + 1))) _ _ _
        rw [ht]
        refine ⟨_, rfl, _, rfl, _, rfl, kp, _, _, _, rfl, rfl, SqL.of h9.kat, akw, _, rfl, kw, _, _, _, rfl, rfl, SqL.of ekw, Hs.atI_row (by omega), _, _, rfl, rfl, _, rfl, ?_⟩
        refine ite2 (fun hgt => ?_) fun _ => ?_
        · have hgt : Hs.at0 (Hs.rowOf kn w) o < t := by
            have := of_decide_eq_true hgt
            omega
          obtain ⟨e, he, ew, en⟩ := K9.has (j := o) (k := t) hoM (by omega) (by omega)
          subst ew en
          obtain ⟨qe, ve, ee, _⟩ := h9.tab e he
          refine ⟨_, rfl, _, rfl, _, rfl, szOk rfl, fun pt Ht gt st' et => ?_⟩
          have hT := h9.mono st'
          refine ⟨tp, .ref qe, rfl, ve ▸ DGet.t (k := Hs.keyD e) hT.tat et, ?_⟩
          have le : e.hd.length = M := W7.len e he
          have hn : ((M : Int)).toNat = M := Int.toNat_natCast M
          refine ⟨_, rfl, _, rfl, by omega, by omega, lc_range (n := (M : Int).toNat) (by rw [hn]; exact Nat.le_of_lt (small1000 (by omega)))
            (fun a ys H' => Same Ht H' ∧ ys = Hs.rowV ((List.range a).map fun a => max (Hs.at0 (Hs.rowOf kn w) a) (Hs.at0 e.hd a))) ⟨Same.refl _, rfl⟩ (fun a ys H' K1 K0 ha s' k1 k0 => ?_) fun H' pn ys s' hy hq => ?_⟩
          · obtain ⟨s', rfl⟩ := s'
            rw [hn] at ha
            refine iteT (B := K0 H') ?_
            refine ⟨_, rfl, _, rfl, kp, _, _, _, rfl, rfl, SqL.of (s' _ _ hT.kat), akw, _, rfl, kw, _, _, _, rfl, rfl, SqL.of (s' _ _ (st' _ _ ekw)), Hs.atI_0 (Hs.atI_row (by omega)), _, rfl, _, rfl, qe, _, _, _, rfl, rfl, SqL.of (s' _ _ (st' _ _ ee)), Hs.atI_0 (Hs.atI_row (by omega)), _, _, rfl, ?_⟩
            show K1 (V.int (if ((Hs.at0 e.hd a : Nat) : Int) > ((Hs.at0 (Hs.rowOf kn w) a : Nat) : Int) then ((Hs.at0 e.hd a : Nat) : Int) else ((Hs.at0 (Hs.rowOf kn w) a : Nat) : Int))) H'
            rw [Hs.max_nat]
            refine k1 _ _ ⟨s', ?_⟩
            rw [List.range_succ, List.map_append]
            unfold Hs.rowV
            rw [List.map_append]
            rfl
          · obtain ⟨s', rfl⟩ := s'
            have hT' := hT.mono s'
            have h10 := hT'.swap (i := w) (p := pn) (r := (List.range (M : Int).toNat).map fun a => max (Hs.at0 (Hs.rowOf kn w) a) (Hs.at0 e.hd a)) (by rw [K9.len]; exact hwM) hq
            rw [List.map_set] at h10
            have hwl : w < kn.length := by rw [K9.len]; exact hwM
            obtain ⟨kw2, hkw2, ekw2, akw2⟩ := h10.rowAt (i := w) (by rw [List.length_set]; exact hwl)
            rw [show Hs.rowOf (kn.set w ((List.range (M : Int).toNat).map fun a => max (Hs.at0 (Hs.rowOf kn w) a) (Hs.at0 e.hd a))) w = (List.range (M : Int).toNat).map (fun a => max (Hs.at0 (Hs.rowOf kn w) a) (Hs.at0 e.hd a)) from Hs.getD_set_self hwl] at ekw2
            rw [List.map_set] at akw2
            have kat10 := h10.kat
            rw [List.map_set] at kat10
            refine ⟨_, rfl, _, rfl, kp, _, _, w, rfl, rfl, (by rw [upd_ne (ne_of_none hT'.kat hq)]; exact hT'.kat), Hs.ixN_nat (by rw [List.length_map, hT'.klen]; exact hwl), ?_⟩
            have hlen2 : e.who < ((List.range (M : Int).toNat).map fun a => max (Hs.at0 (Hs.rowOf kn w) a) (Hs.at0 e.hd a)).length := by rw [List.length_map, List.length_range, hn]; exact hoM
            refine ⟨_, rfl, _, rfl, kp, _, _, _, rfl, rfl, SqL.of kat10, akw2, _, rfl, kw2, _, _, _, rfl, rfl, SqL.of ekw2, Hs.atI_row hlen2, _, rfl, _, _, rfl, _, rfl, _, rfl, kp, _, _, _, rfl, rfl, SqL.of kat10, akw2, _, rfl, kw2, _, _, e.who, rfl, rfl, ekw2, Hs.ixN_nat (by rw [List.length_map]; exact hlen2), ?_⟩
            have h11 := h10.row (i := w) (k := kw2) (r := ((List.range (M : Int).toNat).map fun a => max (Hs.at0 (Hs.rowOf kn w) a) (Hs.at0 e.hd a)).set e.who (max (Hs.at0 ((List.range (M : Int).toNat).map fun a => max (Hs.at0 (Hs.rowOf kn w) a) (Hs.at0 e.hd a)) e.who) e.num)) hkw2
            rw [← Hs.rowV_set] at h11
            have ex : (kn.set w ((List.range (M : Int).toNat).map fun a => max (Hs.at0 (Hs.rowOf kn w) a) (Hs.at0 e.hd a))).set w (((List.range (M : Int).toNat).map fun a => max (Hs.at0 (Hs.rowOf kn w) a) (Hs.at0 e.hd a)).set e.who (max (Hs.at0 ((List.range (M : Int).toNat).map fun a => max (Hs.at0 (Hs.rowOf kn w) a) (Hs.at0 e.hd a)) e.who) e.num)) = kn.set w (Hs.merged M (Hs.rowOf kn w) e.hd e.who e.num) := by
              rw [List.set_set, hn]
              unfold Hs.merged
              rw [Hs.getD_range _ hoM]
            rw [ex] at h11
            have vx : V.int (if ((e.num : Nat) : Int) > ((Hs.at0 ((List.range (M : Int).toNat).map fun a => max (Hs.at0 (Hs.rowOf kn w) a) (Hs.at0 e.hd a)) e.who : Nat) : Int) then ((e.num : Nat) : Int) else ((Hs.at0 ((List.range (M : Int).toNat).map fun a => max (Hs.at0 (Hs.rowOf kn w) a) (Hs.at0 e.hd a)) e.who : Nat) : Int)) = Hs.nV (max (Hs.at0 ((List.range (M : Int).toNat).map fun a => max (Hs.at0 (Hs.rowOf kn w) a) (Hs.at0 e.hd a)) e.who) e.num) := congrArg V.int (Hs.max_nat _ _)
            rw [← vx] at h11
            exact ⟨_, ks.set w pn, _, _, _, _, rfl, h11, K9.merge W7 hwM he hgt⟩
        · exact ⟨kn, ks, _, _, _, _, rfl, h9, K9⟩
      · rintro σ H9 ⟨kn, ks, v12, v13, v14, v15, rfl, h9, K9⟩
        have hwl : w < kn.length := by rw [K9.len]; exact hwM
        obtain ⟨kw, hkw, ekw, akw⟩ := h9.rowAt (i := w) hwl
        have lw : (Hs.rowOf kn w).length = M := K9.row w hwM
        refine ⟨_, rfl, _, rfl, kp, _, _, _, rfl, rfl, SqL.of h9.kat, akw, _, rfl, kw, _, _, _, rfl, rfl, SqL.of ekw, Hs.atI_row (by omega), _, _, rfl, rfl, ?_⟩
        show gName 16 (Hs.nV (Hs.at0 (Hs.rowOf kn w) w + 1)) _ _ _
        refine ⟨_, rfl, _, rfl, kp, _, _, _, rfl, rfl, SqL.of h9.kat, akw, kw, _, rfl, SqL.of ekw, fun ph H10 g10 s10 e10 => ?_⟩
        have h10 := h9.mono s10
        refine ⟨_, rfl, ph, _, rfl, .inr (SqT.of e10), fun pl H11 g11 s11 e11 => ?_⟩
        refine ⟨_, rfl, _, rfl, _, rfl, szOk rfl, fun pt H12 g12 s12 e12 => ?_⟩
        have h12 := (h10.mono s11).mono s12
        refine ⟨tp, _, rfl, DPut.t (k := Hs.keyD (Hs.nextD kn w .none [])) h12.tat e12 (Nat.lt_of_le_of_lt h12.tlen (small1000 (by omega))), ?_⟩
        have h13 := h12.put (d := Hs.nextD kn w .none []) (q := pl) (s12 _ _ e11) (fun z => ne_of_none h10.kat g11 z.symm) (fun z => ne_of_none h10.dat g11 z.symm) (fun z => by
            obtain ⟨a, ha, e2⟩ := List.mem_iff_getElem.mp z
            exact ne_of_none (h10.rows a pl (by rw [List.getElem?_eq_getElem ha, e2])) g11 rfl)
          (fun e he => Hs.keyD_ne fun z => by
            have q1 := K9.cnt e he
            rw [z.1, z.2] at q1
            have q2 : (Hs.nextD kn w .none []).num = Hs.at0 (Hs.rowOf kn w) w + 1 := rfl
            have q3 : (Hs.nextD kn w .none []).who = w := rfl
            rw [q2, q3] at q1
            omega)
        refine ⟨_, rfl, _, rfl, _, rfl, kp, _, _, _, rfl, rfl, SqL.of h13.kat, akw, _, rfl, kw, _, _, w, rfl, rfl, h13.rows w kw hkw, Hs.ixN_nat (by rw [List.length_map]; omega), ?_⟩
        have h14 := h13.row (i := w) (k := kw) (r := (Hs.rowOf kn w).set w (Hs.at0 (Hs.rowOf kn w) w + 1)) hkw
        rw [← Hs.rowV_set] at h14
        have d14 : DR _ p1 ms 22 := ⟨h14.same _ _ upd_same, d8.len, d8.few⟩
        have sG : Same H3 (upd (upd H3 q6 (.lst (cutV (List.map V.int ns) (some 1) (some most)))) p1 (.lst (List.map V.int ms))) := (Same.new (st.same.free g6)).up (h7.same.free g8)
        have r14 := rl.mono (sG.trans h14.same)
        refine ⟨_, rfl, _, rfl, p1, _, rfl, SqL.of d14.at', fun q15 H15 g15 s15 e15 => ?_⟩
        have d15 := d14.from 4 (by decide) e15
        refine ⟨_, rfl, _, rfl, q15, rp, ws, _, _, rfl, r14.mono s15, ⟨d15.at', Nat.le_trans (by decide) d15.len, d15.few⟩, fun H16 vw wt s16 dw hww2 => ?_⟩
        have h16 := (h14.mono s15).mono s16
        have r16 := (r14.mono s15).mono s16
        have d16 := (d14.mono s15).mono s16
        obtain ⟨a3, h3⟩ := d16.get 3 (by decide)
        have hww : w < ws.length := by omega
        have hwd : atI (ws.map V.str) (w : Int) = some (.str ws[w]) := atI_nat (by rw [List.getElem?_map, List.getElem?_eq_getElem hww]; rfl)
        refine ⟨_, rfl, .inl ⟨rfl, _, SqL.of h16.dat⟩, _, rfl, _, rfl, rp, _, _, _, rfl, rfl, SqL.of r16.at', hwd, _, rfl, _, rfl, _, rfl, p1, _, 3, .int a3, rfl, rfl, SqL.of d16.at', h3, _, rfl, _, rp, ws, rfl, r16, fun H17 vb br s17 dbr hbr => ?_⟩
        refine ⟨_, rfl, szOk rfl, fun pd H18 g18 s18 e18 => ?_⟩
        have h18 := (h16.mono s17).mono s18
        refine ⟨dp, _, _, rfl, rfl, h18.dat, (by rw [h18.deeds.1]; exact small1000 (by omega)), ?_⟩
        have pt1 : ph ≠ tp := fun z => ne_of_none h9.tat g10 z.symm
        have pt2 : ph ≠ kw := fun z => ne_of_none ekw g10 z.symm
        have eph : H18 ph = some (.tup (Hs.rowV (Hs.rowOf kn w))) := by
          refine s18 _ _ (s17 _ _ (s16 _ _ (s15 _ _ ?_)))
          rw [upd_ne pt2, upd_ne pt1]
          exact s12 _ _ (s11 _ _ e10)
        refine ⟨_, ds ++ [Hs.nextD kn w br wt], ks, _, _, _, _, _, _, _, _, _, _, _, _, _, rfl, ((h18.retab (d2 := Hs.nextD kn w br wt) rfl rfl).add (d := Hs.nextD kn w br wt) (v := .ref pd) ⟨pd, ws[w], ph, vb, vw, rfl, List.getElem?_eq_getElem hww, e18, eph, dbr.same s18, dw.same (s17.trans s18)⟩).weak (Same.new (h7.same.free g8)), K9.next W7 hwM, W7.next K9 hwM, ?_, fun d hd => ?_⟩
        · rw [List.length_append, List.length_singleton]
          omega
        · rcases List.mem_append.mp hd with hd | hd
          · exact hbw d hd
          · rw [List.mem_singleton.mp hd]
            exact ⟨hbr, hww2⟩
    · rintro σ H7 ⟨kn, ds, ks, kvs, des, v8, v9, v10, v11, v12, v13, v14, v15, v16, v17, v18, rfl, h7, K7, W7, hlen, hbw⟩
      have h7' : Hs.HSt H3 H7 kp tp dp ws kn ds ds ks kvs des := h7.weak (Same.new (st.same.free g6))
      have s03 : Same H H3 := (s1.trans s2).trans s3
      refine ⟨_, rfl, _, rfl, szOk rfl, fun q8 H8 g8 s8 e8 => ?_⟩
      exact k H8 q8 rp dp ws ds des ((s03.trans h7'.same).trans s8) ((s03.trans h7'.same).free g8) e8 (rl.mono (h7'.same.trans s8)) h2 nd (s03.free h7'.fd) (s8 _ _ h7'.dat) (h7'.deeds.mono s8) (hM' ▸ W7) hbw (by omega)
theorem ok_flaw (T : Txt K mg d tk) (gf_law_house : FnOk P w K mg base CX0 7 d.f_law_house d.f_law_housed ["_law_script", "_law_most"] (sp_f_law_house K)) (gf_law_shown : FnOk P w K mg base CX0 4 d.f_law_shown d.f_law_shownd ["_law_deed"] (sp_f_law_shown K)) (gfshown_deed : FnOk P w K mg base CX0 5 d.fshown_deed d.fshown_deedd ["deed"] (sp_fshown_deed K)) (gfshown_name : FnOk P w K mg base CX0 1 d.fshown_name d.fshown_named ["name"] (sp_fshown_name K)) : FnOk P w K mg base CX0 8 d.flaw d.flawd ["_law_script"] (sp_flaw K) := by
  refine T.F_flaw.ok sc_flaw (fun vs H Q E h => len_flaw h) (fun cdv A outer s H vs Q E hr h => ?_)
  have hu : (A.deeper (envOfC "law" (defScope s_flaw) s.heap.objs.size d.flaw cdv)).units < cLine := hr.units0
  refine ⟨_, (@pss_cons _ _ _ _ _ (@ps_asg _ _ _ _ _ _ (@pe_call _ _ _ _ _ _ _ _ _ _ _ _ _ _ _ _ gf_law_house (hr.mono (by decide)) (by rfl) T.m_f_law_house T.k_f_law_house T.d_f_law_house .nil pass0 (@pa_cons _ _ _ _ _ (@pv _ 0 _ _ rfl (Or.inl rfl) rfl rfl) (@pa_cons _ _ _ _ _ (@pe_int _ _ _ _) (@pa_nil _) (by rfl)) (by rfl)) (by decide) (by rfl) (by rfl)) (@pg_tup _ _ _ _ _ _ rfl (@pgs_cons _ _ _ _ _ (@pg_name _ _ (1) _ sc_flaw.nd rfl (Or.inl rfl) (by first | exact .inl rfl | exact .inr rfl)) (@pgs_cons _ _ _ _ _ (@pg_name _ _ (2) _ sc_flaw.nd rfl (Or.inl rfl) (by first | exact .inl rfl | exact .inr rfl)) (@pgs_nil _) (by rfl)) (by rfl)) (by rfl) (by rfl)) (by rfl) (by rfl) (by rfl)) (@pss_cons _ _ _ _ _ (@ps_for _ _ _ _ _ _ _ _ PassesOwn.never rfl (@pi_list _ _ _ _ (@pv _ 2 _ _ rfl (Or.inl rfl) rfl rfl)) (@pg_name _ _ (3) _ sc_flaw.nd rfl (Or.inl rfl) (by first | exact .inl rfl | exact .inr rfl)) (@pss_cons _ _ _ _ _ (@ps_set _ _ (4) _ _ _ _ sc_flaw.nd rfl (Or.inl rfl) (@pe_call _ _ _ _ _ _ _ _ _ _ _ _ _ _ _ _ gf_law_shown (hr.mono (by decide)) (by rfl) T.m_f_law_shown T.k_f_law_shown T.d_f_law_shown .nil pass0 (@pa_cons _ _ _ _ _ (@pv _ 3 _ _ rfl (Or.inl rfl) rfl rfl) (@pa_nil _) (by rfl)) (by decide) (by rfl) (by rfl)) (by rfl) (by first | exact .inl rfl | exact .inr rfl)) (@pss_cons _ _ _ _ _ (@ps_set _ _ (5) _ _ _ _ sc_flaw.nd rfl (Or.inl rfl) (@pe_call _ _ _ _ _ _ _ _ _ _ _ _ _ _ _ _ gfshown_deed (hr.mono (by decide)) (by rfl) T.m_fshown_deed T.k_fshown_deed T.d_fshown_deed .nil pass0 (@pa_cons _ _ _ _ _ (@pv _ 3 _ _ rfl (Or.inl rfl) rfl rfl) (@pa_nil _) (by rfl)) (by decide) (by rfl) (by rfl)) (by rfl) (by first | exact .inl rfl | exact .inr rfl)) (@pss_cons _ _ _ _ _ (@ps_if _ _ _ _ _ _ _ _ (@PW.pt _ _ _ (@pw_or _ _ _ _ _ _ _ (@pt_not _ _ _ _ (@pt_val _ _ _ (@pe_callB _ _ _ _ _ _ _ _ _ call_isinst (by rfl) T.b_isinstance boot_isinstance (@pa_cons _ _ _ _ _ (@pv _ 5 _ _ rfl (Or.inl rfl) rfl rfl) (@pa_cons _ _ _ _ _ (@pe_bltn _ _ (.ty "str") _ _ (by rfl) T.b_str boot_str rfl (by decide) (by decide)) (@pa_nil _) (by rfl)) (by rfl)) (by decide) (by decide) (by rfl) (by rfl)) (by intro _; rfl))) (@pw_or _ _ _ _ _ _ _ (@pt_cmpR _ _ _ _ _ _ _ _ op_ne (@pv _ 5 _ _ rfl (Or.inl rfl) rfl rfl) (@pv _ 4 _ _ rfl (Or.inl rfl) rfl rfl) (nomark _)) (@pw_or1 _ _ _ _ (@pt_cmpR _ _ _ _ _ _ _ _ op_ne (@pe_call _ _ _ _ _ _ _ _ _ _ _ _ _ _ _ _ gfshown_deed (hr.mono (by decide)) (by rfl) T.m_fshown_deed T.k_fshown_deed T.d_fshown_deed .nil pass0 (@pa_cons _ _ _ _ _ (@pv _ 3 _ _ rfl (Or.inl rfl) rfl rfl) (@pa_nil _) (by rfl)) (by decide) (by rfl) (by rfl)) (@pv _ 4 _ _ rfl (Or.inl rfl) rfl rfl) (nomark _)))))) (@pss_one _ _ _ (@ps_ret _ _ _ _ (@pe_bl _ _ _ _))) (@pss_nil _)) (@pss_cons _ _ _ _ _ (@ps_if _ _ _ _ _ _ _ _ (@pt_cmpR _ _ _ _ _ _ _ _ op_ne (@pe_call _ _ _ _ _ _ _ _ _ _ _ _ _ _ _ _ gfshown_name (hr.mono (by decide)) (by rfl) T.m_fshown_name T.k_fshown_name T.d_fshown_name .nil pass0 (@pa_cons _ _ _ _ _ (@pe_tupA _ _ _ _ _ (@pa_cons _ _ _ _ _ (@pe_ix _ _ _ _ _ _ _ ix_tup (@pv _ 3 _ _ rfl (Or.inl rfl) rfl rfl) (@pe_int _ _ _ _) (fun _ _ => rfl)) (@pa_cons _ _ _ _ _ (@pe_ix _ _ _ _ _ _ _ ix_tup (@pv _ 3 _ _ rfl (Or.inl rfl) rfl rfl) (@pe_int _ _ _ _) (fun _ _ => rfl)) (@pa_nil _) (by rfl)) (by rfl))) (@pa_nil _) (by rfl)) (by decide) (by rfl) (by rfl)) (@pe_op _ _ _ _ _ _ _ _ op_add_str (@pe_op _ _ _ _ _ _ _ _ op_add_str (@pe_ix _ _ _ _ _ _ _ ix_tup (@pv _ 3 _ _ rfl (Or.inl rfl) rfl rfl) (@pe_int _ _ _ _) (fun _ _ => rfl)) (@pe_str _ _ _ _)) (@pe_callTy _ _ _ _ _ _ _ _ _ call_strV (by rfl) T.b_str boot_str (@pa_cons _ _ _ _ _ (@pe_ix _ _ _ _ _ _ _ ix_tup (@pv _ 3 _ _ rfl (Or.inl rfl) rfl rfl) (@pe_int _ _ _ _) (fun _ _ => rfl)) (@pa_nil _) (by rfl)) (by decide) (by decide) (by rfl) (by rfl))) (nomark _)) (@pss_one _ _ _ (@ps_ret _ _ _ _ (@pe_bl _ _ _ _))) (@pss_nil _)) (@pss_cons _ _ _ _ _ (@ps_if _ _ _ _ _ _ _ _ (@pt_cmpR _ _ _ _ _ _ _ _ op_ne (@pe_call _ _ _ _ _ _ _ _ _ _ _ _ _ _ _ _ gfshown_name (hr.mono (by decide)) (by rfl) T.m_fshown_name T.k_fshown_name T.d_fshown_name .nil pass0 (@pa_cons _ _ _ _ _ (@pe_tupA _ _ _ _ _ (@pa_cons _ _ _ _ _ (@pe_ix _ _ _ _ _ _ _ ix_tup (@pv _ 3 _ _ rfl (Or.inl rfl) rfl rfl) (@pe_int _ _ _ _) (fun _ _ => rfl)) (@pa_cons _ _ _ _ _ (@pe_ix _ _ _ _ _ _ _ ix_tup (@pv _ 3 _ _ rfl (Or.inl rfl) rfl rfl) (@pe_int _ _ _ _) (fun _ _ => rfl)) (@pa_cons _ _ _ _ _ (@pe_op _ _ _ _ _ _ _ _ op_mod (@pe_ix _ _ _ _ _ _ _ ix_tup (@pv _ 3 _ _ rfl (Or.inl rfl) rfl rfl) (@pe_int _ _ _ _) (fun _ _ => rfl)) (@pe_int _ _ _ _)) (@pa_nil _) (by rfl)) (by rfl)) (by rfl))) (@pa_nil _) (by rfl)) (by decide) (by rfl) (by rfl)) (@pe_op _ _ _ _ _ _ _ _ op_add_str (@pe_op _ _ _ _ _ _ _ _ op_add_str (@pe_op _ _ _ _ _ _ _ _ op_add_str (@pe_op _ _ _ _ _ _ _ _ op_add_str (@pe_ix _ _ _ _ _ _ _ ix_tup (@pv _ 3 _ _ rfl (Or.inl rfl) rfl rfl) (@pe_int _ _ _ _) (fun _ _ => rfl)) (@pe_str _ _ _ _)) (@pe_callTy _ _ _ _ _ _ _ _ _ call_strV (by rfl) T.b_str boot_str (@pa_cons _ _ _ _ _ (@pe_ix _ _ _ _ _ _ _ ix_tup (@pv _ 3 _ _ rfl (Or.inl rfl) rfl rfl) (@pe_int _ _ _ _) (fun _ _ => rfl)) (@pa_nil _) (by rfl)) (by decide) (by decide) (by rfl) (by rfl))) (@pe_str _ _ _ _)) (@pe_callTy _ _ _ _ _ _ _ _ _ call_strV (by rfl) T.b_str boot_str (@pa_cons _ _ _ _ _ (@pe_op _ _ _ _ _ _ _ _ op_mod (@pe_ix _ _ _ _ _ _ _ ix_tup (@pv _ 3 _ _ rfl (Or.inl rfl) rfl rfl) (@pe_int _ _ _ _) (fun _ _ => rfl)) (@pe_int _ _ _ _)) (@pa_nil _) (by rfl)) (by decide) (by decide) (by rfl) (by rfl))) (nomark _)) (@pss_one _ _ _ (@ps_ret _ _ _ _ (@pe_bl _ _ _ _))) (@pss_nil _)) (@pss_one _ _ _ (@ps_if _ _ _ _ _ _ _ _ (@pt_cmpR _ _ _ _ _ _ _ _ op_ne (@pe_call _ _ _ _ _ _ _ _ _ _ _ _ _ _ _ _ gfshown_name (hr.mono (by decide)) (by rfl) T.m_fshown_name T.k_fshown_name T.d_fshown_name .nil pass0 (@pa_cons _ _ _ _ _ (@pe_tupA _ _ _ _ _ (@pa_cons _ _ _ _ _ (@pe_ix _ _ _ _ _ _ _ ix_tup (@pv _ 3 _ _ rfl (Or.inl rfl) rfl rfl) (@pe_int _ _ _ _) (fun _ _ => rfl)) (@pa_cons _ _ _ _ _ (@pe_op _ _ _ _ _ _ _ _ op_sub (@pe_op _ _ _ _ _ _ _ _ op_pow (@pe_int _ _ _ _) (@pe_int _ _ _ _)) (@pe_ix _ _ _ _ _ _ _ ix_tup (@pv _ 3 _ _ rfl (Or.inl rfl) rfl rfl) (@pe_int _ _ _ _) (fun _ _ => rfl))) (@pa_cons _ _ _ _ _ (@pe_op _ _ _ _ _ _ _ _ op_pow (@pe_int _ _ _ _) (@pe_int _ _ _ _)) (@pa_nil _) (by rfl)) (by rfl)) (by rfl))) (@pa_nil _) (by rfl)) (by decide) (by rfl) (by rfl)) (@pe_op _ _ _ _ _ _ _ _ op_add_str (@pe_op _ _ _ _ _ _ _ _ op_add_str (@pe_op _ _ _ _ _ _ _ _ op_add_str (@pe_ix _ _ _ _ _ _ _ ix_tup (@pv _ 3 _ _ rfl (Or.inl rfl) rfl rfl) (@pe_int _ _ _ _) (fun _ _ => rfl)) (@pe_str _ _ _ _)) (@pe_callTy _ _ _ _ _ _ _ _ _ call_strV (by rfl) T.b_str boot_str (@pa_cons _ _ _ _ _ (@pe_op _ _ _ _ _ _ _ _ op_sub (@pe_op _ _ _ _ _ _ _ _ op_pow (@pe_int _ _ _ _) (@pe_int _ _ _ _)) (@pe_ix _ _ _ _ _ _ _ ix_tup (@pv _ 3 _ _ rfl (Or.inl rfl) rfl rfl) (@pe_int _ _ _ _) (fun _ _ => rfl))) (@pa_nil _) (by rfl)) (by decide) (by decide) (by rfl) (by rfl))) (@pe_str _ _ _ _)) (nomark _)) (@pss_one _ _ _ (@ps_ret _ _ _ _ (@pe_bl _ _ _ _))) (@pss_nil _)))))))) (by intro _; rfl)) (@pss_one _ _ _ (@ps_ret _ _ _ _ (@pe_cmpR _ _ _ _ _ _ _ _ op_eq (@pe_call _ _ _ _ _ _ _ _ _ _ _ _ _ _ _ _ gfshown_name (hr.mono (by decide)) (by rfl) T.m_fshown_name T.k_fshown_name T.d_fshown_name .nil pass0 (@pa_cons _ _ _ _ _ (@pe_tupA _ _ _ _ _ (@pa_cons _ _ _ _ _ (@pe_str _ _ _ _) (@pa_cons _ _ _ _ _ (@pe_int _ _ _ _) (@pa_nil _) (by rfl)) (by rfl))) (@pa_nil _) (by rfl)) (by decide) (by rfl) (by rfl)) (@pe_str _ _ _ _) (nomark _)))))), ?_⟩
  obtain ⟨sp, ns, rfl, hs, hl, kk⟩ := h
  refine ⟨_, rfl, sp, ns, 41, rfl, hs, hl, fun H1 p rp dp ws ds des s1 g1 e1 rl h2 nd gd e2 dds W bw hdl => ?_⟩
  refine ⟨p, _, rfl, SqT.of e1, rfl, _, _, rfl, _, _, rfl, rfl, ?_⟩
  have hdes : des.length ≤ 63 := by rw [dds.1]; exact hdl
  refine ⟨_, rfl, dp, rfl, ⟨_, SqL.of e2⟩, for_list (xs := des) (fun j σ H2 => ∃ u1 u2 u3 : Option V, σ = [some (.ref sp), some (.ref rp), some (.ref dp), u1, u2, u3] ∧ Same H1 H2) ⟨_, _, _, rfl, Same.refl H1⟩ (fun j σ H2 _ ⟨_, _, _, _, s⟩ => SqL.of (s _ _ e2)) ?_ ?_⟩
  · rintro j x σ H2 hx ⟨u1, u2, u3, rfl, s2⟩
    have hj : j < ds.length := by rw [← dds.1]; exact (List.getElem?_eq_some_iff.mp hx).1
    obtain ⟨v, ev, hd⟩ := dds.2 j ds[j] (List.getElem?_eq_getElem hj)
    rw [hx] at ev
    cases ev
    have hm : ds[j] ∈ ds := List.getElem_mem hj
    obtain ⟨w, wds, ew, dk⟩ := deed_ok rl.wd (by omega) rl.few W hdl hm (hd.mono s2) (bw _ hm).1 (bw _ hm).2
    have hnum := num_len W hm
    generalize ds[j] = dd at *
    have hW : IsW w := rl.wd w (List.mem_of_getElem? ew)
    refine ⟨_, rfl, _, w, _, _, _, wds, rfl, dk, fun H3 s3 => ?_⟩
    refine ⟨_, rfl, _, w, _, _, _, wds, rfl, dk.same s3, fun H4 s4 => ?_⟩
    have ne1 : ∀ z : Str, (!decide (V.str z = V.str z)) = false := fun z => by rw [decide_eq_true rfl]; rfl
    refine ⟨_, rfl, _, "str", _, true, rfl, .str _, by rfl, _, rfl, itF rfl ?_⟩
    refine ⟨_, rfl, _, rfl, rfl, _, rfl, itF (ne1 _) ?_⟩
    refine ⟨_, rfl, _, w, _, _, _, wds, rfl, (dk.same s3).same s4, fun H5 s5 => ?_⟩
    refine ⟨_, rfl, rfl, _, rfl, itF (ne1 _) ?_⟩
    obtain ⟨q, hq', vb, vx, xd, rfl, hq, _⟩ := dk.at'
    have t5 := (s3.trans s4).trans s5
    have hn : Nb (dd.num : Int) := ⟨by omega, by omega⟩
    have lw : w.length ≤ 8 := isW_len hW
    have le1 : ("." : Str).length = 1 := rfl
    have ln : (toString (dd.num : Int) : Str).length ≤ 8 := strD_len (d := .int dd.num) (.inr ⟨_, rfl, hn⟩)
    have ls : sizeLine ≥ 1000 := Nat.le_of_lt (small1000 (Nat.le_refl _))
    refine ⟨_, rfl, q, _, 0, .str w, rfl, rfl, SqT.of (t5 _ _ hq), atI_nat (j := 0) rfl, _, rfl, q, _, 1, .int (dd.num : Int), rfl, rfl, SqT.of (t5 _ _ hq), atI_nat (j := 1) rfl, szOk rfl, fun p6 H6 g6 s6 e6 => ?_⟩
    refine ⟨.ref p6, _, rfl, .tup e6 (.cons (.str w) (.cons (.int _) .nil)), nn2 hW hn, fun H7 s7 => ?_⟩
    have t7 := (t5.trans s6).trans s7
    rw [nm2 (isW_ne hW)]
    refine ⟨_, rfl, q, _, 0, .str w, rfl, rfl, SqT.of (t7 _ _ hq), atI_nat (j := 0) rfl, _, _, rfl, rfl, len_ok (by rw [le1]; omega), _, rfl, q, _, 1, .int (dd.num : Int), rfl, rfl, SqT.of (t7 _ _ hq), atI_nat (j := 1) rfl, _, rfl, .inr ⟨_, rfl, log_nb hn⟩, _, _, rfl, rfl, len_ok (by rw [Str.length_append, le1]; show w.length + 1 + (toString (dd.num : Int) : Str).length ≤ 1000; omega), rfl, _, rfl, itF (ne1 _) ?_⟩
    have hm12 : Nb ((dd.num : Int) % 12) := ⟨mod_lo _ (by decide), by have := mod_hi (dd.num : Int) (m := 12) (by decide); omega⟩
    have lm : (toString ((dd.num : Int) % 12) : Str).length ≤ 8 := strD_len (d := .int ((dd.num : Int) % 12)) (.inr ⟨_, rfl, hm12⟩)
    refine ⟨_, rfl, q, _, 0, .str w, rfl, rfl, SqT.of (t7 _ _ hq), atI_nat (j := 0) rfl, _, rfl, q, _, 1, .int (dd.num : Int), rfl, rfl, SqT.of (t7 _ _ hq), atI_nat (j := 1) rfl, _, rfl, q, _, 1, .int (dd.num : Int), rfl, rfl, SqT.of (t7 _ _ hq), atI_nat (j := 1) rfl, _, _, rfl, rfl, (by show (0 : Int) < 12; decide), szOk rfl, fun p8 H8 g8 s8 e8 => ?_⟩
    refine ⟨.ref p8, _, rfl, .tup e8 (.cons (.str w) (.cons (.int _) (.cons (.int _) .nil))), nn3 hW hn hm12, fun H9 s9 => ?_⟩
    have t9 := (t7.trans s8).trans s9
    rw [nm3 (isW_ne hW)]
    refine ⟨_, rfl, q, _, 0, .str w, rfl, rfl, SqT.of (t9 _ _ hq), atI_nat (j := 0) rfl, _, _, rfl, rfl, len_ok (by rw [le1]; omega), _, rfl, q, _, 1, .int (dd.num : Int), rfl, rfl, SqT.of (t9 _ _ hq), atI_nat (j := 1) rfl, _, rfl, .inr ⟨_, rfl, log_nb hn⟩, _, _, rfl, rfl, len_ok (by rw [Str.length_append, le1]; show w.length + 1 + (toString (dd.num : Int) : Str).length ≤ 1000; omega), _, _, rfl, rfl, len_ok (by rw [Str.length_append, Str.length_append, le1]; show w.length + 1 + (toString (dd.num : Int) : Str).length + 1 ≤ 1000; omega), _, rfl, q, _, 1, .int (dd.num : Int), rfl, rfl, SqT.of (t9 _ _ hq), atI_nat (j := 1) rfl, _, _, rfl, rfl, (by show (0 : Int) < 12; decide), _, rfl, .inr ⟨_, rfl, log_nb hm12⟩, _, _, rfl, rfl, len_ok (by rw [Str.length_append, Str.length_append, Str.length_append, le1]; show w.length + 1 + (toString (dd.num : Int) : Str).length + 1 + (toString ((dd.num : Int) % 12) : Str).length ≤ 1000; omega), rfl, _, rfl, itF (ne1 _) ?_⟩
    have hk : Nb ((1000000 : Int) - (dd.num : Int)) := ⟨by omega, by omega⟩
    have lk : (toString ((1000000 : Int) - (dd.num : Int)) : Str).length ≤ 8 := strD_len (d := .int ((1000000 : Int) - (dd.num : Int))) (.inr ⟨_, rfl, hk⟩)
    refine ⟨_, rfl, q, _, 0, .str w, rfl, rfl, SqT.of (t9 _ _ hq), atI_nat (j := 0) rfl, _, _, rfl, rfl, ⟨by decide, by decide, by decide⟩, _, rfl, q, _, 1, .int (dd.num : Int), rfl, rfl, SqT.of (t9 _ _ hq), atI_nat (j := 1) rfl, _, _, rfl, rfl, _, _, rfl, rfl, ⟨by decide, by decide, by decide⟩, szOk rfl, fun pa Ha ga sa ea => ?_⟩
    refine ⟨.ref pa, _, rfl, .tup ea (.cons (.str w) (.cons (.int _) (.cons (.int _) .nil))), nn3 hW hk (by constructor <;> decide), fun Hb sb => ?_⟩
    have tb := (t9.trans sa).trans sb
    rw [nm3 (isW_ne hW)]
    refine ⟨_, rfl, q, _, 0, .str w, rfl, rfl, SqT.of (tb _ _ hq), atI_nat (j := 0) rfl, _, _, rfl, rfl, len_ok (by rw [le1]; omega), _, _, rfl, rfl, ⟨by decide, by decide, by decide⟩, _, rfl, q, _, 1, .int (dd.num : Int), rfl, rfl, SqT.of (tb _ _ hq), atI_nat (j := 1) rfl, _, _, rfl, rfl, _, rfl, .inr ⟨_, rfl, log_nb hk⟩, _, _, rfl, rfl, len_ok (by rw [Str.length_append, le1]; show w.length + 1 + (toString ((1000000 : Int) - (dd.num : Int)) : Str).length ≤ 1000; omega), _, _, rfl, rfl, len_ok (by rw [Str.length_append, Str.length_append, le1]; show w.length + 1 + (toString ((1000000 : Int) - (dd.num : Int)) : Str).length + 8 ≤ 1000; omega), rfl, _, rfl, itF ?_ ?_⟩
    · have e9 : ("." : Str) ++ Str.ofString (toString (10 ^ Int.toNat 6 : Int)) = ".1000000" := by decide +kernel
      rw [Str.append_assoc, e9]
      exact ne1 _
    · exact ⟨_, _, _, rfl, s2.trans tb⟩
  · rintro σ H2 ⟨u1, u2, u3, rfl, s2⟩
    refine ⟨szOk rfl, fun p3 H3 g3 s3 e3 => ?_⟩
    refine ⟨.ref p3, _, rfl, .tup e3 (.cons (.str _) (.cons (.int _) .nil)), .inl rfl, fun H4 s4 => ?_⟩
    rw [nm_main]
    exact ⟨rfl, kk H4 (((s1.trans s2).trans s3).trans s4)⟩
end
theorem all_mk {l : PySem.W.OpenLaw} {w : World} {K : PySem.W.Frag} {h : Heap} {mg : Str → Option Value} {fa : Addr} (X : K.In h) (G : h.Ns mainGlobals mg) (hfa : mg "law" = some (.ref fa))
    {a_fshown_name : Addr} {od_fshown_name an_fshown_name : Option Addr} {sl_fshown_name : Array (Option Value)} {oc_fshown_name kV_fshown_name dc_fshown_name pm_fshown_name cd_fshown_name ct_fshown_name : Value} {a_fshown_counts : Addr} {od_fshown_counts an_fshown_counts : Option Addr} {sl_fshown_counts : Array (Option Value)} {oc_fshown_counts kV_fshown_counts dc_fshown_counts pm_fshown_counts cd_fshown_counts ct_fshown_counts : Value} {a_fshown_branch : Addr} {od_fshown_branch an_fshown_branch : Option Addr} {sl_fshown_branch : Array (Option Value)} {oc_fshown_branch kV_fshown_branch dc_fshown_branch pm_fshown_branch cd_fshown_branch ct_fshown_branch : Value} {a_fshown_side : Addr} {od_fshown_side an_fshown_side : Option Addr} {sl_fshown_side : Array (Option Value)} {oc_fshown_side kV_fshown_side dc_fshown_side pm_fshown_side cd_fshown_side ct_fshown_side : Value} {a_fshown_sign : Addr} {od_fshown_sign an_fshown_sign : Option Addr} {sl_fshown_sign : Array (Option Value)} {oc_fshown_sign kV_fshown_sign dc_fshown_sign pm_fshown_sign cd_fshown_sign ct_fshown_sign : Value} {a_fshown_text : Addr} {od_fshown_text an_fshown_text : Option Addr} {sl_fshown_text : Array (Option Value)} {oc_fshown_text kV_fshown_text dc_fshown_text pm_fshown_text cd_fshown_text ct_fshown_text : Value} {a_fshown_thing : Addr} {od_fshown_thing an_fshown_thing : Option Addr} {sl_fshown_thing : Array (Option Value)} {oc_fshown_thing kV_fshown_thing dc_fshown_thing pm_fshown_thing cd_fshown_thing ct_fshown_thing : Value} {a_fwords_of : Addr} {od_fwords_of an_fwords_of : Option Addr} {sl_fwords_of : Array (Option Value)} {oc_fwords_of kV_fwords_of dc_fwords_of pm_fwords_of cd_fwords_of ct_fwords_of : Value} {a_fshown_deed : Addr} {od_fshown_deed an_fshown_deed : Option Addr} {sl_fshown_deed : Array (Option Value)} {oc_fshown_deed kV_fshown_deed dc_fshown_deed pm_fshown_deed cd_fshown_deed ct_fshown_deed : Value} {a_f_law_draws : Addr} {od_f_law_draws an_f_law_draws : Option Addr} {sl_f_law_draws : Array (Option Value)} {oc_f_law_draws kV_f_law_draws dc_f_law_draws pm_f_law_draws cd_f_law_draws ct_f_law_draws : Value} {a_f_law_word : Addr} {od_f_law_word an_f_law_word : Option Addr} {sl_f_law_word : Array (Option Value)} {oc_f_law_word kV_f_law_word dc_f_law_word pm_f_law_word cd_f_law_word ct_f_law_word : Value} {a_f_law_roll : Addr} {od_f_law_roll an_f_law_roll : Option Addr} {sl_f_law_roll : Array (Option Value)} {oc_f_law_roll kV_f_law_roll dc_f_law_roll pm_f_law_roll cd_f_law_roll ct_f_law_roll : Value} {a_f_law_name : Addr} {od_f_law_name an_f_law_name : Option Addr} {sl_f_law_name : Array (Option Value)} {oc_f_law_name kV_f_law_name dc_f_law_name pm_f_law_name cd_f_law_name ct_f_law_name : Value} {a_f_law_part : Addr} {od_f_law_part an_f_law_part : Option Addr} {sl_f_law_part : Array (Option Value)} {oc_f_law_part kV_f_law_part dc_f_law_part pm_f_law_part cd_f_law_part ct_f_law_part : Value} {a_f_law_sign_name : Addr} {od_f_law_sign_name an_f_law_sign_name : Option Addr} {sl_f_law_sign_name : Array (Option Value)} {oc_f_law_sign_name kV_f_law_sign_name dc_f_law_sign_name pm_f_law_sign_name cd_f_law_sign_name ct_f_law_sign_name : Value} {a_f_law_side : Addr} {od_f_law_side an_f_law_side : Option Addr} {sl_f_law_side : Array (Option Value)} {oc_f_law_side kV_f_law_side dc_f_law_side pm_f_law_side cd_f_law_side ct_f_law_side : Value} {a_f_law_sign : Addr} {od_f_law_sign an_f_law_sign : Option Addr} {sl_f_law_sign : Array (Option Value)} {oc_f_law_sign kV_f_law_sign dc_f_law_sign pm_f_law_sign cd_f_law_sign ct_f_law_sign : Value} {a_f_law_signs : Addr} {od_f_law_signs an_f_law_signs : Option Addr} {sl_f_law_signs : Array (Option Value)} {oc_f_law_signs kV_f_law_signs dc_f_law_signs pm_f_law_signs cd_f_law_signs ct_f_law_signs : Value} {a_f_law_sign_names : Addr} {od_f_law_sign_names an_f_law_sign_names : Option Addr} {sl_f_law_sign_names : Array (Option Value)} {oc_f_law_sign_names kV_f_law_sign_names dc_f_law_sign_names pm_f_law_sign_names cd_f_law_sign_names ct_f_law_sign_names : Value} {a_f_law_what_of_signs : Addr} {od_f_law_what_of_signs an_f_law_what_of_signs : Option Addr} {sl_f_law_what_of_signs : Array (Option Value)} {oc_f_law_what_of_signs kV_f_law_what_of_signs dc_f_law_what_of_signs pm_f_law_what_of_signs cd_f_law_what_of_signs ct_f_law_what_of_signs : Value} {a_f_law_what_of_marks : Addr} {od_f_law_what_of_marks an_f_law_what_of_marks : Option Addr} {sl_f_law_what_of_marks : Array (Option Value)} {oc_f_law_what_of_marks kV_f_law_what_of_marks dc_f_law_what_of_marks pm_f_law_what_of_marks cd_f_law_what_of_marks ct_f_law_what_of_marks : Value} {a_f_law_what : Addr} {od_f_law_what an_f_law_what : Option Addr} {sl_f_law_what : Array (Option Value)} {oc_f_law_what kV_f_law_what dc_f_law_what pm_f_law_what cd_f_law_what ct_f_law_what : Value} {a_f_law_branch : Addr} {od_f_law_branch an_f_law_branch : Option Addr} {sl_f_law_branch : Array (Option Value)} {oc_f_law_branch kV_f_law_branch dc_f_law_branch pm_f_law_branch cd_f_law_branch ct_f_law_branch : Value} {a_f_law_house : Addr} {od_f_law_house an_f_law_house : Option Addr} {sl_f_law_house : Array (Option Value)} {oc_f_law_house kV_f_law_house dc_f_law_house pm_f_law_house cd_f_law_house ct_f_law_house : Value} {a_f_law_shown_name : Addr} {od_f_law_shown_name an_f_law_shown_name : Option Addr} {sl_f_law_shown_name : Array (Option Value)} {oc_f_law_shown_name kV_f_law_shown_name dc_f_law_shown_name pm_f_law_shown_name cd_f_law_shown_name ct_f_law_shown_name : Value} {a_f_law_shown_sign : Addr} {od_f_law_shown_sign an_f_law_shown_sign : Option Addr} {sl_f_law_shown_sign : Array (Option Value)} {oc_f_law_shown_sign kV_f_law_shown_sign dc_f_law_shown_sign pm_f_law_shown_sign cd_f_law_shown_sign ct_f_law_shown_sign : Value} {a_f_law_shown_side : Addr} {od_f_law_shown_side an_f_law_shown_side : Option Addr} {sl_f_law_shown_side : Array (Option Value)} {oc_f_law_shown_side kV_f_law_shown_side dc_f_law_shown_side pm_f_law_shown_side cd_f_law_shown_side ct_f_law_shown_side : Value} {a_f_law_or_none : Addr} {od_f_law_or_none an_f_law_or_none : Option Addr} {sl_f_law_or_none : Array (Option Value)} {oc_f_law_or_none kV_f_law_or_none dc_f_law_or_none pm_f_law_or_none cd_f_law_or_none ct_f_law_or_none : Value} {a_f_law_shown_what : Addr} {od_f_law_shown_what an_f_law_shown_what : Option Addr} {sl_f_law_shown_what : Array (Option Value)} {oc_f_law_shown_what kV_f_law_shown_what dc_f_law_shown_what pm_f_law_shown_what cd_f_law_shown_what ct_f_law_shown_what : Value} {a_f_law_shown : Addr} {od_f_law_shown an_f_law_shown : Option Addr} {sl_f_law_shown : Array (Option Value)} {oc_f_law_shown kV_f_law_shown dc_f_law_shown pm_f_law_shown cd_f_law_shown ct_f_law_shown : Value} {a_flaw : Addr} {od_flaw an_flaw : Option Addr} {sl_flaw : Array (Option Value)} {oc_flaw kV_flaw dc_flaw pm_flaw cd_flaw ct_flaw : Value}
    (zb_bool : PySem.W.nsIn K mainGlobals "bool" = some none)
    (zb_enumerate : PySem.W.nsIn K mainGlobals "enumerate" = some none)
    (zb_int : PySem.W.nsIn K mainGlobals "int" = some none)
    (zb_isinstance : PySem.W.nsIn K mainGlobals "isinstance" = some none)
    (zb_len : PySem.W.nsIn K mainGlobals "len" = some none)
    (zb_list : PySem.W.nsIn K mainGlobals "list" = some none)
    (zb_max : PySem.W.nsIn K mainGlobals "max" = some none)
    (zb_range : PySem.W.nsIn K mainGlobals "range" = some none)
    (zb_str : PySem.W.nsIn K mainGlobals "str" = some none)
    (zb_tuple : PySem.W.nsIn K mainGlobals "tuple" = some none)
    (z1_fshown_name : PySem.W.nsIn K mainGlobals "shown_name" = some (some (.ref a_fshown_name)))
    (z2_fshown_name : K.lookup a_fshown_name = some ⟨oc_fshown_name, od_fshown_name, .func (PySem.W.fnOf "shown_name" "shown_name" (defArgs s_fshown_name) (defBody s_fshown_name) (defScope s_fshown_name) .none kV_fshown_name dc_fshown_name pm_fshown_name an_fshown_name cd_fshown_name ct_fshown_name), sl_fshown_name⟩)
    (z3_fshown_name : PySem.W.codeIn K cd_fshown_name "shown_name" = true) (z4_fshown_name : PySem.W.keepIn K (.ref a_fshown_name) = true)
    (z1_fshown_counts : PySem.W.nsIn K mainGlobals "shown_counts" = some (some (.ref a_fshown_counts)))
    (z2_fshown_counts : K.lookup a_fshown_counts = some ⟨oc_fshown_counts, od_fshown_counts, .func (PySem.W.fnOf "shown_counts" "shown_counts" (defArgs s_fshown_counts) (defBody s_fshown_counts) (defScope s_fshown_counts) .none kV_fshown_counts dc_fshown_counts pm_fshown_counts an_fshown_counts cd_fshown_counts ct_fshown_counts), sl_fshown_counts⟩)
    (z3_fshown_counts : PySem.W.codeIn K cd_fshown_counts "shown_counts" = true) (z4_fshown_counts : PySem.W.keepIn K (.ref a_fshown_counts) = true)
    (z1_fshown_branch : PySem.W.nsIn K mainGlobals "shown_branch" = some (some (.ref a_fshown_branch)))
    (z2_fshown_branch : K.lookup a_fshown_branch = some ⟨oc_fshown_branch, od_fshown_branch, .func (PySem.W.fnOf "shown_branch" "shown_branch" (defArgs s_fshown_branch) (defBody s_fshown_branch) (defScope s_fshown_branch) .none kV_fshown_branch dc_fshown_branch pm_fshown_branch an_fshown_branch cd_fshown_branch ct_fshown_branch), sl_fshown_branch⟩)
    (z3_fshown_branch : PySem.W.codeIn K cd_fshown_branch "shown_branch" = true) (z4_fshown_branch : PySem.W.keepIn K (.ref a_fshown_branch) = true)
    (z1_fshown_side : PySem.W.nsIn K mainGlobals "shown_side" = some (some (.ref a_fshown_side)))
    (z2_fshown_side : K.lookup a_fshown_side = some ⟨oc_fshown_side, od_fshown_side, .func (PySem.W.fnOf "shown_side" "shown_side" (defArgs s_fshown_side) (defBody s_fshown_side) (defScope s_fshown_side) .none kV_fshown_side dc_fshown_side pm_fshown_side an_fshown_side cd_fshown_side ct_fshown_side), sl_fshown_side⟩)
    (z3_fshown_side : PySem.W.codeIn K cd_fshown_side "shown_side" = true) (z4_fshown_side : PySem.W.keepIn K (.ref a_fshown_side) = true)
    (z1_fshown_sign : PySem.W.nsIn K mainGlobals "shown_sign" = some (some (.ref a_fshown_sign)))
    (z2_fshown_sign : K.lookup a_fshown_sign = some ⟨oc_fshown_sign, od_fshown_sign, .func (PySem.W.fnOf "shown_sign" "shown_sign" (defArgs s_fshown_sign) (defBody s_fshown_sign) (defScope s_fshown_sign) .none kV_fshown_sign dc_fshown_sign pm_fshown_sign an_fshown_sign cd_fshown_sign ct_fshown_sign), sl_fshown_sign⟩)
    (z3_fshown_sign : PySem.W.codeIn K cd_fshown_sign "shown_sign" = true) (z4_fshown_sign : PySem.W.keepIn K (.ref a_fshown_sign) = true)
    (z1_fshown_text : PySem.W.nsIn K mainGlobals "shown_text" = some (some (.ref a_fshown_text)))
    (z2_fshown_text : K.lookup a_fshown_text = some ⟨oc_fshown_text, od_fshown_text, .func (PySem.W.fnOf "shown_text" "shown_text" (defArgs s_fshown_text) (defBody s_fshown_text) (defScope s_fshown_text) .none kV_fshown_text dc_fshown_text pm_fshown_text an_fshown_text cd_fshown_text ct_fshown_text), sl_fshown_text⟩)
    (z3_fshown_text : PySem.W.codeIn K cd_fshown_text "shown_text" = true) (z4_fshown_text : PySem.W.keepIn K (.ref a_fshown_text) = true)
    (z1_fshown_thing : PySem.W.nsIn K mainGlobals "shown_thing" = some (some (.ref a_fshown_thing)))
    (z2_fshown_thing : K.lookup a_fshown_thing = some ⟨oc_fshown_thing, od_fshown_thing, .func (PySem.W.fnOf "shown_thing" "shown_thing" (defArgs s_fshown_thing) (defBody s_fshown_thing) (defScope s_fshown_thing) .none kV_fshown_thing dc_fshown_thing pm_fshown_thing an_fshown_thing cd_fshown_thing ct_fshown_thing), sl_fshown_thing⟩)
    (z3_fshown_thing : PySem.W.codeIn K cd_fshown_thing "shown_thing" = true) (z4_fshown_thing : PySem.W.keepIn K (.ref a_fshown_thing) = true)
    (z1_fwords_of : PySem.W.nsIn K mainGlobals "words_of" = some (some (.ref a_fwords_of)))
    (z2_fwords_of : K.lookup a_fwords_of = some ⟨oc_fwords_of, od_fwords_of, .func (PySem.W.fnOf "words_of" "words_of" (defArgs s_fwords_of) (defBody s_fwords_of) (defScope s_fwords_of) .none kV_fwords_of dc_fwords_of pm_fwords_of an_fwords_of cd_fwords_of ct_fwords_of), sl_fwords_of⟩)
    (z3_fwords_of : PySem.W.codeIn K cd_fwords_of "words_of" = true) (z4_fwords_of : PySem.W.keepIn K (.ref a_fwords_of) = true)
    (z1_fshown_deed : PySem.W.nsIn K mainGlobals "shown_deed" = some (some (.ref a_fshown_deed)))
    (z2_fshown_deed : K.lookup a_fshown_deed = some ⟨oc_fshown_deed, od_fshown_deed, .func (PySem.W.fnOf "shown_deed" "shown_deed" (defArgs s_fshown_deed) (defBody s_fshown_deed) (defScope s_fshown_deed) .none kV_fshown_deed dc_fshown_deed pm_fshown_deed an_fshown_deed cd_fshown_deed ct_fshown_deed), sl_fshown_deed⟩)
    (z3_fshown_deed : PySem.W.codeIn K cd_fshown_deed "shown_deed" = true) (z4_fshown_deed : PySem.W.keepIn K (.ref a_fshown_deed) = true)
    (z1_f_law_draws : PySem.W.nsIn K mainGlobals "_law_draws" = some (some (.ref a_f_law_draws)))
    (z2_f_law_draws : K.lookup a_f_law_draws = some ⟨oc_f_law_draws, od_f_law_draws, .func (PySem.W.fnOf "_law_draws" "_law_draws" (defArgs s_f_law_draws) (defBody s_f_law_draws) (defScope s_f_law_draws) .none kV_f_law_draws dc_f_law_draws pm_f_law_draws an_f_law_draws cd_f_law_draws ct_f_law_draws), sl_f_law_draws⟩)
    (z3_f_law_draws : PySem.W.codeIn K cd_f_law_draws "_law_draws" = true) (z4_f_law_draws : PySem.W.keepIn K (.ref a_f_law_draws) = true)
    (z1_f_law_word : PySem.W.nsIn K mainGlobals "_law_word" = some (some (.ref a_f_law_word)))
    (z2_f_law_word : K.lookup a_f_law_word = some ⟨oc_f_law_word, od_f_law_word, .func (PySem.W.fnOf "_law_word" "_law_word" (defArgs s_f_law_word) (defBody s_f_law_word) (defScope s_f_law_word) .none kV_f_law_word dc_f_law_word pm_f_law_word an_f_law_word cd_f_law_word ct_f_law_word), sl_f_law_word⟩)
    (z3_f_law_word : PySem.W.codeIn K cd_f_law_word "_law_word" = true) (z4_f_law_word : PySem.W.keepIn K (.ref a_f_law_word) = true)
    (z1_f_law_roll : PySem.W.nsIn K mainGlobals "_law_roll" = some (some (.ref a_f_law_roll)))
    (z2_f_law_roll : K.lookup a_f_law_roll = some ⟨oc_f_law_roll, od_f_law_roll, .func (PySem.W.fnOf "_law_roll" "_law_roll" (defArgs s_f_law_roll) (defBody s_f_law_roll) (defScope s_f_law_roll) .none kV_f_law_roll dc_f_law_roll pm_f_law_roll an_f_law_roll cd_f_law_roll ct_f_law_roll), sl_f_law_roll⟩)
    (z3_f_law_roll : PySem.W.codeIn K cd_f_law_roll "_law_roll" = true) (z4_f_law_roll : PySem.W.keepIn K (.ref a_f_law_roll) = true)
    (z1_f_law_name : PySem.W.nsIn K mainGlobals "_law_name" = some (some (.ref a_f_law_name)))
    (z2_f_law_name : K.lookup a_f_law_name = some ⟨oc_f_law_name, od_f_law_name, .func (PySem.W.fnOf "_law_name" "_law_name" (defArgs s_f_law_name) (defBody s_f_law_name) (defScope s_f_law_name) .none kV_f_law_name dc_f_law_name pm_f_law_name an_f_law_name cd_f_law_name ct_f_law_name), sl_f_law_name⟩)
    (z3_f_law_name : PySem.W.codeIn K cd_f_law_name "_law_name" = true) (z4_f_law_name : PySem.W.keepIn K (.ref a_f_law_name) = true)
    (z1_f_law_part : PySem.W.nsIn K mainGlobals "_law_part" = some (some (.ref a_f_law_part)))
    (z2_f_law_part : K.lookup a_f_law_part = some ⟨oc_f_law_part, od_f_law_part, .func (PySem.W.fnOf "_law_part" "_law_part" (defArgs s_f_law_part) (defBody s_f_law_part) (defScope s_f_law_part) .none kV_f_law_part dc_f_law_part pm_f_law_part an_f_law_part cd_f_law_part ct_f_law_part), sl_f_law_part⟩)
    (z3_f_law_part : PySem.W.codeIn K cd_f_law_part "_law_part" = true) (z4_f_law_part : PySem.W.keepIn K (.ref a_f_law_part) = true)
    (z1_f_law_sign_name : PySem.W.nsIn K mainGlobals "_law_sign_name" = some (some (.ref a_f_law_sign_name)))
    (z2_f_law_sign_name : K.lookup a_f_law_sign_name = some ⟨oc_f_law_sign_name, od_f_law_sign_name, .func (PySem.W.fnOf "_law_sign_name" "_law_sign_name" (defArgs s_f_law_sign_name) (defBody s_f_law_sign_name) (defScope s_f_law_sign_name) .none kV_f_law_sign_name dc_f_law_sign_name pm_f_law_sign_name an_f_law_sign_name cd_f_law_sign_name ct_f_law_sign_name), sl_f_law_sign_name⟩)
    (z3_f_law_sign_name : PySem.W.codeIn K cd_f_law_sign_name "_law_sign_name" = true) (z4_f_law_sign_name : PySem.W.keepIn K (.ref a_f_law_sign_name) = true)
    (z1_f_law_side : PySem.W.nsIn K mainGlobals "_law_side" = some (some (.ref a_f_law_side)))
    (z2_f_law_side : K.lookup a_f_law_side = some ⟨oc_f_law_side, od_f_law_side, .func (PySem.W.fnOf "_law_side" "_law_side" (defArgs s_f_law_side) (defBody s_f_law_side) (defScope s_f_law_side) .none kV_f_law_side dc_f_law_side pm_f_law_side an_f_law_side cd_f_law_side ct_f_law_side), sl_f_law_side⟩)
    (z3_f_law_side : PySem.W.codeIn K cd_f_law_side "_law_side" = true) (z4_f_law_side : PySem.W.keepIn K (.ref a_f_law_side) = true)
    (z1_f_law_sign : PySem.W.nsIn K mainGlobals "_law_sign" = some (some (.ref a_f_law_sign)))
    (z2_f_law_sign : K.lookup a_f_law_sign = some ⟨oc_f_law_sign, od_f_law_sign, .func (PySem.W.fnOf "_law_sign" "_law_sign" (defArgs s_f_law_sign) (defBody s_f_law_sign) (defScope s_f_law_sign) .none kV_f_law_sign dc_f_law_sign pm_f_law_sign an_f_law_sign cd_f_law_sign ct_f_law_sign), sl_f_law_sign⟩)
    (z3_f_law_sign : PySem.W.codeIn K cd_f_law_sign "_law_sign" = true) (z4_f_law_sign : PySem.W.keepIn K (.ref a_f_law_sign) = true)
    (z1_f_law_signs : PySem.W.nsIn K mainGlobals "_law_signs" = some (some (.ref a_f_law_signs)))
    (z2_f_law_signs : K.lookup a_f_law_signs = some ⟨oc_f_law_signs, od_f_law_signs, .func (PySem.W.fnOf "_law_signs" "_law_signs" (defArgs s_f_law_signs) (defBody s_f_law_signs) (defScope s_f_law_signs) .none kV_f_law_signs dc_f_law_signs pm_f_law_signs an_f_law_signs cd_f_law_signs ct_f_law_signs), sl_f_law_signs⟩)
    (z3_f_law_signs : PySem.W.codeIn K cd_f_law_signs "_law_signs" = true) (z4_f_law_signs : PySem.W.keepIn K (.ref a_f_law_signs) = true)
    (z1_f_law_sign_names : PySem.W.nsIn K mainGlobals "_law_sign_names" = some (some (.ref a_f_law_sign_names)))
    (z2_f_law_sign_names : K.lookup a_f_law_sign_names = some ⟨oc_f_law_sign_names, od_f_law_sign_names, .func (PySem.W.fnOf "_law_sign_names" "_law_sign_names" (defArgs s_f_law_sign_names) (defBody s_f_law_sign_names) (defScope s_f_law_sign_names) .none kV_f_law_sign_names dc_f_law_sign_names pm_f_law_sign_names an_f_law_sign_names cd_f_law_sign_names ct_f_law_sign_names), sl_f_law_sign_names⟩)
    (z3_f_law_sign_names : PySem.W.codeIn K cd_f_law_sign_names "_law_sign_names" = true) (z4_f_law_sign_names : PySem.W.keepIn K (.ref a_f_law_sign_names) = true)
    (z1_f_law_what_of_signs : PySem.W.nsIn K mainGlobals "_law_what_of_signs" = some (some (.ref a_f_law_what_of_signs)))
    (z2_f_law_what_of_signs : K.lookup a_f_law_what_of_signs = some ⟨oc_f_law_what_of_signs, od_f_law_what_of_signs, .func (PySem.W.fnOf "_law_what_of_signs" "_law_what_of_signs" (defArgs s_f_law_what_of_signs) (defBody s_f_law_what_of_signs) (defScope s_f_law_what_of_signs) .none kV_f_law_what_of_signs dc_f_law_what_of_signs pm_f_law_what_of_signs an_f_law_what_of_signs cd_f_law_what_of_signs ct_f_law_what_of_signs), sl_f_law_what_of_signs⟩)
    (z3_f_law_what_of_signs : PySem.W.codeIn K cd_f_law_what_of_signs "_law_what_of_signs" = true) (z4_f_law_what_of_signs : PySem.W.keepIn K (.ref a_f_law_what_of_signs) = true)
    (z1_f_law_what_of_marks : PySem.W.nsIn K mainGlobals "_law_what_of_marks" = some (some (.ref a_f_law_what_of_marks)))
    (z2_f_law_what_of_marks : K.lookup a_f_law_what_of_marks = some ⟨oc_f_law_what_of_marks, od_f_law_what_of_marks, .func (PySem.W.fnOf "_law_what_of_marks" "_law_what_of_marks" (defArgs s_f_law_what_of_marks) (defBody s_f_law_what_of_marks) (defScope s_f_law_what_of_marks) .none kV_f_law_what_of_marks dc_f_law_what_of_marks pm_f_law_what_of_marks an_f_law_what_of_marks cd_f_law_what_of_marks ct_f_law_what_of_marks), sl_f_law_what_of_marks⟩)
    (z3_f_law_what_of_marks : PySem.W.codeIn K cd_f_law_what_of_marks "_law_what_of_marks" = true) (z4_f_law_what_of_marks : PySem.W.keepIn K (.ref a_f_law_what_of_marks) = true)
    (z1_f_law_what : PySem.W.nsIn K mainGlobals "_law_what" = some (some (.ref a_f_law_what)))
    (z2_f_law_what : K.lookup a_f_law_what = some ⟨oc_f_law_what, od_f_law_what, .func (PySem.W.fnOf "_law_what" "_law_what" (defArgs s_f_law_what) (defBody s_f_law_what) (defScope s_f_law_what) .none kV_f_law_what dc_f_law_what pm_f_law_what an_f_law_what cd_f_law_what ct_f_law_what), sl_f_law_what⟩)
    (z3_f_law_what : PySem.W.codeIn K cd_f_law_what "_law_what" = true) (z4_f_law_what : PySem.W.keepIn K (.ref a_f_law_what) = true)
    (z1_f_law_branch : PySem.W.nsIn K mainGlobals "_law_branch" = some (some (.ref a_f_law_branch)))
    (z2_f_law_branch : K.lookup a_f_law_branch = some ⟨oc_f_law_branch, od_f_law_branch, .func (PySem.W.fnOf "_law_branch" "_law_branch" (defArgs s_f_law_branch) (defBody s_f_law_branch) (defScope s_f_law_branch) .none kV_f_law_branch dc_f_law_branch pm_f_law_branch an_f_law_branch cd_f_law_branch ct_f_law_branch), sl_f_law_branch⟩)
    (z3_f_law_branch : PySem.W.codeIn K cd_f_law_branch "_law_branch" = true) (z4_f_law_branch : PySem.W.keepIn K (.ref a_f_law_branch) = true)
    (z1_f_law_house : PySem.W.nsIn K mainGlobals "_law_house" = some (some (.ref a_f_law_house)))
    (z2_f_law_house : K.lookup a_f_law_house = some ⟨oc_f_law_house, od_f_law_house, .func (PySem.W.fnOf "_law_house" "_law_house" (defArgs s_f_law_house) (defBody s_f_law_house) (defScope s_f_law_house) .none kV_f_law_house dc_f_law_house pm_f_law_house an_f_law_house cd_f_law_house ct_f_law_house), sl_f_law_house⟩)
    (z3_f_law_house : PySem.W.codeIn K cd_f_law_house "_law_house" = true) (z4_f_law_house : PySem.W.keepIn K (.ref a_f_law_house) = true)
    (z1_f_law_shown_name : PySem.W.nsIn K mainGlobals "_law_shown_name" = some (some (.ref a_f_law_shown_name)))
    (z2_f_law_shown_name : K.lookup a_f_law_shown_name = some ⟨oc_f_law_shown_name, od_f_law_shown_name, .func (PySem.W.fnOf "_law_shown_name" "_law_shown_name" (defArgs s_f_law_shown_name) (defBody s_f_law_shown_name) (defScope s_f_law_shown_name) .none kV_f_law_shown_name dc_f_law_shown_name pm_f_law_shown_name an_f_law_shown_name cd_f_law_shown_name ct_f_law_shown_name), sl_f_law_shown_name⟩)
    (z3_f_law_shown_name : PySem.W.codeIn K cd_f_law_shown_name "_law_shown_name" = true) (z4_f_law_shown_name : PySem.W.keepIn K (.ref a_f_law_shown_name) = true)
    (z1_f_law_shown_sign : PySem.W.nsIn K mainGlobals "_law_shown_sign" = some (some (.ref a_f_law_shown_sign)))
    (z2_f_law_shown_sign : K.lookup a_f_law_shown_sign = some ⟨oc_f_law_shown_sign, od_f_law_shown_sign, .func (PySem.W.fnOf "_law_shown_sign" "_law_shown_sign" (defArgs s_f_law_shown_sign) (defBody s_f_law_shown_sign) (defScope s_f_law_shown_sign) .none kV_f_law_shown_sign dc_f_law_shown_sign pm_f_law_shown_sign an_f_law_shown_sign cd_f_law_shown_sign ct_f_law_shown_sign), sl_f_law_shown_sign⟩)
    (z3_f_law_shown_sign : PySem.W.codeIn K cd_f_law_shown_sign "_law_shown_sign" = true) (z4_f_law_shown_sign : PySem.W.keepIn K (.ref a_f_law_shown_sign) = true)
    (z1_f_law_shown_side : PySem.W.nsIn K mainGlobals "_law_shown_side" = some (some (.ref a_f_law_shown_side)))
    (z2_f_law_shown_side : K.lookup a_f_law_shown_side = some ⟨oc_f_law_shown_side, od_f_law_shown_side, .func (PySem.W.fnOf "_law_shown_side" "_law_shown_side" (defArgs s_f_law_shown_side) (defBody s_f_law_shown_side) (defScope s_f_law_shown_side) .none kV_f_law_shown_side dc_f_law_shown_side pm_f_law_shown_side an_f_law_shown_side cd_f_law_shown_side ct_f_law_shown_side), sl_f_law_shown_side⟩)
    (z3_f_law_shown_side : PySem.W.codeIn K cd_f_law_shown_side "_law_shown_side" = true) (z4_f_law_shown_side : PySem.W.keepIn K (.ref a_f_law_shown_side) = true)
    (z1_f_law_or_none : PySem.W.nsIn K mainGlobals "_law_or_none" = some (some (.ref a_f_law_or_none)))
    (z2_f_law_or_none : K.lookup a_f_law_or_none = some ⟨oc_f_law_or_none, od_f_law_or_none, .func (PySem.W.fnOf "_law_or_none" "_law_or_none" (defArgs s_f_law_or_none) (defBody s_f_law_or_none) (defScope s_f_law_or_none) .none kV_f_law_or_none dc_f_law_or_none pm_f_law_or_none an_f_law_or_none cd_f_law_or_none ct_f_law_or_none), sl_f_law_or_none⟩)
    (z3_f_law_or_none : PySem.W.codeIn K cd_f_law_or_none "_law_or_none" = true) (z4_f_law_or_none : PySem.W.keepIn K (.ref a_f_law_or_none) = true)
    (z1_f_law_shown_what : PySem.W.nsIn K mainGlobals "_law_shown_what" = some (some (.ref a_f_law_shown_what)))
    (z2_f_law_shown_what : K.lookup a_f_law_shown_what = some ⟨oc_f_law_shown_what, od_f_law_shown_what, .func (PySem.W.fnOf "_law_shown_what" "_law_shown_what" (defArgs s_f_law_shown_what) (defBody s_f_law_shown_what) (defScope s_f_law_shown_what) .none kV_f_law_shown_what dc_f_law_shown_what pm_f_law_shown_what an_f_law_shown_what cd_f_law_shown_what ct_f_law_shown_what), sl_f_law_shown_what⟩)
    (z3_f_law_shown_what : PySem.W.codeIn K cd_f_law_shown_what "_law_shown_what" = true) (z4_f_law_shown_what : PySem.W.keepIn K (.ref a_f_law_shown_what) = true)
    (z1_f_law_shown : PySem.W.nsIn K mainGlobals "_law_shown" = some (some (.ref a_f_law_shown)))
    (z2_f_law_shown : K.lookup a_f_law_shown = some ⟨oc_f_law_shown, od_f_law_shown, .func (PySem.W.fnOf "_law_shown" "_law_shown" (defArgs s_f_law_shown) (defBody s_f_law_shown) (defScope s_f_law_shown) .none kV_f_law_shown dc_f_law_shown pm_f_law_shown an_f_law_shown cd_f_law_shown ct_f_law_shown), sl_f_law_shown⟩)
    (z3_f_law_shown : PySem.W.codeIn K cd_f_law_shown "_law_shown" = true) (z4_f_law_shown : PySem.W.keepIn K (.ref a_f_law_shown) = true)
    (z1_flaw : PySem.W.nsIn K mainGlobals "law" = some (some (.ref a_flaw)))
    (z2_flaw : K.lookup a_flaw = some ⟨oc_flaw, od_flaw, .func (PySem.W.fnOf "law" "law" (defArgs s_flaw) (defBody s_flaw) (defScope s_flaw) .none kV_flaw dc_flaw pm_flaw an_flaw cd_flaw ct_flaw), sl_flaw⟩)
    (z3_flaw : PySem.W.codeIn K cd_flaw "law" = true) (z4_flaw : PySem.W.keepIn K (.ref a_flaw) = true) :
    ∃ fd : FuncData, (∀ (s : Shared) (v : Value), BindsTo s fd ⟨[v], []⟩ [("_law_script", v)]) ∧ ∀ base : Heap, K.In base → base.Ns mainGlobals mg → FnOk l.prog w K mg base CX0 8 fa fd ["_law_script"] (sp_flaw K) := by
  have e := hfa.symm.trans (PySem.W.mg_of X G z1_flaw)
  cases e
  have T : Txt K mg ⟨a_fshown_name, PySem.W.fnOf "shown_name" "shown_name" (defArgs s_fshown_name) (defBody s_fshown_name) (defScope s_fshown_name) .none kV_fshown_name dc_fshown_name pm_fshown_name an_fshown_name cd_fshown_name ct_fshown_name, a_fshown_counts, PySem.W.fnOf "shown_counts" "shown_counts" (defArgs s_fshown_counts) (defBody s_fshown_counts) (defScope s_fshown_counts) .none kV_fshown_counts dc_fshown_counts pm_fshown_counts an_fshown_counts cd_fshown_counts ct_fshown_counts, a_fshown_branch, PySem.W.fnOf "shown_branch" "shown_branch" (defArgs s_fshown_branch) (defBody s_fshown_branch) (defScope s_fshown_branch) .none kV_fshown_branch dc_fshown_branch pm_fshown_branch an_fshown_branch cd_fshown_branch ct_fshown_branch, a_fshown_side, PySem.W.fnOf "shown_side" "shown_side" (defArgs s_fshown_side) (defBody s_fshown_side) (defScope s_fshown_side) .none kV_fshown_side dc_fshown_side pm_fshown_side an_fshown_side cd_fshown_side ct_fshown_side, a_fshown_sign, PySem.W.fnOf "shown_sign" "shown_sign" (defArgs s_fshown_sign) (defBody s_fshown_sign) (defScope s_fshown_sign) .none kV_fshown_sign dc_fshown_sign pm_fshown_sign an_fshown_sign cd_fshown_sign ct_fshown_sign, a_fshown_text, PySem.W.fnOf "shown_text" "shown_text" (defArgs s_fshown_text) (defBody s_fshown_text) (defScope s_fshown_text) .none kV_fshown_text dc_fshown_text pm_fshown_text an_fshown_text cd_fshown_text ct_fshown_text, a_fshown_thing, PySem.W.fnOf "shown_thing" "shown_thing" (defArgs s_fshown_thing) (defBody s_fshown_thing) (defScope s_fshown_thing) .none kV_fshown_thing dc_fshown_thing pm_fshown_thing an_fshown_thing cd_fshown_thing ct_fshown_thing, a_fwords_of, PySem.W.fnOf "words_of" "words_of" (defArgs s_fwords_of) (defBody s_fwords_of) (defScope s_fwords_of) .none kV_fwords_of dc_fwords_of pm_fwords_of an_fwords_of cd_fwords_of ct_fwords_of, a_fshown_deed, PySem.W.fnOf "shown_deed" "shown_deed" (defArgs s_fshown_deed) (defBody s_fshown_deed) (defScope s_fshown_deed) .none kV_fshown_deed dc_fshown_deed pm_fshown_deed an_fshown_deed cd_fshown_deed ct_fshown_deed, a_f_law_draws, PySem.W.fnOf "_law_draws" "_law_draws" (defArgs s_f_law_draws) (defBody s_f_law_draws) (defScope s_f_law_draws) .none kV_f_law_draws dc_f_law_draws pm_f_law_draws an_f_law_draws cd_f_law_draws ct_f_law_draws, a_f_law_word, PySem.W.fnOf "_law_word" "_law_word" (defArgs s_f_law_word) (defBody s_f_law_word) (defScope s_f_law_word) .none kV_f_law_word dc_f_law_word pm_f_law_word an_f_law_word cd_f_law_word ct_f_law_word, a_f_law_roll, PySem.W.fnOf "_law_roll" "_law_roll" (defArgs s_f_law_roll) (defBody s_f_law_roll) (defScope s_f_law_roll) .none kV_f_law_roll dc_f_law_roll pm_f_law_roll an_f_law_roll cd_f_law_roll ct_f_law_roll, a_f_law_name, PySem.W.fnOf "_law_name" "_law_name" (defArgs s_f_law_name) (defBody s_f_law_name) (defScope s_f_law_name) .none kV_f_law_name dc_f_law_name pm_f_law_name an_f_law_name cd_f_law_name ct_f_law_name, a_f_law_part, PySem.W.fnOf "_law_part" "_law_part" (defArgs s_f_law_part) (defBody s_f_law_part) (defScope s_f_law_part) .none kV_f_law_part dc_f_law_part pm_f_law_part an_f_law_part cd_f_law_part ct_f_law_part, a_f_law_sign_name, PySem.W.fnOf "_law_sign_name" "_law_sign_name" (defArgs s_f_law_sign_name) (defBody s_f_law_sign_name) (defScope s_f_law_sign_name) .none kV_f_law_sign_name dc_f_law_sign_name pm_f_law_sign_name an_f_law_sign_name cd_f_law_sign_name ct_f_law_sign_name, a_f_law_side, PySem.W.fnOf "_law_side" "_law_side" (defArgs s_f_law_side) (defBody s_f_law_side) (defScope s_f_law_side) .none kV_f_law_side dc_f_law_side pm_f_law_side an_f_law_side cd_f_law_side ct_f_law_side, a_f_law_sign, PySem.W.fnOf "_law_sign" "_law_sign" (defArgs s_f_law_sign) (defBody s_f_law_sign) (defScope s_f_law_sign) .none kV_f_law_sign dc_f_law_sign pm_f_law_sign an_f_law_sign cd_f_law_sign ct_f_law_sign, a_f_law_signs, PySem.W.fnOf "_law_signs" "_law_signs" (defArgs s_f_law_signs) (defBody s_f_law_signs) (defScope s_f_law_signs) .none kV_f_law_signs dc_f_law_signs pm_f_law_signs an_f_law_signs cd_f_law_signs ct_f_law_signs, a_f_law_sign_names, PySem.W.fnOf "_law_sign_names" "_law_sign_names" (defArgs s_f_law_sign_names) (defBody s_f_law_sign_names) (defScope s_f_law_sign_names) .none kV_f_law_sign_names dc_f_law_sign_names pm_f_law_sign_names an_f_law_sign_names cd_f_law_sign_names ct_f_law_sign_names, a_f_law_what_of_signs, PySem.W.fnOf "_law_what_of_signs" "_law_what_of_signs" (defArgs s_f_law_what_of_signs) (defBody s_f_law_what_of_signs) (defScope s_f_law_what_of_signs) .none kV_f_law_what_of_signs dc_f_law_what_of_signs pm_f_law_what_of_signs an_f_law_what_of_signs cd_f_law_what_of_signs ct_f_law_what_of_signs, a_f_law_what_of_marks, PySem.W.fnOf "_law_what_of_marks" "_law_what_of_marks" (defArgs s_f_law_what_of_marks) (defBody s_f_law_what_of_marks) (defScope s_f_law_what_of_marks) .none kV_f_law_what_of_marks dc_f_law_what_of_marks pm_f_law_what_of_marks an_f_law_what_of_marks cd_f_law_what_of_marks ct_f_law_what_of_marks, a_f_law_what, PySem.W.fnOf "_law_what" "_law_what" (defArgs s_f_law_what) (defBody s_f_law_what) (defScope s_f_law_what) .none kV_f_law_what dc_f_law_what pm_f_law_what an_f_law_what cd_f_law_what ct_f_law_what, a_f_law_branch, PySem.W.fnOf "_law_branch" "_law_branch" (defArgs s_f_law_branch) (defBody s_f_law_branch) (defScope s_f_law_branch) .none kV_f_law_branch dc_f_law_branch pm_f_law_branch an_f_law_branch cd_f_law_branch ct_f_law_branch, a_f_law_house, PySem.W.fnOf "_law_house" "_law_house" (defArgs s_f_law_house) (defBody s_f_law_house) (defScope s_f_law_house) .none kV_f_law_house dc_f_law_house pm_f_law_house an_f_law_house cd_f_law_house ct_f_law_house, a_f_law_shown_name, PySem.W.fnOf "_law_shown_name" "_law_shown_name" (defArgs s_f_law_shown_name) (defBody s_f_law_shown_name) (defScope s_f_law_shown_name) .none kV_f_law_shown_name dc_f_law_shown_name pm_f_law_shown_name an_f_law_shown_name cd_f_law_shown_name ct_f_law_shown_name, a_f_law_shown_sign, PySem.W.fnOf "_law_shown_sign" "_law_shown_sign" (defArgs s_f_law_shown_sign) (defBody s_f_law_shown_sign) (defScope s_f_law_shown_sign) .none kV_f_law_shown_sign dc_f_law_shown_sign pm_f_law_shown_sign an_f_law_shown_sign cd_f_law_shown_sign ct_f_law_shown_sign, a_f_law_shown_side, PySem.W.fnOf "_law_shown_side" "_law_shown_side" (defArgs s_f_law_shown_side) (defBody s_f_law_shown_side) (defScope s_f_law_shown_side) .none kV_f_law_shown_side dc_f_law_shown_side pm_f_law_shown_side an_f_law_shown_side cd_f_law_shown_side ct_f_law_shown_side, a_f_law_or_none, PySem.W.fnOf "_law_or_none" "_law_or_none" (defArgs s_f_law_or_none) (defBody s_f_law_or_none) (defScope s_f_law_or_none) .none kV_f_law_or_none dc_f_law_or_none pm_f_law_or_none an_f_law_or_none cd_f_law_or_none ct_f_law_or_none, a_f_law_shown_what, PySem.W.fnOf "_law_shown_what" "_law_shown_what" (defArgs s_f_law_shown_what) (defBody s_f_law_shown_what) (defScope s_f_law_shown_what) .none kV_f_law_shown_what dc_f_law_shown_what pm_f_law_shown_what an_f_law_shown_what cd_f_law_shown_what ct_f_law_shown_what, a_f_law_shown, PySem.W.fnOf "_law_shown" "_law_shown" (defArgs s_f_law_shown) (defBody s_f_law_shown) (defScope s_f_law_shown) .none kV_f_law_shown dc_f_law_shown pm_f_law_shown an_f_law_shown cd_f_law_shown ct_f_law_shown, fa, PySem.W.fnOf "law" "law" (defArgs s_flaw) (defBody s_flaw) (defScope s_flaw) .none kV_flaw dc_flaw pm_flaw an_flaw cd_flaw ct_flaw⟩ (fun x => 0) := by
    refine ⟨PySem.W.mg_none_of X G zb_bool, PySem.W.mg_none_of X G zb_enumerate, PySem.W.mg_none_of X G zb_int, PySem.W.mg_none_of X G zb_isinstance, PySem.W.mg_none_of X G zb_len, PySem.W.mg_none_of X G zb_list, PySem.W.mg_none_of X G zb_max, PySem.W.mg_none_of X G zb_range, PySem.W.mg_none_of X G zb_str, PySem.W.mg_none_of X G zb_tuple, fun_mk (st := s_fshown_name) z2_fshown_name z3_fshown_name z4_fshown_name, PySem.W.mg_of X G z1_fshown_name, z4_fshown_name, (fun_mk (st := s_fshown_name) z2_fshown_name z3_fshown_name z4_fshown_name).binds (ps := ["name"]) fun _ _ _ _ _ _ us hl => match us, hl with | [_], _ => rfl, fun_mk (st := s_fshown_counts) z2_fshown_counts z3_fshown_counts z4_fshown_counts, PySem.W.mg_of X G z1_fshown_counts, z4_fshown_counts, (fun_mk (st := s_fshown_counts) z2_fshown_counts z3_fshown_counts z4_fshown_counts).binds (ps := ["counts"]) fun _ _ _ _ _ _ us hl => match us, hl with | [_], _ => rfl, fun_mk (st := s_fshown_branch) z2_fshown_branch z3_fshown_branch z4_fshown_branch, PySem.W.mg_of X G z1_fshown_branch, z4_fshown_branch, (fun_mk (st := s_fshown_branch) z2_fshown_branch z3_fshown_branch z4_fshown_branch).binds (ps := ["branch"]) fun _ _ _ _ _ _ us hl => match us, hl with | [_], _ => rfl, fun_mk (st := s_fshown_side) z2_fshown_side z3_fshown_side z4_fshown_side, PySem.W.mg_of X G z1_fshown_side, z4_fshown_side, (fun_mk (st := s_fshown_side) z2_fshown_side z3_fshown_side z4_fshown_side).binds (ps := ["side"]) fun _ _ _ _ _ _ us hl => match us, hl with | [_], _ => rfl, fun_mk (st := s_fshown_sign) z2_fshown_sign z3_fshown_sign z4_fshown_sign, PySem.W.mg_of X G z1_fshown_sign, z4_fshown_sign, (fun_mk (st := s_fshown_sign) z2_fshown_sign z3_fshown_sign z4_fshown_sign).binds (ps := ["sign"]) fun _ _ _ _ _ _ us hl => match us, hl with | [_], _ => rfl, fun_mk (st := s_fshown_text) z2_fshown_text z3_fshown_text z4_fshown_text, PySem.W.mg_of X G z1_fshown_text, z4_fshown_text, (fun_mk (st := s_fshown_text) z2_fshown_text z3_fshown_text z4_fshown_text).binds (ps := ["text"]) fun _ _ _ _ _ _ us hl => match us, hl with | [_], _ => rfl, fun_mk (st := s_fshown_thing) z2_fshown_thing z3_fshown_thing z4_fshown_thing, PySem.W.mg_of X G z1_fshown_thing, z4_fshown_thing, (fun_mk (st := s_fshown_thing) z2_fshown_thing z3_fshown_thing z4_fshown_thing).binds (ps := ["thing"]) fun _ _ _ _ _ _ us hl => match us, hl with | [_], _ => rfl, fun_mk (st := s_fwords_of) z2_fwords_of z3_fwords_of z4_fwords_of, PySem.W.mg_of X G z1_fwords_of, z4_fwords_of, (fun_mk (st := s_fwords_of) z2_fwords_of z3_fwords_of z4_fwords_of).binds (ps := ["what"]) fun _ _ _ _ _ _ us hl => match us, hl with | [_], _ => rfl, fun_mk (st := s_fshown_deed) z2_fshown_deed z3_fshown_deed z4_fshown_deed, PySem.W.mg_of X G z1_fshown_deed, z4_fshown_deed, (fun_mk (st := s_fshown_deed) z2_fshown_deed z3_fshown_deed z4_fshown_deed).binds (ps := ["deed"]) fun _ _ _ _ _ _ us hl => match us, hl with | [_], _ => rfl, fun_mk (st := s_f_law_draws) z2_f_law_draws z3_f_law_draws z4_f_law_draws, PySem.W.mg_of X G z1_f_law_draws, z4_f_law_draws, (fun_mk (st := s_f_law_draws) z2_f_law_draws z3_f_law_draws z4_f_law_draws).binds (ps := ["_law_cell", "_law_many"]) fun _ _ _ _ _ _ us hl => match us, hl with | [_, _], _ => rfl, fun_mk (st := s_f_law_word) z2_f_law_word z3_f_law_word z4_f_law_word, PySem.W.mg_of X G z1_f_law_word, z4_f_law_word, (fun_mk (st := s_f_law_word) z2_f_law_word z3_f_law_word z4_f_law_word).binds (ps := ["_law_number"]) fun _ _ _ _ _ _ us hl => match us, hl with | [_], _ => rfl, fun_mk (st := s_f_law_roll) z2_f_law_roll z3_f_law_roll z4_f_law_roll, PySem.W.mg_of X G z1_f_law_roll, z4_f_law_roll, (fun_mk (st := s_f_law_roll) z2_f_law_roll z3_f_law_roll z4_f_law_roll).binds (ps := ["_law_cell"]) fun _ _ _ _ _ _ us hl => match us, hl with | [_], _ => rfl, fun_mk (st := s_f_law_name) z2_f_law_name z3_f_law_name z4_f_law_name, PySem.W.mg_of X G z1_f_law_name, z4_f_law_name, (fun_mk (st := s_f_law_name) z2_f_law_name z3_f_law_name z4_f_law_name).binds (ps := ["_law_number", "_law_roll_here"]) fun _ _ _ _ _ _ us hl => match us, hl with | [_, _], _ => rfl, fun_mk (st := s_f_law_part) z2_f_law_part z3_f_law_part z4_f_law_part, PySem.W.mg_of X G z1_f_law_part, z4_f_law_part, (fun_mk (st := s_f_law_part) z2_f_law_part z3_f_law_part z4_f_law_part).binds (ps := ["_law_number", "_law_roll_here"]) fun _ _ _ _ _ _ us hl => match us, hl with | [_, _], _ => rfl, fun_mk (st := s_f_law_sign_name) z2_f_law_sign_name z3_f_law_sign_name z4_f_law_sign_name, PySem.W.mg_of X G z1_f_law_sign_name, z4_f_law_sign_name, (fun_mk (st := s_f_law_sign_name) z2_f_law_sign_name z3_f_law_sign_name z4_f_law_sign_name).binds (ps := ["_law_number", "_law_roll_here"]) fun _ _ _ _ _ _ us hl => match us, hl with | [_, _], _ => rfl, fun_mk (st := s_f_law_side) z2_f_law_side z3_f_law_side z4_f_law_side, PySem.W.mg_of X G z1_f_law_side, z4_f_law_side, (fun_mk (st := s_f_law_side) z2_f_law_side z3_f_law_side z4_f_law_side).binds (ps := ["_law_number", "_law_roll_here"]) fun _ _ _ _ _ _ us hl => match us, hl with | [_, _], _ => rfl, fun_mk (st := s_f_law_sign) z2_f_law_sign z3_f_law_sign z4_f_law_sign, PySem.W.mg_of X G z1_f_law_sign, z4_f_law_sign, (fun_mk (st := s_f_law_sign) z2_f_law_sign z3_f_law_sign z4_f_law_sign).binds (ps := ["_law_number", "_law_roll_here"]) fun _ _ _ _ _ _ us hl => match us, hl with | [_, _], _ => rfl, fun_mk (st := s_f_law_signs) z2_f_law_signs z3_f_law_signs z4_f_law_signs, PySem.W.mg_of X G z1_f_law_signs, z4_f_law_signs, (fun_mk (st := s_f_law_signs) z2_f_law_signs z3_f_law_signs z4_f_law_signs).binds (ps := ["_law_draws_here", "_law_roll_here"]) fun _ _ _ _ _ _ us hl => match us, hl with | [_, _], _ => rfl, fun_mk (st := s_f_law_sign_names) z2_f_law_sign_names z3_f_law_sign_names z4_f_law_sign_names, PySem.W.mg_of X G z1_f_law_sign_names, z4_f_law_sign_names, (fun_mk (st := s_f_law_sign_names) z2_f_law_sign_names z3_f_law_sign_names z4_f_law_sign_names).binds (ps := ["_law_draws_here", "_law_roll_here"]) fun _ _ _ _ _ _ us hl => match us, hl with | [_, _], _ => rfl, fun_mk (st := s_f_law_what_of_signs) z2_f_law_what_of_signs z3_f_law_what_of_signs z4_f_law_what_of_signs, PySem.W.mg_of X G z1_f_law_what_of_signs, z4_f_law_what_of_signs, (fun_mk (st := s_f_law_what_of_signs) z2_f_law_what_of_signs z3_f_law_what_of_signs z4_f_law_what_of_signs).binds (ps := ["_law_kind", "_law_more", "_law_roll_here"]) fun _ _ _ _ _ _ us hl => match us, hl with | [_, _, _], _ => rfl, fun_mk (st := s_f_law_what_of_marks) z2_f_law_what_of_marks z3_f_law_what_of_marks z4_f_law_what_of_marks, PySem.W.mg_of X G z1_f_law_what_of_marks, z4_f_law_what_of_marks, (fun_mk (st := s_f_law_what_of_marks) z2_f_law_what_of_marks z3_f_law_what_of_marks z4_f_law_what_of_marks).binds (ps := ["_law_kind", "_law_more", "_law_roll_here"]) fun _ _ _ _ _ _ us hl => match us, hl with | [_, _, _], _ => rfl, fun_mk (st := s_f_law_what) z2_f_law_what z3_f_law_what z4_f_law_what, PySem.W.mg_of X G z1_f_law_what, z4_f_law_what, (fun_mk (st := s_f_law_what) z2_f_law_what z3_f_law_what z4_f_law_what).binds (ps := ["_law_draws_here", "_law_roll_here", "_law_number"]) fun _ _ _ _ _ _ us hl => match us, hl with | [_, _, _], _ => rfl, fun_mk (st := s_f_law_branch) z2_f_law_branch z3_f_law_branch z4_f_law_branch, PySem.W.mg_of X G z1_f_law_branch, z4_f_law_branch, (fun_mk (st := s_f_law_branch) z2_f_law_branch z3_f_law_branch z4_f_law_branch).binds (ps := ["_law_number", "_law_roll_here"]) fun _ _ _ _ _ _ us hl => match us, hl with | [_, _], _ => rfl, fun_mk (st := s_f_law_house) z2_f_law_house z3_f_law_house z4_f_law_house, PySem.W.mg_of X G z1_f_law_house, z4_f_law_house, (fun_mk (st := s_f_law_house) z2_f_law_house z3_f_law_house z4_f_law_house).binds (ps := ["_law_script", "_law_most"]) fun _ _ _ _ _ _ us hl => match us, hl with | [_, _], _ => rfl, fun_mk (st := s_f_law_shown_name) z2_f_law_shown_name z3_f_law_shown_name z4_f_law_shown_name, PySem.W.mg_of X G z1_f_law_shown_name, z4_f_law_shown_name, (fun_mk (st := s_f_law_shown_name) z2_f_law_shown_name z3_f_law_shown_name z4_f_law_shown_name).binds (ps := ["_law_name_here"]) fun _ _ _ _ _ _ us hl => match us, hl with | [_], _ => rfl, fun_mk (st := s_f_law_shown_sign) z2_f_law_shown_sign z3_f_law_shown_sign z4_f_law_shown_sign, PySem.W.mg_of X G z1_f_law_shown_sign, z4_f_law_shown_sign, (fun_mk (st := s_f_law_shown_sign) z2_f_law_shown_sign z3_f_law_shown_sign z4_f_law_shown_sign).binds (ps := ["_law_sign_here"]) fun _ _ _ _ _ _ us hl => match us, hl with | [_], _ => rfl, fun_mk (st := s_f_law_shown_side) z2_f_law_shown_side z3_f_law_shown_side z4_f_law_shown_side, PySem.W.mg_of X G z1_f_law_shown_side, z4_f_law_shown_side, (fun_mk (st := s_f_law_shown_side) z2_f_law_shown_side z3_f_law_shown_side z4_f_law_shown_side).binds (ps := ["_law_side_here"]) fun _ _ _ _ _ _ us hl => match us, hl with | [_], _ => rfl, fun_mk (st := s_f_law_or_none) z2_f_law_or_none z3_f_law_or_none z4_f_law_or_none, PySem.W.mg_of X G z1_f_law_or_none, z4_f_law_or_none, (fun_mk (st := s_f_law_or_none) z2_f_law_or_none z3_f_law_or_none z4_f_law_or_none).binds (ps := ["_law_thing"]) fun _ _ _ _ _ _ us hl => match us, hl with | [_], _ => rfl, fun_mk (st := s_f_law_shown_what) z2_f_law_shown_what z3_f_law_shown_what z4_f_law_shown_what, PySem.W.mg_of X G z1_f_law_shown_what, z4_f_law_shown_what, (fun_mk (st := s_f_law_shown_what) z2_f_law_shown_what z3_f_law_shown_what z4_f_law_shown_what).binds (ps := ["_law_what_here"]) fun _ _ _ _ _ _ us hl => match us, hl with | [_], _ => rfl, fun_mk (st := s_f_law_shown) z2_f_law_shown z3_f_law_shown z4_f_law_shown, PySem.W.mg_of X G z1_f_law_shown, z4_f_law_shown, (fun_mk (st := s_f_law_shown) z2_f_law_shown z3_f_law_shown z4_f_law_shown).binds (ps := ["_law_deed"]) fun _ _ _ _ _ _ us hl => match us, hl with | [_], _ => rfl, fun_mk (st := s_flaw) z2_flaw z3_flaw z4_flaw, PySem.W.mg_of X G z1_flaw, z4_flaw, (fun_mk (st := s_flaw) z2_flaw z3_flaw z4_flaw).binds (ps := ["_law_script"]) fun _ _ _ _ _ _ us hl => match us, hl with | [_], _ => rfl⟩
  refine ⟨PySem.W.fnOf "law" "law" (defArgs s_flaw) (defBody s_flaw) (defScope s_flaw) .none kV_flaw dc_flaw pm_flaw an_flaw cd_flaw ct_flaw, fun s v => .of_eq rfl, fun base _ _ => ?_⟩
  have r_fshown_name := ok_fshown_name (P := l.prog) (w := w) (base := base) T
  have r_fshown_counts := ok_fshown_counts (P := l.prog) (w := w) (base := base) T
  have r_fshown_branch := ok_fshown_branch (P := l.prog) (w := w) (base := base) T
  have r_fshown_text := ok_fshown_text (P := l.prog) (w := w) (base := base) T
  have r_f_law_draws := ok_f_law_draws (P := l.prog) (w := w) (base := base) T
  have r_f_law_word := ok_f_law_word (P := l.prog) (w := w) (base := base) T
  have r_f_law_name := ok_f_law_name (P := l.prog) (w := w) (base := base) T
  have r_f_law_shown_name := ok_f_law_shown_name (P := l.prog) (w := w) (base := base) T
  have r_fshown_side := ok_fshown_side (P := l.prog) (w := w) (base := base) T r_fshown_name
  have r_fshown_sign := ok_fshown_sign (P := l.prog) (w := w) (base := base) T r_fshown_name
  have r_f_law_roll := ok_f_law_roll (P := l.prog) (w := w) (base := base) T r_f_law_draws r_f_law_word
  have r_f_law_part := ok_f_law_part (P := l.prog) (w := w) (base := base) T r_f_law_name
  have r_f_law_sign_name := ok_f_law_sign_name (P := l.prog) (w := w) (base := base) T r_f_law_name
  have r_f_law_branch := ok_f_law_branch (P := l.prog) (w := w) (base := base) T r_f_law_word
  have r_f_law_shown_sign := ok_f_law_shown_sign (P := l.prog) (w := w) (base := base) T r_f_law_shown_name
  have r_f_law_shown_side := ok_f_law_shown_side (P := l.prog) (w := w) (base := base) T r_f_law_shown_name
  have r_f_law_or_none := ok_f_law_or_none (P := l.prog) (w := w) (base := base) T r_f_law_shown_name
  have r_fshown_thing := ok_fshown_thing (P := l.prog) (w := w) (base := base) T r_fshown_counts r_fshown_name r_fshown_side r_fshown_text
  have r_f_law_side := ok_f_law_side (P := l.prog) (w := w) (base := base) T r_f_law_sign_name
  have r_f_law_sign := ok_f_law_sign (P := l.prog) (w := w) (base := base) T r_f_law_part r_f_law_word
  have r_f_law_sign_names := ok_f_law_sign_names (P := l.prog) (w := w) (base := base) T r_f_law_sign_name
  have r_f_law_shown_what := ok_f_law_shown_what (P := l.prog) (w := w) (base := base) T r_f_law_or_none r_f_law_shown_name r_f_law_shown_side r_f_law_shown_sign
  have r_fwords_of := ok_fwords_of (P := l.prog) (w := w) (base := base) T r_fshown_name r_fshown_sign r_fshown_thing
  have r_f_law_signs := ok_f_law_signs (P := l.prog) (w := w) (base := base) T r_f_law_sign
  have r_f_law_what_of_marks := ok_f_law_what_of_marks (P := l.prog) (w := w) (base := base) T r_f_law_name r_f_law_part r_f_law_side r_f_law_word
  have r_f_law_shown := ok_f_law_shown (P := l.prog) (w := w) (base := base) T r_f_law_shown_what
  have r_fshown_deed := ok_fshown_deed (P := l.prog) (w := w) (base := base) T r_fshown_branch r_fshown_counts r_fwords_of
  have r_f_law_what_of_signs := ok_f_law_what_of_signs (P := l.prog) (w := w) (base := base) T r_f_law_name r_f_law_part r_f_law_sign_name r_f_law_sign_names r_f_law_signs
  have r_f_law_what := ok_f_law_what (P := l.prog) (w := w) (base := base) T r_f_law_part r_f_law_what_of_marks r_f_law_what_of_signs r_f_law_word
  have r_f_law_house := ok_f_law_house (P := l.prog) (w := w) (base := base) T r_f_law_branch r_f_law_draws r_f_law_roll r_f_law_what
  exact ok_flaw T r_f_law_house r_f_law_shown r_fshown_deed r_fshown_name
end My
open PySem PySem.W PyProof.Rows
set_option maxRecDepth 100000 in
set_option maxHeartbeats 0 in
theorem PySem.Challenge.cw_pagefolk_k07_deeds_shown_holds : PySem.Challenge.rw_pagefolk_k07_deeds_shown.Holds := by
  w_on; o_law; k_head; (case hw => w_witness2)
  k_fill
  refine L2.walk_ofK (l := PySem.Challenge.rw_pagefolk_k07_deeds_shown) (n := 63) (k := 8) (x := "_law_script") (CX := L2.CX0) (sp := My.sp_flaw) rfl (by decide) rfl ⟨rfl, by decide, by decide⟩ (fun w h Y => PySem.W.kIn_of Y) ?F My.law_spec (fun _ _ _ _ z => z)
  case F =>
    intro w mg fa h KX G hmg
    refine' My.all_mk KX G hmg ?zb_bool ?zb_enumerate ?zb_int ?zb_isinstance ?zb_len ?zb_list ?zb_max ?zb_range ?zb_str ?zb_tuple ?z1_fshown_name ?z2_fshown_name ?z3_fshown_name ?z4_fshown_name ?z1_fshown_counts ?z2_fshown_counts ?z3_fshown_counts ?z4_fshown_counts ?z1_fshown_branch ?z2_fshown_branch ?z3_fshown_branch ?z4_fshown_branch ?z1_fshown_side ?z2_fshown_side ?z3_fshown_side ?z4_fshown_side ?z1_fshown_sign ?z2_fshown_sign ?z3_fshown_sign ?z4_fshown_sign ?z1_fshown_text ?z2_fshown_text ?z3_fshown_text ?z4_fshown_text ?z1_fshown_thing ?z2_fshown_thing ?z3_fshown_thing ?z4_fshown_thing ?z1_fwords_of ?z2_fwords_of ?z3_fwords_of ?z4_fwords_of ?z1_fshown_deed ?z2_fshown_deed ?z3_fshown_deed ?z4_fshown_deed ?z1_f_law_draws ?z2_f_law_draws ?z3_f_law_draws ?z4_f_law_draws ?z1_f_law_word ?z2_f_law_word ?z3_f_law_word ?z4_f_law_word ?z1_f_law_roll ?z2_f_law_roll ?z3_f_law_roll ?z4_f_law_roll ?z1_f_law_name ?z2_f_law_name ?z3_f_law_name ?z4_f_law_name ?z1_f_law_part ?z2_f_law_part ?z3_f_law_part ?z4_f_law_part ?z1_f_law_sign_name ?z2_f_law_sign_name ?z3_f_law_sign_name ?z4_f_law_sign_name ?z1_f_law_side ?z2_f_law_side ?z3_f_law_side ?z4_f_law_side ?z1_f_law_sign ?z2_f_law_sign ?z3_f_law_sign ?z4_f_law_sign ?z1_f_law_signs ?z2_f_law_signs ?z3_f_law_signs ?z4_f_law_signs ?z1_f_law_sign_names ?z2_f_law_sign_names ?z3_f_law_sign_names ?z4_f_law_sign_names ?z1_f_law_what_of_signs ?z2_f_law_what_of_signs ?z3_f_law_what_of_signs ?z4_f_law_what_of_signs ?z1_f_law_what_of_marks ?z2_f_law_what_of_marks ?z3_f_law_what_of_marks ?z4_f_law_what_of_marks ?z1_f_law_what ?z2_f_law_what ?z3_f_law_what ?z4_f_law_what ?z1_f_law_branch ?z2_f_law_branch ?z3_f_law_branch ?z4_f_law_branch ?z1_f_law_house ?z2_f_law_house ?z3_f_law_house ?z4_f_law_house ?z1_f_law_shown_name ?z2_f_law_shown_name ?z3_f_law_shown_name ?z4_f_law_shown_name ?z1_f_law_shown_sign ?z2_f_law_shown_sign ?z3_f_law_shown_sign ?z4_f_law_shown_sign ?z1_f_law_shown_side ?z2_f_law_shown_side ?z3_f_law_shown_side ?z4_f_law_shown_side ?z1_f_law_or_none ?z2_f_law_or_none ?z3_f_law_or_none ?z4_f_law_or_none ?z1_f_law_shown_what ?z2_f_law_shown_what ?z3_f_law_shown_what ?z4_f_law_shown_what ?z1_f_law_shown ?z2_f_law_shown ?z3_f_law_shown ?z4_f_law_shown ?z1_flaw ?z2_flaw ?z3_flaw ?z4_flaw
    (case zb_bool => k_is)
    (case zb_enumerate => k_is)
    (case zb_int => k_is)
    (case zb_isinstance => k_is)
    (case zb_len => k_is)
    (case zb_list => k_is)
    (case zb_max => k_is)
    (case zb_range => k_is)
    (case zb_str => k_is)
    (case zb_tuple => k_is)
    (case z1_fshown_name => k_is)
    (case z2_fshown_name => k_is)
    (case z3_fshown_name => k_is)
    (case z4_fshown_name => k_is)
    (case z1_fshown_counts => k_is)
    (case z2_fshown_counts => k_is)
    (case z3_fshown_counts => k_is)
    (case z4_fshown_counts => k_is)
    (case z1_fshown_branch => k_is)
    (case z2_fshown_branch => k_is)
    (case z3_fshown_branch => k_is)
    (case z4_fshown_branch => k_is)
    (case z1_fshown_side => k_is)
    (case z2_fshown_side => k_is)
    (case z3_fshown_side => k_is)
    (case z4_fshown_side => k_is)
    (case z1_fshown_sign => k_is)
    (case z2_fshown_sign => k_is)
    (case z3_fshown_sign => k_is)
    (case z4_fshown_sign => k_is)
    (case z1_fshown_text => k_is)
    (case z2_fshown_text => k_is)
    (case z3_fshown_text => k_is)
    (case z4_fshown_text => k_is)
    (case z1_fshown_thing => k_is)
    (case z2_fshown_thing => k_is)
    (case z3_fshown_thing => k_is)
    (case z4_fshown_thing => k_is)
    (case z1_fwords_of => k_is)
    (case z2_fwords_of => k_is)
    (case z3_fwords_of => k_is)
    (case z4_fwords_of => k_is)
    (case z1_fshown_deed => k_is)
    (case z2_fshown_deed => k_is)
    (case z3_fshown_deed => k_is)
    (case z4_fshown_deed => k_is)
    (case z1_f_law_draws => k_is)
    (case z2_f_law_draws => k_is)
    (case z3_f_law_draws => k_is)
    (case z4_f_law_draws => k_is)
    (case z1_f_law_word => k_is)
    (case z2_f_law_word => k_is)
    (case z3_f_law_word => k_is)
    (case z4_f_law_word => k_is)
    (case z1_f_law_roll => k_is)
    (case z2_f_law_roll => k_is)
    (case z3_f_law_roll => k_is)
    (case z4_f_law_roll => k_is)
    (case z1_f_law_name => k_is)
    (case z2_f_law_name => k_is)
    (case z3_f_law_name => k_is)
    (case z4_f_law_name => k_is)
    (case z1_f_law_part => k_is)
    (case z2_f_law_part => k_is)
    (case z3_f_law_part => k_is)
    (case z4_f_law_part => k_is)
    (case z1_f_law_sign_name => k_is)
    (case z2_f_law_sign_name => k_is)
    (case z3_f_law_sign_name => k_is)
    (case z4_f_law_sign_name => k_is)
    (case z1_f_law_side => k_is)
    (case z2_f_law_side => k_is)
    (case z3_f_law_side => k_is)
    (case z4_f_law_side => k_is)
    (case z1_f_law_sign => k_is)
    (case z2_f_law_sign => k_is)
    (case z3_f_law_sign => k_is)
    (case z4_f_law_sign => k_is)
    (case z1_f_law_signs => k_is)
    (case z2_f_law_signs => k_is)
    (case z3_f_law_signs => k_is)
    (case z4_f_law_signs => k_is)
    (case z1_f_law_sign_names => k_is)
    (case z2_f_law_sign_names => k_is)
    (case z3_f_law_sign_names => k_is)
    (case z4_f_law_sign_names => k_is)
    (case z1_f_law_what_of_signs => k_is)
    (case z2_f_law_what_of_signs => k_is)
    (case z3_f_law_what_of_signs => k_is)
    (case z4_f_law_what_of_signs => k_is)
    (case z1_f_law_what_of_marks => k_is)
    (case z2_f_law_what_of_marks => k_is)
    (case z3_f_law_what_of_marks => k_is)
    (case z4_f_law_what_of_marks => k_is)
    (case z1_f_law_what => k_is)
    (case z2_f_law_what => k_is)
    (case z3_f_law_what => k_is)
    (case z4_f_law_what => k_is)
    (case z1_f_law_branch => k_is)
    (case z2_f_law_branch => k_is)
    (case z3_f_law_branch => k_is)
    (case z4_f_law_branch => k_is)
    (case z1_f_law_house => k_is)
    (case z2_f_law_house => k_is)
    (case z3_f_law_house => k_is)
    (case z4_f_law_house => k_is)
    (case z1_f_law_shown_name => k_is)
    (case z2_f_law_shown_name => k_is)
    (case z3_f_law_shown_name => k_is)
    (case z4_f_law_shown_name => k_is)
    (case z1_f_law_shown_sign => k_is)
    (case z2_f_law_shown_sign => k_is)
    (case z3_f_law_shown_sign => k_is)
    (case z4_f_law_shown_sign => k_is)
    (case z1_f_law_shown_side => k_is)
    (case z2_f_law_shown_side => k_is)
    (case z3_f_law_shown_side => k_is)
    (case z4_f_law_shown_side => k_is)
    (case z1_f_law_or_none => k_is)
    (case z2_f_law_or_none => k_is)
    (case z3_f_law_or_none => k_is)
    (case z4_f_law_or_none => k_is)
    (case z1_f_law_shown_what => k_is)
    (case z2_f_law_shown_what => k_is)
    (case z3_f_law_shown_what => k_is)
    (case z4_f_law_shown_what => k_is)
    (case z1_f_law_shown => k_is)
    (case z2_f_law_shown => k_is)
    (case z3_f_law_shown => k_is)
    (case z4_f_law_shown => k_is)
    (case z1_flaw => k_is)
    (case z2_flaw => k_is)
    (case z3_flaw => k_is)
    (case z4_flaw => k_is)
