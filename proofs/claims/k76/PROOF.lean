import PyProof.Rows.All
import Wide.All
import OpenK.AllK
import Wide.FinOn
import Lean
import PyProof.EqAt
import PyProof.EqKinds
import PyProof.TupleCall
import PySem.Challenge.RW_pagefolk_k76_whole_no_change_cheaper
set_option Elab.async false
set_option linter.all false
set_option maxRecDepth 100000
namespace L2
open PySem PySem.Spec PyProof.Rows
abbrev Key := Sum Int Str
def keyIs : Key → Value → Bool
  | .inl k, v => Value.isInt k v
  | .inr x, v => Value.isStrOf x v
def keyH (w : World) : Key → Int
  | .inl k => hashInt k
  | .inr x => hashStr w x
theorem keyIs_shape : ∀ {k : Key} {v : Value}, keyIs k v = true → (∃ i t, k = Sum.inl i ∧ v = Value.int i t) ∨ (∃ x t, k = Sum.inr x ∧ v = Value.str x t)
  | .inl i, v, h => by
    obtain ⟨t, e⟩ := Value.isInt_shape (k := i) (v := v) h
    exact .inl ⟨i, t, rfl, e⟩
  | .inr x, v, h => by
    obtain ⟨t, e⟩ := Value.isStrOf_shape (x := x) (v := v) h
    exact .inr ⟨x, t, rfl, e⟩
theorem keyIs_int (i : Int) (t : Tok) : keyIs (.inl i) (.int i t) = true := by simp [keyIs, Value.isInt]
theorem keyIs_str (x : Str) (t : Tok) : keyIs (.inr x) (.str x t) = true := by simp [keyIs, Value.isStrOf]
theorem key_ll (a b : Int) : decide ((Sum.inl a : Key) = Sum.inl b) = (a == b) := by
  by_cases e : a = b
  · subst e; simp
  · have h : ¬ (Sum.inl a : Key) = Sum.inl b := fun q => e (Sum.inl.inj q)
    rw [decide_eq_false h]
    exact (beq_eq_false_iff_ne.mpr e).symm
theorem key_rr (a b : Str) : decide ((Sum.inr a : Key) = Sum.inr b) = decide (a = b) := by
  by_cases e : a = b
  · subst e; simp
  · have h : ¬ (Sum.inr a : Key) = Sum.inr b := fun q => e (Sum.inr.inj q)
    rw [decide_eq_false h, decide_eq_false e]
theorem key_lr (a : Int) (b : Str) : decide ((Sum.inl a : Key) = Sum.inr b) = false := decide_eq_false (fun q => nomatch q)
theorem key_rl (a : Str) (b : Int) : decide ((Sum.inr a : Key) = Sum.inl b) = false := decide_eq_false (fun q => nomatch q)
def mixKind (prog : Program) (w : World) : PySem.KeyKind prog w Key where
  is := keyIs
  hash := keyH w
  inj := fun v a b ha hb => by
    rcases keyIs_shape ha with ⟨i, t, rfl, rfl⟩ | ⟨x, t, rfl, rfl⟩
    · rcases keyIs_shape hb with ⟨j, u, rfl, e⟩ | ⟨y, u, rfl, e⟩
      · injection e with e1 _; rw [e1]
      · exact nomatch e
    · rcases keyIs_shape hb with ⟨j, u, rfl, e⟩ | ⟨y, u, rfl, e⟩
      · exact nomatch e
      · injection e with e1 _; rw [e1]
  byValue := fun k v h => by
    rcases keyIs_shape h with ⟨i, t, rfl, rfl⟩ | ⟨x, t, rfl, rfl⟩ <;> rfl
  pyHash := fun hv h => by
    rcases keyIs_shape hv with ⟨i, t, rfl, rfl⟩ | ⟨x, t, rfl, rfl⟩
    · exact wpAny_pyHash_int h
    · exact wpAny_pyHash_str h
  eqBool := fun hu hv h => by
    rcases keyIs_shape hu with ⟨i, t, rfl, rfl⟩ | ⟨x, t, rfl, rfl⟩
    · rcases keyIs_shape hv with ⟨j, u, rfl, rfl⟩ | ⟨y, u, rfl, rfl⟩
      · rw [key_ll] at h; exact wpAny_eqBool_int h
      · rw [key_lr] at h; exact SeqAt.EqAt.int_str i t y u _ _ _ _ h
    · rcases keyIs_shape hv with ⟨j, u, rfl, rfl⟩ | ⟨y, u, rfl, rfl⟩
      · rw [key_rl] at h; exact SeqAt.EqAt.str_int x t j u _ _ _ _ h
      · rw [key_rr] at h; exact wpAny_eqBool_str h
  «strs» := fun k x t v h => by
    rcases keyIs_shape h with ⟨i, u, rfl, e⟩ | ⟨y, u, rfl, e⟩
    · exact nomatch e
    · injection e with e1 _
      subst e1
      cases v <;> rfl
theorem mixKind_is (prog : Program) (w : World) (k : Key) (v : Value) : (mixKind prog w).is k v = keyIs k v := rfl
theorem mixKind_int (prog : Program) (w : World) (i : Int) (t : Tok) : (mixKind prog w).is (.inl i) (.int i t) = true := keyIs_int i t
theorem mixKind_str (prog : Program) (w : World) (x : Str) (t : Tok) : (mixKind prog w).is (.inr x) (.str x t) = true := keyIs_str x t
end L2
namespace L2
open PySem PySem.Spec PyProof.Rows
inductive V where
  | non | bl (b : Bool) | int (i : Int) | str (x : Str) | byt (b : Array UInt8) | flt (b : UInt64) | ref (a : Addr) | ty (n : String)
  deriving DecidableEq
def RelV : V → Value → Prop
  | .non, u => u = Value.none
  | .bl b, u => u = Value.bool b
  | .int i, u => ∃ t, u = Value.int i t
  | .str x, u => ∃ t, u = Value.str x t
  | .byt b, u => ∃ t, u = Value.bytes b t
  | .flt b, u => ∃ t, u = Value.float b t
  | .ref a, u => u = Value.ref a
  | .ty n, u => u = Value.type n
abbrev Vals : List V → List Value → Prop := Paired RelV
theorem Vals.length {xs : List V} {us : List Value} (r : Vals xs us) : xs.length = us.length := Paired.length r
theorem Vals.get : ∀ {xs : List V} {us : List Value} {i : Nat} {x : V}, Vals xs us → xs[i]? = some x → ∃ u, us[i]? = some u ∧ RelV x u
  | _, _, _, _, .nil, e => by simp at e
  | _, _, 0, _, .cons r _, e => by simp at e; subst e; exact ⟨_, rfl, r⟩
  | _, _, i + 1, x, .cons _ t, e => by
    obtain ⟨u, h1, h2⟩ := Vals.get (i := i) (x := x) t (by simpa using e)
    exact ⟨u, by simpa using h1, h2⟩
theorem Vals.set {x : V} {u : Value} (r : RelV x u) : ∀ {xs : List V} {us : List Value} (i : Nat), Vals xs us → Vals (xs.set i x) (us.set i u)
  | _, _, _, .nil => .nil
  | _, _, 0, .cons _ t => .cons r t
  | _, _, i + 1, .cons q t => .cons q (Vals.set r i t)
theorem Vals.append : ∀ {xs ys : List V} {us ws : List Value}, Vals xs us → Vals ys ws → Vals (xs ++ ys) (us ++ ws)
  | _, _, _, _, .nil, s => s
  | _, _, _, _, .cons r t, s => .cons r (Vals.append t s)
theorem Vals.take : ∀ {xs : List V} {us : List Value} (n : Nat), Vals xs us → Vals (xs.take n) (us.take n)
  | _, _, 0, _ => .nil
  | _, _, _ + 1, .nil => .nil
  | _, _, n + 1, .cons r t => .cons r (Vals.take n t)
theorem Vals.drop : ∀ {xs : List V} {us : List Value} (n : Nat), Vals xs us → Vals (xs.drop n) (us.drop n)
  | _, _, 0, r => r
  | _, _, _ + 1, .nil => .nil
  | _, _, n + 1, .cons _ t => Vals.drop n t
theorem Vals.none_of : ∀ {xs : List V} {us : List Value} {i : Nat}, Vals xs us → xs[i]? = none → us[i]? = none := fun {xs us i} r e => by
  have h1 := r.length
  have h2 : xs.length ≤ i := List.getElem?_eq_none_iff.mp e
  exact List.getElem?_eq_none_iff.mpr (by omega)
def RelO : Option V → Option Value → Prop
  | some v, some u => RelV v u
  | none, none => True
  | _, _ => False
def KV {κ : Type} : List (κ × V) → List (κ × Value) → Prop := Paired fun (p : κ × V) (q : κ × Value) => p.1 = q.1 ∧ RelV p.2 q.2
def kV : Key → V
  | .inl i => .int i
  | .inr x => .str x
inductive HO where
  | lst (xs : List V)
  | tup (xs : List V)
  | dK (kvs : List (Key × V)) | dT (kvs : List (List Key × V))
  | set (S : Int → Bool) (n : Nat)
  | ins (C dx : Addr) (fs : List (Str × V))
  | own (x : Addr)
  | xd (fs : List (Str × V))
  | met (f x : Addr)
  | rng (lo hi : Int)
  | frz (o : Obj) (u : HO)
  | tbl (ps : Array Value)
  | ext (φ : Heap → Prop)
abbrev Hp := Addr → Option HO
def upd (H : Hp) (a : Addr) (o : HO) : Hp := fun b => if b = a then some o else H b
theorem upd_same {H : Hp} {a : Addr} {o : HO} : upd H a o a = some o := by unfold upd; rw [if_pos rfl]
theorem upd_ne {H : Hp} {a b : Addr} {o : HO} (h : b ≠ a) : upd H a o b = H b := by unfold upd; rw [if_neg h]
theorem upd_upd {H : Hp} {a : Addr} {o u : HO} : upd (upd H a o) a u = upd H a u := by
  funext b; unfold upd; split <;> rfl
theorem ne_of {H : Hp} {a b : Addr} {o u : HO} (h : H a = some o) (h' : H b = some u) (d : o ≠ u) : a ≠ b := by
  intro e; subst e; rw [h] at h'; exact d (Option.some.inj h')
theorem ne_of_none {H : Hp} {a b : Addr} {o : HO} (h : H a = some o) (h' : H b = none) : a ≠ b := by
  intro e; subst e; rw [h] at h'; cases h'
section
variable (P : Program) (w : World)
def ObjOk (H : Hp) (h : Heap) (a : Addr) : HO → Prop
  | .lst xs => xs.length ≤ sizeLine ∧ ∃ (its : List Value) (n : Nat), Vals xs its ∧ h.get? a = some { cls := .type "list", data := .seq its.toArray n }
  | .tup xs => xs.length ≤ sizeLine ∧ ∃ its : List Value, Vals xs its ∧ IsTup h a its.toArray
  | .dK kvs => kvs.length ≤ sizeLine ∧ (a == sysModules) = false ∧ ∃ vs, KV kvs vs ∧ h.DictOf (mixKind P w) a vs
  | .dT kvs => kvs.length ≤ sizeLine ∧ (a == sysModules) = false ∧ ∃ xs : List (List Key × Addr × Value),
      Paired (fun (p : List Key × V) (q : List Key × Addr × Value) => p.1 = q.1 ∧ H q.2.1 = some (.tup (p.1.map kV)) ∧ RelV p.2 q.2.2) kvs xs ∧
      ∃ o es ep, h.get? a = some o ∧ o.ExactDict ∧ o.data = .dict es ep ∧ es.toList = xs.map (entryOfKey (tupleKind (mixKind P w))) ∧ (xs.map (·.1)).Nodup
  | .set S n => h.SetOf (intKind P w) a S n
  | .ins C dx fs => H dx = some (.own a) ∧ fs.length ≤ 1000 ∧ dx ≠ a ∧ h.get? a = some (PySem.W.instObj C dx) ∧
      ∃ mA, h.Ns1 dx mA ∧ (∀ f, RelO (fs.lookup f) (mA f)) ∧ PySem.Within mA (fs.map (·.1))
  | .own _ => ∃ o, h.get? a = some o
  | .xd fs => ∃ mA, h.Ns1 a mA ∧ ∀ f, RelO (fs.lookup f) (mA f)
  | .rng lo hi => ∃ t u v, h.get? a = some { cls := .type "range", data := .fields #[.int lo t, .int hi u, .int 1 v] }
  | .frz o u => h.get? a = some o ∧ ObjOk H h a u
  | .tbl ps => h.get? a = some { cls := .none, data := .fields ps }
  | .met f x => h.get? a = some (PySem.W.methodObj (.ref f) (.ref x))
  | .ext φ => φ h ∧ (∃ o, h.get? a = some o) ∧ ∀ h1 h2 : Heap, φ h1 → (∀ o, h1.get? a = some o → h2.get? a = some o) → φ h2
def HOk (H : Hp) (h : Heap) : Prop := ∀ a o, H a = some o → ObjOk P w H h a o
end
section
variable {P : Program} {w : World} {H H' : Hp} {h h' : Heap} {a : Addr} {o : HO}
theorem ObjOk.lt (x : ObjOk P w H h a o) : a < h.objs.size := by
  cases o with
  | lst xs => obtain ⟨_, _, _, _, e⟩ := x; exact Heap.lt_size e
  | tup xs => obtain ⟨_, _, _, p⟩ := x; exact p.lt
  | dK kvs => obtain ⟨_, _, _, _, o, _, _, e, _⟩ := x; exact Heap.lt_size e
  | dT kvs => obtain ⟨_, _, _, _, o, _, _, e, _⟩ := x; exact Heap.lt_size e
  | set S n => obtain ⟨o, _, _, _, e, _⟩ := x; exact Heap.lt_size e
  | ins C dx fs => obtain ⟨_, _, _, e, _⟩ := x; exact Heap.lt_size e
  | own y => obtain ⟨_, e⟩ := x; exact Heap.lt_size e
  | xd fs => obtain ⟨_, ⟨_, _, _, e, _⟩, _⟩ := x; exact Heap.lt_size e
  | rng lo hi => obtain ⟨_, _, _, e⟩ := x; exact Heap.lt_size e
  | frz ob u => obtain ⟨e, _⟩ := x; exact Heap.lt_size e
  | tbl ps => exact Heap.lt_size (show h.get? a = some _ from x)
  | met f y => exact Heap.lt_size (show h.get? a = some _ from x)
  | ext φ => obtain ⟨_, ⟨_, e⟩, _⟩ := x; exact Heap.lt_size e
theorem Paired.mapP {α β : Type} {F G : α → β → Prop} : ∀ {l₁ : List α} {l₂ : List β}, Paired F l₁ l₂ → (∀ a b, F a b → G a b) → Paired G l₁ l₂
  | _, _, .nil, _ => .nil
  | _, _, .cons r t, f => .cons (f _ _ r) (Paired.mapP t f)
theorem Paired.imp' {α β : Type} {F G : α → β → Prop} (f : ∀ a b, F a b → G a b) {l₁ : List α} {l₂ : List β} (r : Paired F l₁ l₂) : Paired G l₁ l₂ := Paired.mapP r f
theorem ObjOk.stay (x : ObjOk P w H h a o) (k : ∀ b u, (b = a ∨ H b = some (.own a)) → h.get? b = some u → h'.get? b = some u)
    (ho : ∀ b, H b = some (.own a) → H' b = some (.own a)) (ht : ∀ b xs, H b = some (.tup xs) → H' b = some (.tup xs)) : ObjOk P w H' h' a o := by
  induction o with
  | lst xs => obtain ⟨z, its, n, r, e⟩ := x; exact ⟨z, its, n, r, k _ _ (.inl rfl) e⟩
  | tup xs => obtain ⟨z, its, r, ob, e, c⟩ := x; exact ⟨z, its, r, ob, k _ _ (.inl rfl) e, c⟩
  | dK kvs => obtain ⟨z, y, vs, r, ob, es, ep, e, c⟩ := x; exact ⟨z, y, vs, r, ob, es, ep, k _ _ (.inl rfl) e, c⟩
  | dT kvs =>
    obtain ⟨z, y, xs, r, ob, es, ep, e, c⟩ := x
    exact ⟨z, y, xs, Paired.mapP r fun p q z => ⟨z.1, ht _ _ z.2.1, z.2.2⟩, ob, es, ep, k _ _ (.inl rfl) e, c⟩
  | set S n => obtain ⟨ob, es, ep, t, e, c⟩ := x; exact ⟨ob, es, ep, t, k _ _ (.inl rfl) e, c⟩
  | ins C dx fs =>
    obtain ⟨d, z, ne, e, mA, ⟨od, es, ep, e2, c⟩, r⟩ := x
    exact ⟨ho _ d, z, ne, k _ _ (.inl rfl) e, mA, ⟨od, es, ep, k _ _ (.inr d) e2, c⟩, r⟩
  | own y => obtain ⟨ob, e⟩ := x; exact ⟨ob, k _ _ (.inl rfl) e⟩
  | xd fs => obtain ⟨mA, ⟨od, es, ep, e, c⟩, r⟩ := x; exact ⟨mA, ⟨od, es, ep, k _ _ (.inl rfl) e, c⟩, r⟩
  | rng lo hi => obtain ⟨t, u, v, e⟩ := x; exact ⟨t, u, v, k _ _ (.inl rfl) e⟩
  | frz ob u ih => obtain ⟨e, q⟩ := x; exact ⟨k _ _ (.inl rfl) e, ih q⟩
  | tbl ps =>
    have e : h.get? a = some { cls := .none, data := .fields ps } := x
    show h'.get? a = some { cls := .none, data := .fields ps }
    exact k a _ (.inl rfl) e
  | met f y =>
    have e : h.get? a = some (PySem.W.methodObj (.ref f) (.ref y)) := x
    show h'.get? a = some (PySem.W.methodObj (.ref f) (.ref y))
    exact k a _ (.inl rfl) e
  | ext φ => obtain ⟨p, ⟨o, e⟩, st⟩ := x; exact ⟨st _ _ p fun o q => k _ _ (.inl rfl) q, ⟨o, k _ _ (.inl rfl) e⟩, st⟩
theorem HOk.lt (x : HOk P w H h) (e : H a = some o) : a < h.objs.size := (x a o e).lt
theorem HOk.fresh (x : HOk P w H h) (e : h.objs.size ≤ a) : H a = none := by
  cases q : H a with
  | none => rfl
  | some u => exact absurd (Nat.lt_of_lt_of_le (x.lt q) e) (Nat.lt_irrefl _)
theorem HOk.kept (x : HOk P w H h) (k : ∀ b u, h.get? b = some u → h'.get? b = some u) : HOk P w H h' := fun a o e =>
  (x a o e).stay (fun b u _ q => k b u q) (fun _ q => q) fun _ _ q => q
theorem HOk.laid (x : HOk P w H h) (k : ∀ b u, h.get? b = some u → h'.get? b = some u) (hp : h.objs.size ≤ a) (new : ObjOk P w (upd H a o) h' a o) : HOk P w (upd H a o) h' := fun b u e => by
  have hn := x.fresh hp
  by_cases hb : b = a
  · subst hb; rw [upd_same] at e; cases e; exact new
  · rw [upd_ne hb] at e
    exact (x b u e).stay (fun c v _ q => k c v q) (fun c q => by rw [upd_ne (ne_of_none q hn)]; exact q) fun c xs q => by rw [upd_ne (ne_of_none q hn)]; exact q
end
def Rd (H : Hp) (a : Addr) (u : HO) : Prop := H a = some u ∨ ∃ o, H a = some (.frz o u)
theorem Rd.of {H : Hp} {a : Addr} {u : HO} (h : H a = some u) : Rd H a u := .inl h
theorem Rd.ok {P : Program} {w : World} {H : Hp} {h : Heap} {a : Addr} {u : HO} (r : Rd H a u) (x : HOk P w H h) : ObjOk P w H h a u := by
  rcases r with r | ⟨o, r⟩
  · exact x a u r
  · obtain ⟨_, q⟩ := x a _ r
    exact q
def Mut : Option HO → Prop
  | some (.lst _) => True
  | some (.dK _) => True
  | some (.dT _) => True
  | some (.set _ _) => True
  | some (.ins _ _ _) => True
  | some (.ext _) => True
  | _ => False
section
variable {P : Program} {w : World} {H : Hp} {h h' : Heap} {x e : Addr} {o' : HO}
theorem HOk.write (ok : HOk P w H h) (mu : Mut (H x)) (he : e = x ∨ H e = some (.own x)) (k : ∀ b u, b ≠ e → h.get? b = some u → h'.get? b = some u) (heo : ∃ u, h'.get? e = some u)
    (new : ObjOk P w (upd H x o') h' x o') : HOk P w (upd H x o') h' := fun b u q => by
  have nown : ∀ c y, H c = some (.own y) → c ≠ x := fun c y r z => by subst z; rw [r] at mu; exact mu
  have ntup : ∀ c xs, H c = some (.tup xs) → c ≠ x := fun c xs r z => by subst z; rw [r] at mu; exact mu
  by_cases hb : b = x
  · subst hb; rw [upd_same] at q; cases q; exact new
  · rw [upd_ne hb] at q
    by_cases hbe : b = e
    · have q' : H b = some (.own x) := by
        rcases he with z | z
        · exact absurd (hbe.trans z) hb
        · rw [hbe]; exact z
      rw [q] at q'; cases q'
      obtain ⟨v, hv⟩ := heo
      exact ⟨v, by rw [hbe]; exact hv⟩
    · refine (ok b u q).stay (fun c v hc r => k c v ?_ r) (fun c r => by rw [upd_ne (nown c b r)]; exact r) fun c xs r => by rw [upd_ne (ntup c xs r)]; exact r
      rcases hc with rfl | hc
      · exact hbe
      · rintro rfl
        rcases he with z | z
        · exact nown c b hc z
        · rw [hc] at z; cases z; exact hb rfl
end
structure Un (fs ex : List Addr) (H H' : Hp) (h h' : Heap) : Prop where
  keep : ∀ b o, h.get? b = some o → H b = none → b ∉ fs → b ∉ ex → h'.get? b = some o
  slot : ∀ b o, h.get? b = some o → H b = none → b ∈ fs → b ∉ ex → ∃ sl, h'.get? b = some { o with slots := sl }
  free : ∀ b o, h.get? b = some o → H b = none → b ∉ ex → H' b = none
  there : ∀ b o, h.get? b = some o → b ∉ ex → ∃ o', h'.get? b = some o'
  tups : ∀ b xs, H b = some (.tup xs) → H' b = some (.tup xs)
  frzs : ∀ b o u, H b = some (.frz o u) → H' b = some (.frz o u)
  tbls : ∀ b ps, H b = some (.tbl ps) → ∃ more, H' b = some (.tbl (ps ++ more))
section
variable {fs fs' ex ex' : List Addr} {H H1 H2 : Hp} {h h1 h2 h' : Heap} {a x e : Addr} {o : HO}
theorem Un.any (u : Un fs ex H H1 h h1) {b : Addr} {ob : Obj} (q : h.get? b = some ob) (n : H b = none) (hx : b ∉ ex) : ∃ sl, h1.get? b = some { ob with slots := sl } := by
  by_cases hb : b ∈ fs
  · exact u.slot b ob q n hb hx
  · exact ⟨ob.slots, u.keep b ob q n hb hx⟩
theorem Un.trans (a : Un fs ex H H1 h h1) (b : Un fs ex H1 H2 h1 h2) : Un fs ex H H2 h h2 where
  keep := fun c ob q n hc hx => b.keep c ob (a.keep c ob q n hc hx) (a.free c ob q n hx) hc hx
  slot := fun c ob q n hc hx => by
    obtain ⟨sl, e1⟩ := a.slot c ob q n hc hx
    obtain ⟨sl', e2⟩ := b.slot c _ e1 (a.free c ob q n hx) hc hx
    exact ⟨sl', e2⟩
  free := fun c ob q n hx => by
    obtain ⟨o', e1⟩ := a.there c ob q hx
    exact b.free c o' e1 (a.free c ob q n hx) hx
  there := fun c ob q hx => by
    obtain ⟨o', e1⟩ := a.there c ob q hx
    exact b.there c o' e1 hx
  tups := fun c xs q => b.tups c xs (a.tups c xs q)
  frzs := fun c ob xs q => b.frzs c ob xs (a.frzs c ob xs q)
  tbls := fun c ps q => by
    obtain ⟨m1, e1⟩ := a.tbls c ps q
    obtain ⟨m2, e2⟩ := b.tbls c _ e1
    exact ⟨m1 ++ m2, by rw [e2, Array.append_assoc]⟩
theorem Un.kept (k : ∀ b u, h.get? b = some u → h'.get? b = some u) : Un fs ex H H h h' :=
  ⟨fun b ob q _ _ _ => k b ob q, fun b ob q _ _ _ => ⟨ob.slots, k b ob q⟩, fun _ _ _ n _ => n, fun b ob q _ => ⟨ob, k b ob q⟩, fun _ _ q => q, fun _ _ _ q => q, fun _ ps q => ⟨#[], by rw [q]; simp⟩⟩
theorem Un.refl : Un fs ex H H h h := Un.kept fun _ _ q => q
theorem Un.laid (k : ∀ b u, h.get? b = some u → h'.get? b = some u) (hp : h.objs.size ≤ a) (hn : H a = none) : Un fs ex H (upd H a o) h h' where
  keep := fun b u q _ _ _ => k b u q
  slot := fun b u q _ _ _ => ⟨u.slots, k b u q⟩
  free := fun b u q n _ => by rw [upd_ne (Nat.ne_of_lt (Nat.lt_of_lt_of_le (Heap.lt_size q) hp))]; exact n
  there := fun b u q _ => ⟨u, k b u q⟩
  tups := fun b xs q => by rw [upd_ne (ne_of_none q hn)]; exact q
  frzs := fun b u xs q => by rw [upd_ne (ne_of_none q hn)]; exact q
  tbls := fun b ps q => ⟨#[], by rw [upd_ne (ne_of_none q hn), q]; simp⟩
theorem Un.write (mu : Mut (H x)) (he : e = x ∨ H e = some (.own x)) (k : ∀ b u, b ≠ e → h.get? b = some u → h'.get? b = some u) (heo : ∃ u, h'.get? e = some u) : Un fs ex H (upd H x o) h h' := by
  have hx : ∀ b, H b = none → b ≠ x := fun b n z => by subst z; rw [n] at mu; exact mu
  have hb : ∀ b, H b = none → b ≠ e := fun b n z => by
    subst z
    rcases he with r | r
    · exact hx b n r
    · rw [n] at r; cases r
  have hm : ∀ b u, H b = some u → ¬ Mut (some u) → b ≠ x := fun b u q nm z => by subst z; rw [q] at mu; exact nm mu
  refine ⟨fun b u q n _ _ => k b u (hb b n) q, fun b u q n _ _ => ⟨u.slots, k b u (hb b n) q⟩, fun b u q n _ => by rw [upd_ne (hx b n)]; exact n, fun b u q _ => ?_,
    fun b xs q => by rw [upd_ne (hm b _ q fun z => z)]; exact q, fun b u xs q => by rw [upd_ne (hm b _ q fun z => z)]; exact q, fun b ps q => ⟨#[], by rw [upd_ne (hm b _ q fun z => z), q]; simp⟩⟩
  by_cases hbe : b = e
  · subst hbe; exact heo
  · exact ⟨u, k b u hbe q⟩
theorem Un.mono (u : Un fs ex H H1 h h1) (hs : ∀ b ∈ fs, b ∈ fs') (hx : ∀ b ∈ ex, b ∈ ex') : Un fs' ex' H H1 h h1 :=
  ⟨fun b ob q n hb he => u.keep b ob q n (fun z => hb (hs b z)) fun z => he (hx b z), fun _ _ q n _ he => u.any q n fun z => he (hx _ z), fun b ob q n he => u.free b ob q n fun z => he (hx b z), fun b ob q he => u.there b ob q fun z => he (hx b z), u.tups, u.frzs, u.tbls⟩
end
def trk (h : Heap) (H : Hp) : List Addr := (List.range h.objs.size).filter fun a => (H a).isSome
def hidT (h : Heap) (H : Hp) : Heap := PySem.W.hideAll h (trk h H)
theorem hidT_size (h : Heap) (H : Hp) : (hidT h H).objs.size = h.objs.size := PySem.W.hideAll_size _ _
theorem hidT_get {h : Heap} {H : Hp} {b : Addr} {o : Obj} (e : h.get? b = some o) (n : H b = none) : (hidT h H).get? b = some o :=
  PySem.W.hideAll_get _ e fun hm => by
    have q : (H b).isSome = true := (List.mem_filter.mp hm).2
    rw [n] at q; simp at q
theorem of_hidT {h : Heap} {H : Hp} {b : Addr} {o : Obj} (e : (hidT h H).get? b = some o) : h.get? b = some o ∧ H b = none := by
  have e' : h.get? b = some o := PySem.W.of_hideAll (trk h H) e
  refine ⟨e', ?_⟩
  cases q : H b with
  | none => rfl
  | some x =>
    have hm : b ∈ trk h H := List.mem_filter.mpr ⟨List.mem_range.mpr (Heap.lt_size e'), by simp [q]⟩
    have z : (hidT h H).get? b = none := PySem.W.hideAll_none (trk h H) hm
    rw [z] at e; cases e
def allNews (g h : Heap) (L : Addr) : List (Addr × Obj) := (List.range h.objs.size).filterMap fun a => if a = L ∨ (g.get? a).isSome = true then none else (h.get? a).map fun o => (a, o)
theorem mem_allNews {g h : Heap} {L a : Addr} {o : Obj} (h1 : a ≠ L) (h2 : g.get? a = none) (h3 : h.get? a = some o) : (a, o) ∈ allNews g h L :=
  List.mem_filterMap.mpr ⟨a, List.mem_range.mpr (Heap.lt_size h3), by simp [h1, h2, h3]⟩
theorem of_mem_allNews {g h : Heap} {L : Addr} {p : Addr × Obj} (hp : p ∈ allNews g h L) : p.1 ≠ L ∧ g.get? p.1 = none ∧ h.get? p.1 = some p.2 := by
  obtain ⟨b, _, e⟩ := List.mem_filterMap.mp hp
  split at e
  · cases e
  · rename_i hn
    cases q : h.get? b with
    | none => rw [q] at e; simp at e
    | some u =>
      rw [q] at e
      simp only [Option.map_some, Option.some.injEq] at e
      subst e
      refine ⟨fun z => hn (.inl z), ?_, q⟩
      show g.get? b = none
      cases r : g.get? b with
      | none => rfl
      | some v => exact (hn (.inr (by simp [r]))).elim
def rest (g h : Heap) (L d : Addr) : List (Addr × Obj) := (allNews g h L).filter fun p => decide (p.1 ≠ d)
theorem rest_ne {g h : Heap} {L d : Addr} : ∀ p ∈ rest g h L d, p.1 ≠ d := fun p hp => of_decide_eq_true (List.mem_filter.mp hp).2
theorem mem_rest {g h : Heap} {L d a : Addr} {o : Obj} (h1 : a ≠ L) (h2 : g.get? a = none) (h3 : h.get? a = some o) (h4 : a ≠ d) : (a, o) ∈ rest g h L d :=
  List.mem_filter.mpr ⟨mem_allNews h1 h2 h3, decide_eq_true h4⟩
theorem news_all {g h : Heap} {L : Addr} : News g L h (allNews g h L) := fun p hp => let ⟨a, b, c⟩ := of_mem_allNews hp; ⟨c, a, b⟩
theorem news_at {g h : Heap} {L d : Addr} {o : Obj} (h1 : d ≠ L) (h2 : g.get? d = none) (h3 : h.get? d = some o) : News g L h ((d, o) :: rest g h L d) := fun p hp => by
  rcases List.mem_cons.mp hp with rfl | hp
  · exact ⟨h3, h1, h2⟩
  · exact news_all p (List.mem_filter.mp hp).1
theorem kept_of_news {g h h' : Heap} {L d : Addr} {m : Str → Option Value} (k : ∀ b o, g.get? b = some o → h.get? b = some o) (F : Fr g L h' m) (N : News g L h' (rest g h L d)) :
    ∀ b o, b ≠ L → b ≠ d → h.get? b = some o → h'.get? b = some o := fun b o h1 h2 e => by
  cases q : g.get? b with
  | some u =>
    have := k b u q
    rw [e] at this; cases this
    exact F.keep b _ q
  | none => exact (N (b, o) (mem_rest h1 q e h2)).1
end L2
namespace L2
open PySem PySem.Spec PyProof.Rows
structure Mod (K : PySem.W.Frag) (mg : Str → Option Value) (base : Heap) : Prop where
  kin : K.In base
  glob : base.Ns mainGlobals mg
  blt : ∃ mb, base.Ns builtinsNs mb ∧ ∀ x : Str, x ≠ "__name__" → mb x = bootBuiltins x
  nolimit : base.NoLimit
structure Cx where
  prog : Program
  w : World
  K : PySem.W.Frag
  mg : Str → Option Value
  base : Heap
  A : Around
  N : List Str
  s₀ : Shared
  H₀ : Hp
  env : Env
  outer : List Env
  stack : List Env
  ex : List Addr
  fn : Str → Bool
  calm : Bool
  pn : List (Addr × Obj)
  xe : Value → Shared → Prop
def frs (l : List Env) : List Addr := l.filterMap (·.frame)
abbrev Cx.fs (X : Cx) : List Addr := frs X.outer
def Vis (sc : Scope) (x : Str) : Prop := sc.names.lookup x = some .local ∨ sc.names.lookup x = some .cell ∨ sc.names.lookup x = some .free
def Loc (sc : Scope) (x : Str) : Prop := sc.names.lookup x = some .local ∨ sc.names.lookup x = some .cell
def Look (env : Env) (h : Heap) (m : Str → Option Value) (x : Str) (u : Value) : Prop :=
  (env.kindOf x = some .local ∧ m x = some u) ∨ ((env.kindOf x = some .cell ∨ env.kindOf x = some .free) ∧ ∃ c, env.cells.lookup x = some c ∧ h.IsCell c (some u))
structure Cx.Ok (X : Cx) : Prop where
  mod : Mod X.K X.mg X.base
  kind : X.env.scope.kind = .function
  glob : X.env.globals = mainGlobals
  blt : X.env.builtins = builtinsNs
  above : X.s₀.heap.objs.size ≤ X.env.locals
  inj : ∀ x y c, X.env.cells.lookup x = some c → X.env.cells.lookup y = some c → x = y
  has : ∀ x, (X.env.kindOf x = some .cell ∨ X.env.kindOf x = some .free) → ∃ c, X.env.cells.lookup x = some c
  cab : ∀ x c, X.fn x = true → X.env.cells.lookup x = some c → X.s₀.heap.objs.size ≤ c
  hd : X.calm = true → X.A.handled = none
  frames : X.A.frames = some X.stack
  stk : X.stack = X.outer ∨ (X.stack = X.env :: X.outer ∧ X.env.frame = some X.env.locals)
  exf : ∀ b ∈ X.ex, b ≠ X.env.locals ∧ ∀ x c, X.env.cells.lookup x = some c → c ≠ b
  bs : ∀ b o, X.base.get? b = some o → X.s₀.heap.get? b = some o ∧ X.H₀ b = none
  bsz : X.base.objs.size ≤ X.s₀.heap.objs.size
  noex : ∀ b o, X.base.get? b = some o → b ∉ X.ex
  exfs : ∀ b ∈ X.ex, b ∉ X.fs
  funs : X.s₀.heap.FunFrames X.base X.outer
  frf : ∀ b ∈ X.fs, X.H₀ b = none
structure Inv (X : Cx) (pins : List (Addr × Obj)) (σ : List (Option V)) (H : Hp) (s : Shared) : Prop where
  ok : X.Ok
  os : s.os = X.s₀.os
  bare : AllBare s.gens
  base : Un X.fs X.ex X.H₀ H X.s₀.heap s.heap
  loc : ∃ m, s.heap.Ns X.env.locals m ∧ ∀ (i : Nat) (x : Str) (v : V), X.N[i]? = some x → σ[i]? = some (some v) → Vis X.env.scope x → ∃ u, RelV v u ∧ Look X.env s.heap m x u
  cell : ∀ x c, X.env.cells.lookup x = some c → ∃ v, s.heap.IsCell c v
  free : H X.env.locals = none
  freeC : ∀ x c, X.env.cells.lookup x = some c → H c = none
  pin : ∀ p ∈ X.pn ++ pins, s.heap.get? p.1 = some p.2 ∧ H p.1 = none ∧ p.1 ≠ X.env.locals ∧ p.1 ∉ X.fs ∧ ∀ v, p.2.data ≠ .cell v
  hok : HOk X.prog X.w H s.heap
  len : σ.length = X.N.length
section
variable {X : Cx} {pins : List (Addr × Obj)} {σ : List (Option V)} {H H' : Hp} {s : Shared} {h' : Heap}
theorem Cx.Ok.nofr (ok : X.Ok) {b : Addr} {o : Obj} (e : X.base.get? b = some o) : b ∉ X.fs := fun hb => by
  have := (ok.funs.mem hb).1
  rw [e] at this; cases this
theorem Inv.bs (I : Inv X pins σ H s) : ∀ b o, X.base.get? b = some o → s.heap.get? b = some o ∧ H b = none := fun b o e =>
  ⟨I.base.keep b o (I.ok.bs b o e).1 (I.ok.bs b o e).2 (I.ok.nofr e) (I.ok.noex b o e), I.base.free b o (I.ok.bs b o e).1 (I.ok.bs b o e).2 (I.ok.noex b o e)⟩
theorem Inv.bk (I : Inv X pins σ H s) : ∀ b o, X.base.get? b = some o → s.heap.get? b = some o := fun b o e => (I.bs b o e).1
theorem Inv.mod (I : Inv X pins σ H s) : Mod X.K X.mg X.base := I.ok.mod
theorem Inv.kIn (I : Inv X pins σ H s) : X.K.In s.heap := I.ok.mod.kin.keeps I.bk
theorem Inv.nolimit (I : Inv X pins σ H s) : s.heap.NoLimit := I.ok.mod.nolimit.keeps I.bk
theorem Inv.fr (I : Inv X pins σ H s) : ∃ m, Fr X.base X.env.locals s.heap m :=
  let ⟨m, hn, _⟩ := I.loc
  ⟨m, hn, I.bk, Nat.le_trans I.ok.bsz I.ok.above⟩
theorem Inv.lt (I : Inv X pins σ H s) : X.env.locals < s.heap.objs.size := let ⟨_, hn, _⟩ := I.loc; hn.lt
theorem Inv.sz (I : Inv X pins σ H s) : X.s₀.heap.objs.size ≤ s.heap.objs.size := Nat.le_trans I.ok.above (Nat.le_of_lt I.lt)
theorem Inv.nofs (I : Inv X pins σ H s) {a : Addr} (h : s.heap.objs.size ≤ a) : a ∉ X.fs := fun hb => by
  obtain ⟨_, o, ho, _⟩ := I.ok.funs.mem hb
  exact absurd (Nat.lt_of_lt_of_le (Heap.lt_size ho) (Nat.le_trans I.sz h)) (Nat.lt_irrefl _)
theorem Inv.cne (I : Inv X pins σ H s) : ∀ x c, X.env.cells.lookup x = some c → c ≠ X.env.locals := fun x c e z => by
  obtain ⟨v, o, ho, hd⟩ := I.cell x c e
  obtain ⟨m, ⟨o', es, ep, ho', hd', _⟩, _⟩ := I.loc
  rw [z, ho'] at ho; cases ho; rw [hd'] at hd; cases hd
theorem Inv.funs (I : Inv X pins σ H s) : s.heap.FunFrames X.base X.outer := by
  have all : ∀ (l : List Env), (∀ b ∈ frs l, b ∈ X.fs) → X.s₀.heap.FunFrames X.base l → s.heap.FunFrames X.base l := by
    intro l
    induction l with
    | nil => intro _ _; trivial
    | cons env r ih =>
      intro hs hl
      obtain ⟨hk, ⟨L, o, hf, hn, ho, hd⟩, hr⟩ := hl
      have hL : L ∈ X.fs := hs L (by unfold frs; rw [List.filterMap_cons, hf]; exact List.mem_cons_self)
      obtain ⟨sl, e⟩ := I.base.slot L o ho (I.ok.frf L hL) hL fun z => I.ok.exfs L z hL
      exact ⟨hk, ⟨L, _, hf, hn, e, hd⟩, ih (fun b hb => hs b (by unfold frs; rw [List.filterMap_cons, hf]; exact List.mem_cons_of_mem _ hb)) hr⟩
  exact all X.outer (fun _ hb => hb) I.ok.funs
theorem Inv.stack (I : Inv X pins σ H s) : s.heap.FunFrames X.base X.stack := by
  rcases I.ok.stk with e | ⟨e, hf⟩
  · rw [e]; exact I.funs
  · rw [e]
    obtain ⟨m, hn, _⟩ := I.loc
    refine .cons (by rw [I.ok.kind]; decide) hf hn ?_ I.funs
    exact Heap.get?_none_of_le (Nat.le_trans I.ok.bsz I.ok.above)
theorem Inv.stkSub (I : Inv X pins σ H s) : ∀ b ∈ frs X.stack, b ∈ X.env.locals :: X.fs := fun b hb => by
  rcases I.ok.stk with e | ⟨e, hf⟩
  · rw [e] at hb; exact List.mem_cons_of_mem _ hb
  · rw [e] at hb
    unfold frs at hb
    rw [List.filterMap_cons, hf] at hb
    exact hb
theorem Inv.stkFree (I : Inv X pins σ H s) : ∀ b ∈ frs X.stack, H b = none := fun b hb => by
  rcases List.mem_cons.mp (I.stkSub b hb) with e | hb
  · rw [e]; exact I.free
  · obtain ⟨_, o, ho, _⟩ := I.ok.funs.mem hb
    exact I.base.free b o ho (I.ok.frf b hb) fun z => I.ok.exfs b z hb
theorem Inv.step {g' : Array GenState} {t' : Nat} {d' : Drawn} {ch : List Addr} (I : Inv X pins σ H s)
    (hch : ∀ b ∈ ch, (b ∈ X.ex ∨ X.s₀.heap.objs.size ≤ b) ∧ b ≠ X.env.locals ∧ (∀ x c, X.env.cells.lookup x = some c → c ≠ b) ∧ ∀ p ∈ X.pn ++ pins, p.1 ≠ b)
    (keep : ∀ b o, b ≠ X.env.locals → b ∉ X.fs → b ∉ ch → s.heap.get? b = some o → H b = none → h'.get? b = some o)
    (slot : ∀ b o, b ≠ X.env.locals → b ∈ X.fs → b ∉ ch → s.heap.get? b = some o → H b = none → ∃ sl, h'.get? b = some { o with slots := sl }) (free : ∀ b o, b ∉ ch → s.heap.get? b = some o → H b = none → H' b = none)
    (there : ∀ b o, b ∉ ch → s.heap.get? b = some o → ∃ o', h'.get? b = some o')
    (tups : ∀ b xs, H b = some (.tup xs) → H' b = some (.tup xs)) (frzs : ∀ b o u, H b = some (.frz o u) → H' b = some (.frz o u)) (tbls : ∀ b ps, H b = some (.tbl ps) → ∃ more, H' b = some (.tbl (ps ++ more)))
    (ns : ∀ m, s.heap.Ns X.env.locals m → h'.Ns X.env.locals m) (hok : HOk X.prog X.w H' h') (hg : AllBare g') :
    Inv X pins σ H' { s with heap := h', gens := g', drawn := d', toks := t' } := by
  have neL : ∀ b o, X.s₀.heap.get? b = some o → b ≠ X.env.locals := fun b o e => Nat.ne_of_lt (Nat.lt_of_lt_of_le (Heap.lt_size e) I.ok.above)
  have neC : ∀ b o, X.s₀.heap.get? b = some o → b ∉ X.ex → b ∉ ch := fun b o e hx hb => by
    rcases (hch b hb).1 with z | z
    · exact hx z
    · exact absurd (Nat.lt_of_lt_of_le (Heap.lt_size e) z) (Nat.lt_irrefl _)
  have cellK : ∀ x c, X.env.cells.lookup x = some c → ∀ v, s.heap.IsCell c v → h'.IsCell c v := fun x c e v ⟨o, ho, hd⟩ => by
    have nch : c ∉ ch := fun z => (hch c z).2.2.1 x c e rfl
    by_cases hc : c ∈ X.fs
    · obtain ⟨sl, q⟩ := slot c o (I.cne x c e) hc nch ho (I.freeC x c e)
      exact ⟨_, q, hd⟩
    · exact ⟨o, keep c o (I.cne x c e) hc nch ho (I.freeC x c e), hd⟩
  refine ⟨I.ok, I.os, hg, ⟨fun b o e n hb hx => ?_, fun b o e n hb hx => ?_, fun b o e n hx => ?_, fun b o e hx => ?_, fun b xs e => tups b xs (I.base.tups b xs e), fun b o xs e => frzs b o xs (I.base.frzs b o xs e), fun b ps e => ?_⟩, ?_, fun x c e => ?_, ?_, fun x c e => ?_, fun p hp => ?_, hok, I.len⟩
  · exact keep b o (neL b o e) hb (neC b o e hx) (I.base.keep b o e n hb hx) (I.base.free b o e n hx)
  · obtain ⟨sl, e1⟩ := I.base.slot b o e n hb hx
    obtain ⟨sl', e2⟩ := slot b _ (neL b o e) hb (neC b o e hx) e1 (I.base.free b o e n hx)
    exact ⟨sl', e2⟩
  · obtain ⟨o', e1⟩ := I.base.there b o e hx
    exact free b o' (neC b o e hx) e1 (I.base.free b o e n hx)
  · obtain ⟨o', e1⟩ := I.base.there b o e hx
    exact there b o' (neC b o e hx) e1
  · obtain ⟨m1, e1⟩ := I.base.tbls b ps e
    obtain ⟨m2, e2⟩ := tbls b _ e1
    exact ⟨m1 ++ m2, by rw [e2, Array.append_assoc]⟩
  · obtain ⟨m, hn, hl⟩ := I.loc
    refine ⟨m, ns m hn, fun i x v e1 e2 e3 => ?_⟩
    obtain ⟨u, r, l⟩ := hl i x v e1 e2 e3
    refine ⟨u, r, ?_⟩
    rcases l with l | ⟨k, c, e, z⟩
    · exact .inl l
    · exact .inr ⟨k, c, e, cellK x c e _ z⟩
  · obtain ⟨v, z⟩ := I.cell x c e
    exact ⟨v, cellK x c e v z⟩
  · obtain ⟨m, ⟨o, _, _, ho, _⟩, _⟩ := I.loc
    exact free _ o (fun z => (hch _ z).2.1 rfl) ho I.free
  · obtain ⟨v, o, ho, hd⟩ := I.cell x c e
    exact free c o (fun z => (hch c z).2.2.1 x c e rfl) ho (I.freeC x c e)
  · obtain ⟨e, n, ne, nf, d⟩ := I.pin p hp
    have nch : p.1 ∉ ch := fun z => (hch p.1 z).2.2.2 p hp rfl
    exact ⟨keep p.1 p.2 ne nf nch e n, free p.1 p.2 nch e n, ne, nf, d⟩
theorem Inv.un {t' : Nat} (I : Inv X pins σ H s) (u : Un X.fs [] H H' s.heap h') (hok : HOk X.prog X.w H' h') : Inv X pins σ H' { s with heap := h', toks := t' } := by
  obtain ⟨m, ⟨o, es, ep, ho, r⟩, _⟩ := id I.loc
  obtain ⟨sl, hL⟩ := u.any ho I.free (by simp)
  exact I.step (g' := s.gens) (d' := s.drawn) (ch := []) (fun _ z => nomatch z) (fun b o _ hb _ e n => u.keep b o e n hb (by simp)) (fun b o _ hb _ e n => u.slot b o e n hb (by simp)) (fun b o _ e n => u.free b o e n (by simp)) (fun b o _ e => u.there b o e (by simp)) u.tups u.frzs u.tbls (fun m' hm => by
    obtain ⟨o', es', ep', ho', r'⟩ := hm
    rw [ho] at ho'; cases ho'
    exact ⟨_, es', ep', hL, r'⟩) hok I.bare
theorem Inv.call {g' : Array GenState} {t' : Nat} {d' : Drawn} {ch : List Addr} (I : Inv X pins σ H s) (u : Un (frs X.stack) ch H H' s.heap h') (hok : HOk X.prog X.w H' h') (hg : AllBare g')
    (hch : ∀ b ∈ ch, (b ∈ X.ex ∨ X.s₀.heap.objs.size ≤ b) ∧ b ≠ X.env.locals ∧ (∀ x c, X.env.cells.lookup x = some c → c ≠ b) ∧ ∀ p ∈ X.pn ++ pins, p.1 ≠ b) :
    Inv X pins σ H' { s with heap := h', gens := g', drawn := d', toks := t' } := by
  obtain ⟨m, ⟨o, es, ep, ho, r⟩, _⟩ := id I.loc
  obtain ⟨sl, hL⟩ := u.any ho I.free fun z => (hch _ z).2.1 rfl
  exact I.step (ch := ch) hch (fun b o hL hb hc e n => u.keep b o e n (fun z => (List.mem_cons.mp (I.stkSub b z)).elim hL hb) hc) (fun b o _ _ hc e n => u.any e n hc) (fun b o hc e n => u.free b o e n hc) (fun b o hc e => u.there b o e hc) u.tups u.frzs u.tbls (fun m' hm => by
    obtain ⟨o', es', ep', ho', r'⟩ := hm
    rw [ho] at ho'; cases ho'
    exact ⟨_, es', ep', hL, r'⟩) hok hg
theorem Inv.turned {t' : Nat} {it : Addr} (I : Inv X pins σ H s) (k : ∀ b o, b ≠ it → s.heap.get? b = some o → h'.get? b = some o) (hn : H it = none) (hL : it ≠ X.env.locals)
    (h1 : it ∈ X.ex ∨ X.s₀.heap.objs.size ≤ it) (h2 : ∀ x c, X.env.cells.lookup x = some c → c ≠ it) (h3 : ∀ p ∈ X.pn ++ pins, p.1 ≠ it) : Inv X pins σ H { s with heap := h', toks := t' } := by
  have nit : ∀ b u, H b = some u → b ≠ it := fun b u e z => by rw [z, hn] at e; cases e
  refine I.step (g' := s.gens) (d' := s.drawn) (ch := [it]) (fun b hb => ?_) (fun b o _ _ hc e _ => k b o (fun z => hc (by simp [z])) e) (fun b o _ _ hc e _ => ⟨o.slots, k b o (fun z => hc (by simp [z])) e⟩) (fun _ _ _ _ n => n)
    (fun b o hc e => ⟨o, k b o (fun z => hc (by simp [z])) e⟩) (fun _ _ e => e) (fun _ _ _ e => e) (fun b ps e => ⟨#[], by rw [e]; simp⟩) (fun m hm => ?_) (fun b u e => ?_) I.bare
  · have e : b = it := by simpa using hb
    subst e
    exact ⟨h1, hL, h2, h3⟩
  · obtain ⟨o, es, ep, ho, r⟩ := hm
    exact ⟨o, es, ep, k _ o (Ne.symm hL) ho, r⟩
  · refine (I.hok b u e).stay (fun c v hc q => k c v ?_ q) (fun _ q => q) fun _ _ q => q
    rcases hc with z | z
    · rw [z]; exact nit b u e
    · exact nit c _ z
theorem Inv.tok (I : Inv X pins σ H s) (t : Nat) : Inv X pins σ H { s with toks := t } := I.un (h' := s.heap) (t' := t) Un.refl I.hok
theorem Inv.kept {t' : Nat} (I : Inv X pins σ H s) (k : ∀ b u, s.heap.get? b = some u → h'.get? b = some u) : Inv X pins σ H { s with heap := h', toks := t' } := I.un (Un.kept k) (I.hok.kept k)
theorem Inv.laid {a : Addr} {o : HO} {t' : Nat} (I : Inv X pins σ H s) (k : ∀ b u, s.heap.get? b = some u → h'.get? b = some u) (hp : s.heap.objs.size ≤ a) (new : ObjOk X.prog X.w (upd H a o) h' a o) :
    Inv X pins σ (upd H a o) { s with heap := h', toks := t' } := I.un (Un.laid k hp (I.hok.fresh hp)) (I.hok.laid k hp new)
theorem Inv.write {x e : Addr} {o : HO} {t' : Nat} (I : Inv X pins σ H s) (mu : Mut (H x)) (he : e = x ∨ H e = some (.own x)) (k : ∀ b u, b ≠ e → s.heap.get? b = some u → h'.get? b = some u) (heo : ∃ u, h'.get? e = some u)
    (new : ObjOk X.prog X.w (upd H x o) h' x o) : Inv X pins σ (upd H x o) { s with heap := h', toks := t' } := I.un (Un.write mu he k heo) (I.hok.write mu he k heo new)
theorem Inv.weak {σ' : List (Option V)} (I : Inv X pins σ H s) (hl : σ'.length = σ.length) (w : ∀ (i : Nat) v, σ'[i]? = some (some v) → σ[i]? = some (some v)) : Inv X pins σ' H s :=
  ⟨I.ok, I.os, I.bare, I.base, let ⟨m, hn, hl'⟩ := I.loc; ⟨m, hn, fun i x v e1 e2 e3 => hl' i x v e1 (w i v e2) e3⟩, I.cell, I.free, I.freeC, I.pin, I.hok, hl.trans I.len⟩
theorem Inv.pins_of {pins' : List (Addr × Obj)} (I : Inv X pins σ H s) (h : ∀ p ∈ pins', s.heap.get? p.1 = some p.2 ∧ H p.1 = none ∧ p.1 ≠ X.env.locals ∧ p.1 ∉ X.fs ∧ ∀ v, p.2.data ≠ .cell v) : Inv X pins' σ H s :=
  ⟨I.ok, I.os, I.bare, I.base, I.loc, I.cell, I.free, I.freeC, fun p hp => (List.mem_append.mp hp).elim (fun z => I.pin p (List.mem_append_left _ z)) (h p), I.hok, I.len⟩
theorem nodup_ix {N : List Str} (hN : N.Nodup) {i j : Nat} {x : Str} (a : N[i]? = some x) (b : N[j]? = some x) : i = j := by
  obtain ⟨h1, e1⟩ := List.getElem?_eq_some_iff.mp a
  obtain ⟨h2, e2⟩ := List.getElem?_eq_some_iff.mp b
  exact (List.getElem_inj hN).mp (e1.trans e2.symm)
theorem store_ok2 {M : Model} {A : Around} {E : Value → Shared → Prop} {i : Nat} {x : Str} {v : V} {u : Value} {Q : Unit → Shared → Prop} (I : Inv X pins σ H s) (hN : X.N.Nodup) (hi : X.N[i]? = some x) (hx : Loc X.env.scope x) (r : RelV v u)
    (h : ∀ s', Inv X pins (σ.set i (some v)) H s' → (∃ a, Heap.SameBut a s.heap s'.heap ∧ (a = X.env.locals ∨ X.env.cells.lookup x = some a)) → Q () s') (hf : X.fn x = true ∨ X.env.scope.names.lookup x = some .local := by first | exact .inl rfl | exact .inr rfl | assumption) : wpAny M A (storeName X.env x u) Q E s := by
  obtain ⟨m, hn, hl⟩ := id I.loc
  have hcls : (X.env.scope.kind == .class || (X.env.scope.kind == .module && X.env.locals != X.env.globals)) = false := by rw [I.ok.kind]; rfl
  have hiσ : i < σ.length := by rw [I.len]; exact (List.getElem?_eq_some_iff.mp hi).1
  have cne := I.cne
  have tracked : ∀ {a : Addr} {h' : Heap}, (∃ o, s.heap.get? a = some o ∧ H a = none) → Heap.SameBut a s.heap h' → HOk X.prog X.w H h' := fun {a h'} ha hs b ob e => by
    obtain ⟨_, _, hfree⟩ := ha
    refine (I.hok b ob e).stay (fun c w' hc q => (hs.2 c ?_).trans q) (fun _ q => q) fun _ _ q => q
    rintro rfl
    rcases hc with rfl | hc
    · rw [hfree] at e; cases e
    · rw [hfree] at hc; cases hc
  rcases hx with hk | hk
  · refine wpAny_storeName_local hk hn (fun h' hn' hs => ?_) hcls
    obtain ⟨oL, _, _, hoL, _⟩ := id hn
    refine h _ ⟨I.ok, I.os, I.bare, ⟨fun b o e n hb hx => ?_, fun b o e n hb hx => ?_, I.base.free, fun b o e hx => ?_, I.base.tups, I.base.frzs, I.base.tbls⟩, ⟨_, hn', fun j y v' e1 e2 e3 => ?_⟩, fun y c e => ?_, I.free, I.freeC, fun p hp => ?_, tracked ⟨oL, hoL, I.free⟩ hs, by simpa using I.len⟩ ⟨_, hs, .inl rfl⟩
    · exact (hs.2 b (Nat.ne_of_lt (Nat.lt_of_lt_of_le (Heap.lt_size e) I.ok.above))).trans (I.base.keep b o e n hb hx)
    · obtain ⟨sl, e1⟩ := I.base.slot b o e n hb hx
      exact ⟨sl, (hs.2 b (Nat.ne_of_lt (Nat.lt_of_lt_of_le (Heap.lt_size e) I.ok.above))).trans e1⟩
    · obtain ⟨o', e1⟩ := I.base.there b o e hx
      exact ⟨o', (hs.2 b (Nat.ne_of_lt (Nat.lt_of_lt_of_le (Heap.lt_size e) I.ok.above))).trans e1⟩
    · by_cases hj : j = i
      · subst hj
        rw [hi] at e1; cases e1
        rw [List.getElem?_set_self hiσ] at e2
        cases e2
        exact ⟨u, r, .inl ⟨hk, by simp⟩⟩
      · rw [List.getElem?_set_ne (Ne.symm hj)] at e2
        obtain ⟨u', r', q⟩ := hl j y v' e1 e2 e3
        refine ⟨u', r', ?_⟩
        rcases q with ⟨k, e⟩ | ⟨k, c, e, z⟩
        · refine .inl ⟨k, ?_⟩
          have : y ≠ x := fun e => hj (nodup_ix hN e1 (e ▸ hi))
          simp [this, e]
        · exact .inr ⟨k, c, e, z.sameBut hs (cne y c e)⟩
    · obtain ⟨w', z⟩ := I.cell y c e
      exact ⟨w', z.sameBut hs (cne y c e)⟩
    · obtain ⟨e, n, ne, nf, d⟩ := I.pin p hp
      exact ⟨(hs.2 p.1 ne).trans e, n, ne, nf, d⟩
  · have hfn : X.fn x = true := by
      rcases hf with z | z
      · exact z
      · rw [z] at hk; cases hk
    obtain ⟨c, hc⟩ := I.ok.has x (.inl hk)
    obtain ⟨w', z⟩ := I.cell x c hc
    refine wpAny_storeName_cell I.ok.kind hk hc z (fun h' hc' hs => ?_)
    obtain ⟨oc, hoc, hocd⟩ := id z
    refine h { s with heap := h' } ⟨I.ok, I.os, I.bare, ⟨fun b o e n hb hx => ?_, fun b o e n hb hx => ?_, I.base.free, fun b o e hx => ?_, I.base.tups, I.base.frzs, I.base.tbls⟩, ⟨m, hn.sameBut hs (Ne.symm (cne x c hc)), fun j y v' e1 e2 e3 => ?_⟩, fun y c' e => ?_, I.free, I.freeC, fun p hp => ?_, tracked ⟨oc, hoc, I.freeC x c hc⟩ hs, by simpa using I.len⟩ ⟨c, hs, .inr hc⟩
    · exact (hs.2 b (Nat.ne_of_lt (Nat.lt_of_lt_of_le (Heap.lt_size e) (I.ok.cab x c hfn hc)))).trans (I.base.keep b o e n hb hx)
    · obtain ⟨sl, e1⟩ := I.base.slot b o e n hb hx
      exact ⟨sl, (hs.2 b (Nat.ne_of_lt (Nat.lt_of_lt_of_le (Heap.lt_size e) (I.ok.cab x c hfn hc)))).trans e1⟩
    · obtain ⟨o', e1⟩ := I.base.there b o e hx
      exact ⟨o', (hs.2 b (Nat.ne_of_lt (Nat.lt_of_lt_of_le (Heap.lt_size e) (I.ok.cab x c hfn hc)))).trans e1⟩
    · by_cases hj : j = i
      · subst hj
        rw [hi] at e1; cases e1
        rw [List.getElem?_set_self hiσ] at e2
        cases e2
        exact ⟨u, r, .inr ⟨.inl hk, c, hc, hc'⟩⟩
      · rw [List.getElem?_set_ne (Ne.symm hj)] at e2
        obtain ⟨u', r', q⟩ := hl j y v' e1 e2 e3
        refine ⟨u', r', ?_⟩
        rcases q with q | ⟨k, c', e, z'⟩
        · exact .inl q
        · refine .inr ⟨k, c', e, z'.sameBut hs ?_⟩
          rintro rfl
          exact hj (nodup_ix hN e1 (I.ok.inj _ _ _ e hc ▸ hi))
    · by_cases hcc : c' = c
      · subst hcc; exact ⟨_, hc'⟩
      · obtain ⟨w2, z2⟩ := I.cell y c' e
        exact ⟨w2, z2.sameBut hs hcc⟩
    · obtain ⟨e, n, ne, nf, d⟩ := I.pin p hp
      refine ⟨(hs.2 p.1 ?_).trans e, n, ne, nf, d⟩
      intro q
      rw [q, hoc] at e
      have q' : oc = p.2 := Option.some.inj e
      exact d w' (by rw [← q']; exact hocd)
theorem store_ok {M : Model} {A : Around} {E : Value → Shared → Prop} {i : Nat} {x : Str} {v : V} {u : Value} {Q : Unit → Shared → Prop} (I : Inv X pins σ H s) (hN : X.N.Nodup) (hi : X.N[i]? = some x) (hx : Loc X.env.scope x) (r : RelV v u)
    (h : ∀ s', Inv X pins (σ.set i (some v)) H s' → Q () s') (hf : X.fn x = true ∨ X.env.scope.names.lookup x = some .local := by first | exact .inl rfl | exact .inr rfl | assumption) : wpAny M A (storeName X.env x u) Q E s :=
  store_ok2 I hN hi hx r (fun s' I' _ => h s' I') hf
theorem Inv.call' {s' : Shared} {ch : List Addr} (I : Inv X pins σ H s) (ho : s'.os = s.os) (u : Un (frs X.stack) ch H H' s.heap s'.heap) (hok : HOk X.prog X.w H' s'.heap) (hg : AllBare s'.gens)
    (hch : ∀ b ∈ ch, (b ∈ X.ex ∨ X.s₀.heap.objs.size ≤ b) ∧ b ≠ X.env.locals ∧ (∀ x c, X.env.cells.lookup x = some c → c ≠ b) ∧ ∀ p ∈ X.pn ++ pins, p.1 ≠ b) : Inv X pins σ H' s' := by
  obtain ⟨h', g', d', t', o'⟩ := s'
  have e : o' = s.os := ho
  subst e
  exact I.call (g' := g') (t' := t') (d' := d') u hok hg hch
end
abbrev XK := Value → Option Addr → Hp → Prop
abbrev St := List (Option V)
abbrev VK := V → Hp → Prop
abbrev TE := St → Hp → VK → Prop
abbrev TT := St → Hp → (Bool → Hp → Prop) → Prop
abbrev TA := St → Hp → (List V → Hp → Prop) → Prop
structure Ends where
  nx : St → Hp → Prop
  rt : VK
  bk : St → Hp → Prop := fun _ _ => False
  ct : St → Hp → Prop := fun _ _ => False
abbrev TS := Ends → St → Hp → Prop
def EP (X : Cx) (pins : List (Addr × Obj)) (σ : St) (Q : VK) (u : Value) (s' : Shared) : Prop := ∃ v H', Inv X pins σ H' s' ∧ RelV v u ∧ Q v H'
def TP (X : Cx) (pins : List (Addr × Obj)) (σ : St) (Q : Bool → Hp → Prop) (b : Bool) (s' : Shared) : Prop := ∃ H', Inv X pins σ H' s' ∧ Q b H'
def AP (X : Cx) (pins : List (Addr × Obj)) (σ : St) (Q : List V → Hp → Prop) (us : List Value) (s' : Shared) : Prop := ∃ vs H', Inv X pins σ H' s' ∧ Vals vs us ∧ Q vs H'
def SP (X : Cx) (pins : List (Addr × Obj)) (D : Ends) (f : Flow) (s' : Shared) : Prop :=
  match f with
  | .next => ∃ σ' H', Inv X pins σ' H' s' ∧ D.nx σ' H'
  | .brk => ∃ σ' H', Inv X pins σ' H' s' ∧ D.bk σ' H'
  | .cont => ∃ σ' H', Inv X pins σ' H' s' ∧ D.ct σ' H'
  | .ret u => ∃ v σ' H', Inv X pins σ' H' s' ∧ RelV v u ∧ D.rt v H'
def PE (X : Cx) (e : Expr) (t : TE) : Prop :=
  ∀ (pins : List (Addr × Obj)) (s : Shared) (σ : St) (H : Hp) (Q : VK), Inv X pins σ H s → t σ H Q → wpAny (model X.prog X.w) X.A (eval e X.env) (EP X pins σ Q) X.xe s
def PT (X : Cx) (e : Expr) (t : TT) : Prop :=
  ∀ (pins : List (Addr × Obj)) (s : Shared) (σ : St) (H : Hp) (Q : Bool → Hp → Prop), Inv X pins σ H s → t σ H Q → wpAny (model X.prog X.w) X.A (isTrue e X.env (eval e X.env)) (TP X pins σ Q) X.xe s
def PW (X : Cx) (e : Expr) (t : TT) : Prop :=
  ∀ (whole : Sem Value) (pins : List (Addr × Obj)) (s : Shared) (σ : St) (H : Hp) (Q : Bool → Hp → Prop), Inv X pins σ H s → t σ H Q → wpAny (model X.prog X.w) X.A (isTrue e X.env whole) (TP X pins σ Q) X.xe s
theorem PW.pt {X : Cx} {e : Expr} {t : TT} (h : PW X e t) : PT X e t := h _
def PA (X : Cx) (es : List Expr) (t : TA) : Prop :=
  ∀ (pos : Pos) (pins : List (Addr × Obj)) (s : Shared) (σ : St) (H : Hp) (Q : List V → Hp → Prop), Inv X pins σ H s → t σ H Q → wpAny (model X.prog X.w) X.A (spliced (backTo pos (starEach es X.env))) (AP X pins σ Q) X.xe s
def PS (X : Cx) (st : Stmt) (t : TS) : Prop :=
  ∀ (pins : List (Addr × Obj)) (s : Shared) (σ : St) (H : Hp) (D : Ends), Inv X pins σ H s → t D σ H → wpAny (model X.prog X.w) X.A (exec st X.env) (SP X pins D) X.xe s
def PSs (X : Cx) (st : List Stmt) (t : TS) : Prop :=
  ∀ (pins : List (Addr × Obj)) (s : Shared) (σ : St) (H : Hp) (D : Ends), Inv X pins σ H s → t D σ H → wpAny (model X.prog X.w) X.A (execs st X.env) (SP X pins D) X.xe s
theorem thn {α : Type} {t : Sem α} {Q Q' : α → Shared → Prop} {M : Model} {A : Around} {E : Value → Shared → Prop} {s : Shared} (h : wpAny M A t Q E s) (hQ : ∀ a s, Q a s → Q' a s) : wpAny M A t Q' E s := wpAny_mono h hQ fun _ _ x => x
end L2
namespace L2
open PySem PySem.Spec PyProof.Rows
section
variable {X : Cx}
theorem bin {a b : Expr} {ta tb : TE} (ha : PE X a ta) (hb : PE X b tb) {pins : List (Addr × Obj)} {s : Shared} {σ : St} {H : Hp} {R : V → V → Hp → Prop} (I : Inv X pins σ H s) (h : ta σ H fun x H1 => tb σ H1 fun y H2 => R x y H2)
    {α : Type} {Q : α → Shared → Prop} {f : Value → Value → Sem α}
    (hf : ∀ v u s2 x y H2, Inv X pins σ H2 s2 → RelV x v → RelV y u → R x y H2 → wpAny (model X.prog X.w) X.A (f v u) Q X.xe s2) :
    wpAny (model X.prog X.w) X.A (eval a X.env) (fun v s₁ => wpAny (model X.prog X.w) X.A (eval b X.env) (fun u s₂ => wpAny (model X.prog X.w) X.A (f v u) Q X.xe s₂) X.xe s₁) X.xe s := by
  refine thn (ha pins s σ H _ I h) fun v s1 ⟨x, H1, I1, r1, q1⟩ => ?_
  refine thn (hb pins s1 σ H1 _ I1 q1) fun u s2 ⟨y, H2, I2, r2, q2⟩ => ?_
  exact hf v u s2 x y H2 I2 r1 r2 q2
def tVar (i : Nat) : TE := fun σ H Q => ∃ v, σ[i]? = some (some v) ∧ Q v H
def tC (v : V) : TE := fun _ H Q => Q v H
theorem pe_var {i : Nat} {x : Str} {pos : Pos} (hN : X.N[i]? = some x) (hv : Vis X.env.scope x) (hd : (x == ("__debug__" : Str)) = false := by decide) (hcd : (x == ("__classdict__" : Str)) = false := by decide) : PE X (.Name x pos) (tVar i) := by
  intro pins s σ H Q I h
  obtain ⟨v, e, h⟩ := h
  obtain ⟨m, hn, hl⟩ := I.loc
  obtain ⟨u, r, l⟩ := hl i x v hN e hv
  have fin : EP X pins σ Q u s := ⟨v, H, I, r, h⟩
  rcases l with ⟨hk, hm⟩ | ⟨hk, c, hc, hcell⟩
  · exact wpAny_Name (wpAny_loadName_local I.ok.kind hk hn hm fin) hd
  · rcases hk with hk | hk
    · exact wpAny_Name (wpAny_loadName_cell I.ok.kind hk hc hcell fin) hd
    · exact wpAny_Name (wpAny_loadName_free I.ok.kind hk hc hcell fin hcd) hd
theorem pe_int {i j pos} : PE X (.Constant (.int i) j pos) (tC (.int i)) := fun _ _ _ H _ I h => wpAny_Constant_int ⟨.int i, H, I.tok _, ⟨_, rfl⟩, h⟩
theorem pe_bl {b j pos} : PE X (.Constant (.bool b) j pos) (tC (.bl b)) := fun _ _ _ H _ I h => Constant_bool ⟨.bl b, H, I, rfl, h⟩
theorem pe_non {j pos} : PE X (.Constant .none j pos) (tC .non) := fun _ _ _ H _ I h => Constant_none ⟨.non, H, I, rfl, h⟩
theorem pe_str {x j pos} : PE X (.Constant (.str x) j pos) (tC (.str x)) := fun _ _ _ H _ I h => Calls.Constant_str ⟨.str x, H, I.tok _, ⟨_, rfl⟩, h⟩
def Gl (X : Cx) (x : Str) : Prop := X.env.kindOf x = some .globalImplicit
theorem ld_glob {E : Value → Shared → Prop} {pins : List (Addr × Obj)} {s : Shared} {σ : St} {H : Hp} {x : Str} {u : Value} {pos : Pos} {Q : Value → Shared → Prop} (I : Inv X pins σ H s) (hg : Gl X x) (hm : X.mg x = some u) (h : Q u s)
    (hd : (x == ("__debug__" : Str)) = false := by decide) : wpAny (model X.prog X.w) X.A (eval (.Name x pos) X.env) Q E s :=
  Calls.Name_function_global I.ok.kind hg (Calls.loadGlobal_global (by rw [I.ok.glob]; exact I.mod.glob.keeps I.bk) hm h) hd
theorem ld_blt {E : Value → Shared → Prop} {pins : List (Addr × Obj)} {s : Shared} {σ : St} {H : Hp} {x : Str} {u : Value} {pos : Pos} {Q : Value → Shared → Prop} (I : Inv X pins σ H s) (hg : Gl X x) (hm : X.mg x = none) (hv : bootBuiltins x = some u) (h : Q u s)
    (hn : x ≠ "__name__" := by decide) (hd : (x == ("__debug__" : Str)) = false := by decide) : wpAny (model X.prog X.w) X.A (eval (.Name x pos) X.env) Q E s := by
  obtain ⟨mb, h1, h2⟩ := I.mod.blt
  exact Calls.Name_function_global I.ok.kind hg (Calls.loadGlobal_builtin (by rw [I.ok.glob]; exact I.mod.glob.keeps I.bk) hm (by rw [I.ok.blt]; exact h1.keeps I.bk) ((h2 x hn).trans hv) h) hd
theorem pe_glob {x : Str} {v : V} {u : Value} {pos : Pos} (hg : Gl X x) (hm : X.mg x = some u) (r : RelV v u) (hd : (x == ("__debug__" : Str)) = false := by decide) : PE X (.Name x pos) (tC v) :=
  fun _ _ _ H _ I h => ld_glob I hg hm ⟨v, H, I, r, h⟩ hd
theorem pe_bltn {x : Str} {v : V} {u : Value} {pos : Pos} (hg : Gl X x) (hm : X.mg x = none) (hv : bootBuiltins x = some u) (r : RelV v u) (hn : x ≠ "__name__" := by decide) (hd : (x == ("__debug__" : Str)) = false := by decide) : PE X (.Name x pos) (tC v) :=
  fun _ _ _ H _ I h => ld_blt I hg hm hv ⟨v, H, I, r, h⟩ hn hd
def t2I (ta tb : TE) (k : Int → Int → Hp → Prop) : St → Hp → Prop := fun σ H => ta σ H fun x H1 => tb σ H1 fun y H2 => ∃ i j, x = .int i ∧ y = .int j ∧ k i j H2
def tAdd (ta tb : TE) : TE := fun σ H Q => t2I ta tb (fun i j H2 => Q (.int (i + j)) H2) σ H
def tSub (ta tb : TE) : TE := fun σ H Q => t2I ta tb (fun i j H2 => Q (.int (i - j)) H2) σ H
def tMul (ta tb : TE) : TE := fun σ H Q => t2I ta tb (fun i j H2 => (-(2 ^ 64) < i ∧ i < 2 ^ 64) ∧ Q (.int (i * j)) H2) σ H
variable {a b : Expr} {ta tb : TE} {pos : Pos}
theorem pe_add (ha : PE X a ta) (hb : PE X b tb) : PE X (.BinOp a .Add b pos) (tAdd ta tb) := by
  intro pins s σ H Q I h
  refine wpAny_BinOp (bin ha hb I h fun v u s2 x y H2 I2 rx ry q => ?_)
  obtain ⟨i, j, rfl, rfl, q⟩ := q
  obtain ⟨t, rfl⟩ := rx
  obtain ⟨t', rfl⟩ := ry
  exact add_int ⟨.int _, H2, I2.tok _, ⟨_, rfl⟩, q⟩
theorem pe_sub (ha : PE X a ta) (hb : PE X b tb) : PE X (.BinOp a .Sub b pos) (tSub ta tb) := by
  intro pins s σ H Q I h
  refine wpAny_BinOp (bin ha hb I h fun v u s2 x y H2 I2 rx ry q => ?_)
  obtain ⟨i, j, rfl, rfl, q⟩ := q
  obtain ⟨t, rfl⟩ := rx
  obtain ⟨t', rfl⟩ := ry
  exact sub_int ⟨.int _, H2, I2.tok _, ⟨_, rfl⟩, q⟩
theorem pe_mul (ha : PE X a ta) (hb : PE X b tb) : PE X (.BinOp a .Mult b pos) (tMul ta tb) := by
  intro pins s σ H Q I h
  refine wpAny_BinOp (bin ha hb I h fun v u s2 x y H2 I2 rx ry q => ?_)
  obtain ⟨i, j, rfl, rfl, ⟨q1, q2⟩, q⟩ := q
  obtain ⟨t, rfl⟩ := rx
  obtain ⟨t', rfl⟩ := ry
  exact mul_int ⟨.int _, H2, I2.tok _, ⟨_, rfl⟩, q⟩ (.of_left (intBits_le_64 q1 q2))
def PC (X : Cx) (op : CmpOp) (a b : Expr) (t : TE) : Prop :=
  ∀ (pins : List (Addr × Obj)) (s : Shared) (σ : St) (H : Hp) (Q : VK), Inv X pins σ H s → t σ H Q →
    wpAny (model X.prog X.w) X.A (eval a X.env) (fun v s₁ => wpAny (model X.prog X.w) X.A (eval b X.env) (fun u s₂ => wpAny (model X.prog X.w) X.A (compareOp op v u) (EP X pins σ Q) X.xe s₂) X.xe s₁) X.xe s
theorem nobehind (b : Expr) {op : CmpOp} (h : op ≠ .In) (h2 : op ≠ .NotIn) : behindInMarks op b = false := by
  have e1 : (op == CmpOp.In) = false := by cases op <;> first | rfl | exact absurd rfl h
  have e2 : (op == CmpOp.NotIn) = false := by cases op <;> first | rfl | exact absurd rfl h2
  cases b <;> simp [behindInMarks, e1, e2]
def tCmp (p : Int → Int → Bool) (ta tb : TE) : TE := fun σ H Q => t2I ta tb (fun i j H2 => Q (.bl (p i j)) H2) σ H
abbrev tLt : TE → TE → TE := tCmp fun i j => decide (i < j)
abbrev tLe : TE → TE → TE := tCmp fun i j => decide (i ≤ j)
abbrev tGt : TE → TE → TE := tCmp fun i j => decide (j < i)
abbrev tGe : TE → TE → TE := tCmp fun i j => decide (j ≤ i)
abbrev tEqI : TE → TE → TE := tCmp fun i j => decide (i = j)
abbrev tNeI : TE → TE → TE := tCmp fun i j => !decide (i = j)
theorem pc_int {op : CmpOp} {p : Int → Int → Bool} (ha : PE X a ta) (hb : PE X b tb)
    (rule : ∀ (i j : Int) (t u : Tok) (Q : Value → Shared → Prop) (s : Shared), Q (.bool (p i j)) s → wpAny (model X.prog X.w) X.A (compareOp op (.int i t) (.int j u)) Q X.xe s) : PC X op a b (tCmp p ta tb) := by
  intro pins s σ H Q I h
  refine bin ha hb I h fun v u s2 x y H2 I2 rx ry q => ?_
  obtain ⟨i, j, rfl, rfl, q⟩ := q
  obtain ⟨t, rfl⟩ := rx
  obtain ⟨t', rfl⟩ := ry
  exact rule i j t t' _ s2 ⟨.bl _, H2, I2, rfl, q⟩
theorem pc_lt (ha : PE X a ta) (hb : PE X b tb) : PC X .Lt a b (tLt ta tb) := pc_int ha hb fun _ _ _ _ _ _ h => lt_int h
theorem pc_le (ha : PE X a ta) (hb : PE X b tb) : PC X .LtE a b (tLe ta tb) := pc_int ha hb fun _ _ _ _ _ _ h => le_int h
theorem pc_gt (ha : PE X a ta) (hb : PE X b tb) : PC X .Gt a b (tGt ta tb) := pc_int ha hb fun _ _ _ _ _ _ h => gt_int h
theorem pc_ge (ha : PE X a ta) (hb : PE X b tb) : PC X .GtE a b (tGe ta tb) := pc_int ha hb fun _ _ _ _ _ _ h => ge_int h
theorem pc_eqI (ha : PE X a ta) (hb : PE X b tb) : PC X .Eq a b (tEqI ta tb) := pc_int ha hb fun _ _ _ _ _ _ h => eq_int (by rw [Bool.beq_eq_decide_eq]; exact h)
theorem pc_neI (ha : PE X a ta) (hb : PE X b tb) : PC X .NotEq a b (tNeI ta tb) := pc_int ha hb fun _ _ _ _ _ _ h => ne_int (by rw [bne, Bool.beq_eq_decide_eq]; exact h)
def tIsN (ta : TE) : TE := fun σ H Q => ta σ H fun x H1 => Q (.bl (decide (x = .non))) H1
def tNotN (ta : TE) : TE := fun σ H Q => ta σ H fun x H1 => Q (.bl (!decide (x = .non))) H1
theorem RelV.none_iff {x : V} {v : Value} (r : RelV x v) : (v == Value.none) = decide (x = .non) := by
  cases x with
  | non => cases r; rfl
  | bl _ => cases r; rfl
  | int _ => obtain ⟨t, rfl⟩ := r; rfl
  | str _ => obtain ⟨t, rfl⟩ := r; rfl
  | byt _ => obtain ⟨t, rfl⟩ := r; rfl
  | flt _ => obtain ⟨t, rfl⟩ := r; rfl
  | ref _ => cases r; rfl
  | ty _ => cases r; rfl
theorem pc_isN {j pos'} (ha : PE X a ta) : PC X .Is a (.Constant .none j pos') (tIsN ta) := by
  intro pins s σ H Q I h
  refine thn (ha pins s σ H _ I h) fun v s1 ⟨x, H1, I1, r1, q1⟩ => ?_
  exact Constant_none (is_none_gen ⟨.bl _, H1, I1, by rw [r1.none_iff]; rfl, q1⟩)
theorem pc_notN {j pos'} (ha : PE X a ta) : PC X .IsNot a (.Constant .none j pos') (tNotN ta) := by
  intro pins s σ H Q I h
  refine thn (ha pins s σ H _ I h) fun v s1 ⟨x, H1, I1, r1, q1⟩ => ?_
  exact Constant_none (isnot_none_gen ⟨.bl _, H1, I1, by rw [r1.none_iff]; rfl, q1⟩)
def tB (t : TE) : TT := fun σ H Q => t σ H fun x H1 => ∃ c, x = .bl c ∧ Q c H1
theorem pe_cmp {op : CmpOp} {t : TE} (h : PC X op a b t) (h1 : behindInMarks op b = false := by first | exact nobehind _ (by decide) (by decide) | rfl) : PE X (.Compare a [op] [b] pos) t := fun pins s σ H Q I hw => wpAny_Compare1 (h pins s σ H Q I hw) h1
theorem pt_cmp {op : CmpOp} {t : TE} (h : PC X op a b t) (h1 : behindInMarks op b = false := by first | exact nobehind _ (by decide) (by decide) | rfl) : PT X (.Compare a [op] [b] pos) (tB t) := by
  intro pins s σ H Q I hw
  refine wpAny_isTrue_Compare1 (thn (h pins s σ H _ I hw) fun v s1 h1 => thn h1 fun u s2 h2 => thn h2 fun c s3 ⟨x, H1, I1, r1, q1⟩ => ?_) h1
  obtain ⟨d, rfl, q⟩ := q1
  cases r1
  exact wpAny_truthy_bool ⟨H1, I1, q⟩
theorem pt_val {e : Expr} {t : TE} (h : PE X e t) (he : ∀ whole, isTrue e X.env whole = (do let v ← whole; standAt e.pos; holding [v] (truthy v)) := by intro _; rfl) : PT X e (tB t) := by
  intro pins s σ H Q I hw
  refine isTrue_plain (thn (h pins s σ H _ I hw) fun v s1 ⟨x, H1, I1, r1, q1⟩ => ?_) (he _)
  obtain ⟨d, rfl, q⟩ := q1
  cases r1
  exact wpAny_truthy_bool ⟨H1, I1, q⟩
variable {tA tB' : TT} {rest : List Expr}
def tAnd (t u : TT) : TT := fun σ H Q => t σ H fun c H1 => if c = true then u σ H1 Q else Q false H1
def tOr (t u : TT) : TT := fun σ H Q => t σ H fun c H1 => if c = true then Q true H1 else u σ H1 Q
def tNot (t : TT) : TT := fun σ H Q => t σ H fun c H1 => Q (!c) H1
theorem pw_and1 (ha : PT X a tA) : PW X (.BoolOp .And [a] pos) tA := by
  intro wh pins s σ H Q I h
  refine isTrue_and (thn (ha pins s σ H Q I h) fun c s1 e => ?_)
  cases c with
  | true => exact isTrue_and_nil e
  | false => exact e
theorem pw_or1 (ha : PT X a tA) : PW X (.BoolOp .Or [a] pos) tA := by
  intro wh pins s σ H Q I h
  refine isTrue_or (thn (ha pins s σ H Q I h) fun c s1 e => ?_)
  cases c with
  | false => exact isTrue_or_nil e
  | true => exact e
theorem pw_and (ha : PT X a tA) (hb : PW X (.BoolOp .And (b :: rest) pos) tB') : PW X (.BoolOp .And (a :: b :: rest) pos) (tAnd tA tB') := by
  intro wh pins s σ H Q I h
  refine isTrue_and (thn (ha pins s σ H _ I h) fun c s1 ⟨H1, I1, q1⟩ => ?_)
  cases c with
  | true => exact hb wh pins s1 σ H1 Q I1 q1
  | false => exact ⟨H1, I1, q1⟩
theorem pw_or (ha : PT X a tA) (hb : PW X (.BoolOp .Or (b :: rest) pos) tB') : PW X (.BoolOp .Or (a :: b :: rest) pos) (tOr tA tB') := by
  intro wh pins s σ H Q I h
  refine isTrue_or (thn (ha pins s σ H _ I h) fun c s1 ⟨H1, I1, q1⟩ => ?_)
  cases c with
  | true => exact ⟨H1, I1, q1⟩
  | false => exact hb wh pins s1 σ H1 Q I1 q1
theorem pt_not (ha : PT X a tA) : PT X (.UnaryOp .Not a pos) (tNot tA) := by
  intro pins s σ H Q I h
  exact isTrue_not (ha pins s σ H (fun c H1 => Q (!c) H1) I h)
def tAndV (ta tb : TE) : TE := fun σ H Q => ta σ H fun x H1 => ∃ c, x = .bl c ∧ if c = true then tb σ H1 Q else Q (.bl false) H1
def tOrV (ta tb : TE) : TE := fun σ H Q => ta σ H fun x H1 => ∃ c, x = .bl c ∧ if c = true then Q (.bl true) H1 else tb σ H1 Q
def tNotV (ta : TE) : TE := fun σ H Q => ta σ H fun x H1 => ∃ c, x = .bl c ∧ Q (.bl (!c)) H1
theorem pe_one {op} {t : TE} (h : PE X a t) : PE X (.BoolOp op [a] pos) t := fun pins s σ H Q I hw => BoolOp_one (h pins s σ H Q I hw)
theorem pe_and (ha : PE X a ta) (hb : PE X (.BoolOp .And (b :: rest) pos) tb) : PE X (.BoolOp .And (a :: b :: rest) pos) (tAndV ta tb) := by
  intro pins s σ H Q I h
  refine BoolOp_and (thn (ha pins s σ H _ I h) fun v s1 ⟨x, H1, I1, r1, q1⟩ => ?_)
  obtain ⟨c, rfl, q1⟩ := q1
  cases r1
  refine wpAny_truthy_bool ?_
  cases c with
  | true => exact hb pins s1 σ H1 Q I1 q1
  | false => exact ⟨.bl false, H1, I1, rfl, q1⟩
theorem pe_or (ha : PE X a ta) (hb : PE X (.BoolOp .Or (b :: rest) pos) tb) : PE X (.BoolOp .Or (a :: b :: rest) pos) (tOrV ta tb) := by
  intro pins s σ H Q I h
  refine BoolOp_or (thn (ha pins s σ H _ I h) fun v s1 ⟨x, H1, I1, r1, q1⟩ => ?_)
  obtain ⟨c, rfl, q1⟩ := q1
  cases r1
  refine wpAny_truthy_bool ?_
  cases c with
  | false => exact hb pins s1 σ H1 Q I1 q1
  | true => exact ⟨.bl true, H1, I1, rfl, q1⟩
theorem pe_not (ha : PE X a ta) : PE X (.UnaryOp .Not a pos) (tNotV ta) := by
  intro pins s σ H Q I h
  refine UnaryOp_ (thn (ha pins s σ H _ I h) fun v s1 ⟨x, H1, I1, r1, q1⟩ => ?_)
  obtain ⟨c, rfl, q1⟩ := q1
  cases r1
  exact not_of (wpAny_truthy_bool ⟨.bl (!c), H1, I1, rfl, q1⟩)
def tIf (t : TT) (ta tb : TE) : TE := fun σ H Q => t σ H fun c H1 => if c = true then ta σ H1 Q else tb σ H1 Q
theorem pe_ifExp {c : Expr} (hc : PT X c tA) (ha : PE X a ta) (hb : PE X b tb) : PE X (.IfExp c a b pos) (tIf tA ta tb) := by
  intro pins s σ H Q I h
  refine wpAny_IfExp (thn (hc pins s σ H _ I h) fun d s1 ⟨H1, I1, q1⟩ => ?_)
  cases d with
  | true => exact ha pins s1 σ H1 Q I1 q1
  | false => exact hb pins s1 σ H1 Q I1 q1
end
end L2
namespace L2
open PySem PySem.Spec PyProof.Rows
def SqL (K : PySem.W.Frag) (H : Hp) (a : Addr) (xs : List V) : Prop :=
  Rd H a (.lst xs) ∨
    ∃ (o : Obj) (its : Array Value) (n : Nat), K.lookup a = some o ∧ o.cls = .type "list" ∧ o.dict = none ∧ o.data = .seq its n ∧ its.size ≤ sizeLine ∧ Vals xs its.toList
def SqT (K : PySem.W.Frag) (H : Hp) (a : Addr) (xs : List V) : Prop :=
  Rd H a (.tup xs) ∨
    ∃ (o : Obj) (its : Array Value) (n : Nat), K.lookup a = some o ∧ o.cls = .type "tuple" ∧ o.data = .seq its n ∧ its.size ≤ sizeLine ∧ Vals xs its.toList
def absV : Value → Option V
  | .none => some .non
  | .bool b => some (.bl b)
  | .int i _ => some (.int i)
  | .str x _ => some (.str x)
  | .bytes b _ => some (.byt b)
  | .float b _ => some (.flt b)
  | .ref a => some (.ref a)
  | .type n => some (.ty n)
  | _ => none
theorem RelV.abs {x : V} {u : Value} (r : RelV x u) : absV u = some x := by
  cases x with
  | non => cases r; rfl
  | bl _ => cases r; rfl
  | int _ => obtain ⟨t, rfl⟩ := r; rfl
  | str _ => obtain ⟨t, rfl⟩ := r; rfl
  | byt _ => obtain ⟨t, rfl⟩ := r; rfl
  | flt _ => obtain ⟨t, rfl⟩ := r; rfl
  | ref _ => cases r; rfl
  | ty _ => cases r; rfl
theorem RelV.inj {x y : V} {u : Value} (r : RelV x u) (q : RelV y u) : x = y := Option.some.inj (r.abs.symm.trans q.abs)
theorem Vals.inj : ∀ {xs ys : List V} {us : List Value}, Vals xs us → Vals ys us → xs = ys
  | _, _, _, .nil, .nil => rfl
  | _, _, _, .cons r t, .cons r' t' => by rw [r.inj r', Vals.inj t t']
section
variable {X : Cx} {pins : List (Addr × Obj)} {σ : St} {H : Hp} {s : Shared} {a : Addr} {xs ys : List V}
theorem SqL.of {K : PySem.W.Frag} (h : H a = some (.lst xs)) : SqL K H a xs := .inl (.inl h)
theorem SqT.of {K : PySem.W.Frag} (h : H a = some (.tup xs)) : SqT K H a xs := .inl (.inl h)
theorem Inv.list (I : Inv X pins σ H s) (h : SqL X.K H a xs) : ∃ its : List Value, Vals xs its ∧ PlainL s.heap a its.toArray ∧ xs.length ≤ sizeLine := by
  rcases h with h | ⟨o, its, n, hk, hc, hd, hs, hz, r⟩
  · obtain ⟨z, its, n, r, e⟩ := h.ok I.hok
    exact ⟨its, r, ⟨_, n, e, rfl, rfl, rfl⟩, z⟩
  · refine ⟨its.toList, r, ⟨o, n, I.kIn a o hk, hc, hd, by simpa using hs⟩, ?_⟩
    have e := r.length
    simp only [Array.length_toList] at e
    omega
theorem Inv.tuple (I : Inv X pins σ H s) (h : SqT X.K H a xs) : ∃ its : List Value, Vals xs its ∧ IsTup s.heap a its.toArray ∧ xs.length ≤ sizeLine := by
  rcases h with h | ⟨o, its, n, hk, hc, hs, hz, r⟩
  · obtain ⟨z, its, r, p⟩ := h.ok I.hok
    exact ⟨its, r, p, z⟩
  · refine ⟨its.toList, r, ⟨o, I.kIn a o hk, hc, n, by simpa using hs⟩, ?_⟩
    have e := r.length
    simp only [Array.length_toList] at e
    omega
theorem Inv.list_inj (I : Inv X pins σ H s) (h : SqL X.K H a xs) (h' : SqL X.K H a ys) : xs = ys := by
  obtain ⟨its, r, ⟨o, n, e, _, _, d⟩, _⟩ := I.list h
  obtain ⟨its', r', ⟨o', n', e', _, _, d'⟩, _⟩ := I.list h'
  rw [e] at e'; cases e'
  rw [d] at d'
  injection d' with d1 _
  have : its = its' := by simpa using congrArg Array.toList d1
  subst this
  exact r.inj r'
theorem Inv.tuple_inj (I : Inv X pins σ H s) (h : SqT X.K H a xs) (h' : SqT X.K H a ys) : xs = ys := by
  obtain ⟨its, r, ⟨o, e, _, n, d⟩, _⟩ := I.tuple h
  obtain ⟨its', r', ⟨o', e', _, n', d'⟩, _⟩ := I.tuple h'
  rw [e] at e'; cases e'
  rw [d] at d'
  injection d' with d1 _
  have : its = its' := by simpa using congrArg Array.toList d1
  subst this
  exact r.inj r'
end
abbrev Cx.wish (X : Cx) (E : Value → Shared → Prop) : Cx := { X with xe := E }
abbrev Cx.nox (X : Cx) : Cx := X.wish fun _ _ => False
theorem Cx.Ok.wish {X : Cx} (ok : X.Ok) (E : Value → Shared → Prop) : (X.wish E).Ok :=
  ⟨ok.mod, ok.kind, ok.glob, ok.blt, ok.above, ok.inj, ok.has, ok.cab, ok.hd, ok.frames, ok.stk, ok.exf, ok.bs, ok.bsz, ok.noex, ok.exfs, ok.funs, ok.frf⟩
theorem Cx.Ok.unwish {X : Cx} {E : Value → Shared → Prop} (ok : (X.wish E).Ok) : X.Ok :=
  ⟨ok.mod, ok.kind, ok.glob, ok.blt, ok.above, ok.inj, ok.has, ok.cab, ok.hd, ok.frames, ok.stk, ok.exf, ok.bs, ok.bsz, ok.noex, ok.exfs, ok.funs, ok.frf⟩
section
variable {X : Cx} {pins : List (Addr × Obj)} {σ : St} {H : Hp} {s : Shared} {E : Value → Shared → Prop}
theorem Inv.wish (I : Inv X pins σ H s) (E : Value → Shared → Prop) : Inv (X.wish E) pins σ H s := ⟨I.ok.wish E, I.os, I.bare, I.base, I.loc, I.cell, I.free, I.freeC, I.pin, I.hok, I.len⟩
theorem Inv.unwish (I : Inv (X.wish E) pins σ H s) : Inv X pins σ H s := ⟨I.ok.unwish, I.os, I.bare, I.base, I.loc, I.cell, I.free, I.freeC, I.pin, I.hok, I.len⟩
theorem SP.unwish {D : Ends} {f : Flow} {s' : Shared} (h : SP (X.wish E) pins D f s') : SP X pins D f s' := by
  cases f with
  | next => obtain ⟨σ', H', I, q⟩ := h; exact ⟨σ', H', I.unwish, q⟩
  | brk => obtain ⟨σ', H', I, q⟩ := h; exact ⟨σ', H', I.unwish, q⟩
  | cont => obtain ⟨σ', H', I, q⟩ := h; exact ⟨σ', H', I.unwish, q⟩
  | ret u => obtain ⟨v, σ', H', I, r, q⟩ := h; exact ⟨v, σ', H', I.unwish, r, q⟩
theorem PE.nox {e : Expr} {t : TE} (h : PE X.nox e t) : PE X e t := fun pins s σ H Q I hw =>
  wpAny_mono (h pins s σ H Q (I.wish _) hw) (fun _ _ ⟨v, H', I', r, q⟩ => ⟨v, H', I'.unwish, r, q⟩) fun _ _ z => False.elim z
theorem PT.nox {e : Expr} {t : TT} (h : PT X.nox e t) : PT X e t := fun pins s σ H Q I hw =>
  wpAny_mono (h pins s σ H Q (I.wish _) hw) (fun _ _ ⟨H', I', q⟩ => ⟨H', I'.unwish, q⟩) fun _ _ z => False.elim z
theorem PSs.nox {st : List Stmt} {t : TS} (h : PSs X.nox st t) : PSs X st t := fun pins s σ H D I hw =>
  wpAny_mono (h pins s σ H D (I.wish _) hw) (fun _ _ q => q.unwish) fun _ _ z => False.elim z
end
section
variable {X : Cx} {st : Stmt} {rest : List Stmt} {t u : TS} {e : Expr} {te : TE} {pos : Pos}
def tNext : TS := fun D σ H => D.nx σ H
def tSeq (t u : TS) : TS := fun D σ H => t { D with nx := u D } σ H
theorem pss_nil : PSs X [] tNext := fun _ _ σ H _ I h => wpAny_execs_nil ⟨σ, H, I, h⟩
theorem pss_cons (h1 : PS X st t) (h2 : PSs X rest u) : PSs X (st :: rest) (tSeq t u) := by
  intro pins s σ H D I h
  refine wpAny_execs_cons (thn (h1 pins s σ H { D with nx := u D } I h) fun f s1 q => ?_)
  cases f with
  | next =>
    obtain ⟨σ', H', I', q⟩ := q
    exact h2 pins s1 σ' H' D I' q
  | ret v => exact q
  | brk => exact q
  | cont => exact q
theorem pss_one (h1 : PS X st t) : PSs X [st] t := by
  intro pins s σ H D I h
  refine wpAny_execs_cons (thn (h1 pins s σ H D I h) fun f s1 q => ?_)
  cases f with
  | next => exact wpAny_execs_nil q
  | ret v => exact q
  | brk => exact q
  | cont => exact q
def tBreak : TS := fun D σ H => D.bk σ H
def tCont : TS := fun D σ H => D.ct σ H
theorem ps_pass : PS X (.Pass pos) tNext := fun _ _ σ H _ I h => wpAny_Pass ⟨σ, H, I, h⟩
theorem ps_break : PS X (.Break pos) tBreak := fun _ _ σ H _ I h => wpAny_Break ⟨σ, H, I, h⟩
theorem ps_continue : PS X (.Continue pos) tCont := fun _ _ σ H _ I h => wpAny_Continue ⟨σ, H, I, h⟩
theorem Inv.quiet {pins : List (Addr × Obj)} {σ : St} {H : Hp} {s : Shared} (I : Inv X pins σ H s) : interactive X.env = false := by simp [interactive, I.ok.kind]
theorem ps_doc {x j pos pos'} : PS X (.Expr (.Constant (.str x) j pos) pos') tNext := fun _ s σ H _ I h => wpAny_Expr (Calls.Constant_str (show SP X _ _ .next { s with toks := s.toks + 1 } from ⟨σ, H, I.tok _, h⟩)) I.quiet
def tDrop (te : TE) : TS := fun D σ H => te σ H fun _ H1 => D.nx σ H1
theorem ps_expr (he : PE X e te) (hs : swapsWith e none pos.line X.env = pure false := by rfl) : PS X (.Expr e pos) (tDrop te) := by
  intro pins s σ H D I h
  exact wpAny_Expr_any (thn (he pins s σ H _ I h) fun v s1 ⟨x, H1, I1, r1, q1⟩ => ⟨σ, H1, I1, q1⟩) I.quiet hs
def tRet (te : TE) : TS := fun D σ H => te σ H D.rt
theorem ps_ret (he : PE X e te) : PS X (.Return (some e) pos) (tRet te) := by
  intro pins s σ H D I h
  exact wpAny_Return_some (thn (he pins s σ H _ I h) fun v s1 ⟨x, H1, I1, r1, q1⟩ => ⟨x, σ, H1, I1, r1, q1⟩)
def tRetN : TS := fun D _ H => D.rt .non H
theorem ps_retN : PS X (.Return none pos) tRetN := fun _ _ σ H _ I h => wpAny_Return_none ⟨.non, σ, H, I, rfl, h⟩
def tIfS (c : TT) (t u : TS) : TS := fun D σ H => c σ H fun b H1 => if b = true then t D σ H1 else u D σ H1
theorem ps_if {c : Expr} {a b : List Stmt} {tc : TT} (hc : PT X c tc) (ha : PSs X a t) (hb : PSs X b u) : PS X (.If c a b pos) (tIfS tc t u) := by
  intro pins s σ H D I h
  refine wpAny_If (thn (hc pins s σ H _ I h) fun d s1 ⟨H1, I1, q1⟩ => ?_)
  cases d with
  | true => exact ha pins s1 σ H1 D I1 q1
  | false => exact hb pins s1 σ H1 D I1 q1
def tNever : TS := fun _ _ _ => False
theorem ps_never : PS X st tNever := fun _ _ _ _ _ _ h => h.elim
theorem pss_never {sts : List Stmt} : PSs X sts tNever := fun _ _ _ _ _ _ h => h.elim
end
abbrev TG := V → St → Hp → (St → Hp → Prop) → Prop
abbrev TGs := List V → St → Hp → (St → Hp → Prop) → Prop
def PG (X : Cx) (target : Expr) (t : TG) : Prop :=
  ∀ (pins : List (Addr × Obj)) (s : Shared) (σ : St) (H : Hp) (v : V) (u : Value) (Q : St → Hp → Prop), Inv X pins σ H s → RelV v u → t v σ H Q →
    wpAny (model X.prog X.w) X.A (assign target X.env u) (fun _ s' => ∃ σ' H', Inv X pins σ' H' s' ∧ Q σ' H') X.xe s
def PGs (X : Cx) (ts : List Expr) (t : TGs) : Prop :=
  ∀ (pins : List (Addr × Obj)) (s : Shared) (σ : St) (H : Hp) (vs : List V) (us : List Value) (Q : St → Hp → Prop), Inv X pins σ H s → Vals vs us → t vs σ H Q →
    wpAny (model X.prog X.w) X.A (assignInOrder ((assignEach ts X.env).map (·.2)) us) (fun _ s' => ∃ σ' H', Inv X pins σ' H' s' ∧ Q σ' H') X.xe s
abbrev TSet := V → V → V → Hp → (Hp → Prop) → Prop
def PSet (X : Cx) (t : TSet) : Prop :=
  ∀ (pins : List (Addr × Obj)) (s : Shared) (σ : St) (H : Hp) (o i v : V) (ov iv u : Value) (Q : Hp → Prop), Inv X pins σ H s → RelV o ov → RelV i iv → RelV v u → t o i v H Q →
    wpAny (model X.prog X.w) X.A (setItem ov iv u) (fun _ s' => ∃ H', Inv X pins σ H' s' ∧ Q H') X.xe s
abbrev TIp := V → V → Hp → VK → Prop
def PIp (X : Cx) (op : Operator) (t : TIp) : Prop :=
  ∀ (pins : List (Addr × Obj)) (s : Shared) (σ : St) (H : Hp) (x y : V) (v u : Value) (Q : VK), Inv X pins σ H s → RelV x v → RelV y u → t x y H Q →
    wpAny (model X.prog X.w) X.A (inplaceOp op v u) (EP X pins σ Q) X.xe s
section
variable {X : Cx} {pos : Pos}
def gName (i : Nat) : TG := fun v σ H Q => Q (σ.set i (some v)) H
theorem pg_name {i : Nat} {x : Str} (hN : X.N.Nodup) (hi : X.N[i]? = some x) (hx : Loc X.env.scope x) (hf : X.fn x = true ∨ X.env.scope.names.lookup x = some .local := by first | exact .inl rfl | exact .inr rfl | assumption) : PG X (.Name x pos) (gName i) := by
  intro pins s σ H v u Q I r h
  exact wpAny_assign_Name (store_ok I hN hi hx r (fun s' I' => ⟨_, H, I', h⟩) hf)
def gNil : TGs := fun vs σ H Q => vs = [] ∧ Q σ H
def gCons (t : TG) (u : TGs) : TGs := fun vs σ H Q => ∃ v r, vs = v :: r ∧ t v σ H fun σ' H' => u r σ' H' Q
theorem pgs_nil : PGs X [] gNil := by
  intro pins s σ H vs us Q I r h
  obtain ⟨e, h⟩ := h
  subst e
  cases r
  exact assignInOrder_nil ⟨σ, H, I, h⟩
theorem pgs_cons {e : Expr} {es : List Expr} {t : TG} {u : TGs} (h1 : PG X e t) (h2 : PGs X es u)
    (hs : (assignEach (e :: es) X.env).map (·.2) = assign e X.env :: (assignEach es X.env).map (·.2) := by rfl) : PGs X (e :: es) (gCons t u) := by
  intro pins s σ H vs us Q I r h
  obtain ⟨v, vr, e1, h⟩ := h
  subst e1
  cases r with
  | cons r rr =>
    rw [hs]
    refine assignInOrder_cons (thn (h1 pins s σ H _ _ _ I r h) fun _ s1 ⟨σ1, H1, I1, q1⟩ => ?_)
    exact h2 pins s1 σ1 H1 _ _ Q I1 rr q1
def gTup (K : PySem.W.Frag) (n : Nat) (t : TGs) : TG := fun v σ H Q => ∃ a xs, v = .ref a ∧ SqT K H a xs ∧ xs.length = n ∧ t xs σ H Q
theorem pg_tup {es : List Expr} {k : Nat} {t : TGs} {n : Nat} (hc : X.calm = true) (h : PGs X es t)
    (hn : (assignEach es X.env).length = n := by rfl) (hst : (assignEach es X.env).findIdx? (·.1) = none := by rfl) : PG X (.Tuple es k pos) (gTup X.K n t) := by
  intro pins s σ H v u Q I r hw
  obtain ⟨a, xs, e1, hq, hl, hw⟩ := hw
  subst e1
  cases r
  obtain ⟨its, rv, ht, hz⟩ := I.tuple hq
  refine assign_Tuple_tuple (I.ok.hd hc) ht (by simp [hn, ← hl, rv.length]) hst fun h' hx => ?_
  have I1 : Inv X pins σ H { s with heap := h' } := I.kept (t' := s.toks) fun b o e => hx b o (Nat.ne_of_lt (Heap.lt_size e)) e
  exact h pins _ σ H xs _ Q I1 (by simpa using rv) hw
def gSub (to ti : TE) (t : TSet) : TG := fun v σ H Q => to σ H fun o H1 => ti σ H1 fun i H2 => t o i v H2 fun H3 => Q σ H3
theorem pg_sub {o i : Expr} {to ti : TE} {t : TSet} (ho : PE X o to) (hi : PE X i ti) (hs : PSet X t)
    (ha : ∀ v, assign (.Subscript o i pos) X.env v = (do
      let ov ← holding [v] (eval o X.env)
      let iv ← holding [v, ov] (eval i X.env)
      standAt pos
      holding [v, ov, iv] (setItem ov iv v)
      release [v, ov, iv] []) := by intro _; rfl) : PG X (.Subscript o i pos) (gSub to ti t) := by
  intro pins s σ H v u Q I r h
  rw [ha]
  refine wpAny_bind (wpAny_holding (thn (ho pins s σ H _ I h) fun ov s1 ⟨x, H1, I1, r1, q1⟩ => ?_))
  refine wpAny_bind (wpAny_holding (thn (hi pins s1 σ H1 _ I1 q1) fun iv s2 ⟨y, H2, I2, r2, q2⟩ => ?_))
  refine wpAny_bind (wpAny_standAt (wpAny_bind (wpAny_holding (thn (hs pins s2 σ H2 x y v ov iv u _ I2 r1 r2 r q2) fun _ s3 ⟨H3, I3, q3⟩ => ?_))))
  exact wpAny_release ⟨σ, H3, I3, q3⟩
def tAsg (te : TE) (g : TG) : TS := fun D σ H => te σ H fun x H1 => g x σ H1 D.nx
theorem ps_asg {tg e : Expr} {te : TE} {g : TG} (he : PE X e te) (hg : PG X tg g) (hs : swapsWithSole [tg] e pos.line X.env = pure false := by rfl) (hw : swappedStores [tg] e X.env = pure none := by rfl)
    (h1 : (assignEach [tg] X.env).map (·.2) = [assign tg X.env] := by rfl) : PS X (.Assign [tg] e pos) (tAsg te g) := by
  intro pins s σ H D I h
  refine wpAny_Assign_stores (thn (he pins s σ H _ I h) fun v s1 ⟨x, H1, I1, r1, q1⟩ => ?_) hs hw
  rw [h1]
  exact thn (hg pins s1 σ H1 x v _ I1 r1 q1) fun _ s2 q => q
theorem ps_set {i : Nat} {x : Str} {e : Expr} {te : TE} {pos' : Pos} (hN : X.N.Nodup) (hi : X.N[i]? = some x) (hx : Loc X.env.scope x) (he : PE X e te) (hs : swapsWith e (some (.Name x pos')) pos.line X.env = pure false := by rfl) (hf : X.fn x = true ∨ X.env.scope.names.lookup x = some .local := by first | exact .inl rfl | exact .inr rfl | assumption) :
    PS X (.Assign [.Name x pos'] e pos) (tAsg te (gName i)) := by
  intro pins s σ H D I h
  refine wpAny_Assign_Name (thn (he pins s σ H _ I h) fun v s1 ⟨y, H1, I1, r1, q1⟩ => ?_) hs
  exact store_ok I1 hN hi hx r1 (fun s2 I2 => ⟨_, H1, I2, q1⟩) hf
def tPar (i j : Nat) (ta : TA) : TS := fun D σ H => ta σ H fun vs H1 => ∃ v w, vs = [v, w] ∧ D.nx ((σ.set i (some v)).set j (some w)) H1
theorem ps_par {i j : Nat} {x y : Str} {a b : Expr} {ta : TA} {px py pt : Pos} {kt k2 pt2} (hc : X.calm = true) (hN : X.N.Nodup) (hi : X.N[i]? = some x) (hj : X.N[j]? = some y) (hij : i ≠ j)
    (hx : X.env.scope.names.lookup x = some .local) (hy : X.env.scope.names.lookup y = some .local) (ha : PA X [a, b] ta)
    (hw : swappedStores [.Tuple [.Name x px, .Name y py] kt pt] (.Tuple [a, b] k2 pt2) X.env = pure (some [x, y]))
    (hs : swapsWithSole [.Tuple [.Name x px, .Name y py] kt pt] (.Tuple [a, b] k2 pt2) pos.line X.env = pure false := by rfl) :
    PS X (.Assign [.Tuple [.Name x px, .Name y py] kt pt] (.Tuple [a, b] k2 pt2) pos) (tPar i j ta) := by
  intro pins s σ H D I h
  rw [exec_Assign_arm]
  refine wpAny_bind (wpAny_standAt ?_)
  rw [hs]
  refine wpAny_bind (wpAny_pure ?_)
  rw [if_neg (by decide)]
  refine wpAny_bind (Tuple_ (thn (ha _ pins s σ H _ I h) fun us s1 ⟨vs, H1, I1, r1, q1⟩ => ?_))
  obtain ⟨v, w, e1, q1⟩ := q1
  subst e1
  obtain ⟨u1, u2, rfl, rv, rw'⟩ : ∃ u1 u2, us = [u1, u2] ∧ RelV v u1 ∧ RelV w u2 := by
    cases r1 with
    | cons p q =>
      cases q with
      | cons p' q' =>
        cases q'
        exact ⟨_, _, rfl, p, p'⟩
  refine wpAny_newObj_type ?_ (by show 2 ≤ sizeLine; decide)
  have I2 : Inv X pins σ H1 { s1 with heap := s1.heap.push { cls := .type "tuple", data := .seq [u1, u2].toArray } } := I1.kept (t' := s1.toks) fun b o e => Heap.get?_push_of_some _ e
  rw [hw]
  refine wpAny_bind (wpAny_pure ?_)
  show wpAny (model X.prog X.w) X.A (do rule "assign.swapped-stores"; let items ← unpackItems (.ref s1.heap.objs.size) 2 none; assignInOrder [fun v => bindName X.env y v, fun v => bindName X.env x v] items.reverse; pure Flow.next) _ _ _
  refine wpAny_bind (wpAny_rule (wpAny_bind (unpackItems_tuple (items := #[u1, u2]) (I.ok.hd hc) (IsTup.new s1.heap _) fun h' hx' => ?_)))
  have I3 := I2.kept (h' := h') (t' := s1.toks) fun b o e => hx' b o (Nat.ne_of_lt (Heap.lt_size e)) e
  show wpAny _ _ (assignInOrder [fun v => bindName X.env y v, fun v => bindName X.env x v] [u2, u1] >>= fun _ => pure Flow.next) _ _ _
  refine wpAny_bind (assignInOrder_cons (wpAny_bindName (store_ok I3 hN hj (.inl hy) rw' (fun s2 I4 => ?_) (.inr hy))))
  refine assignInOrder_cons (wpAny_bindName (store_ok I4 hN hi (.inl hx) rv (fun s3 I5 => assignInOrder_nil (wpAny_pure ?_)) (.inr hx)))
  rw [List.set_comm _ _ (Ne.symm hij)] at I5
  exact ⟨_, H1, I5, q1⟩
def tAug (i : Nat) (te : TE) (ti : TIp) : TS := fun D σ H => ∃ x, σ[i]? = some (some x) ∧ te σ H fun y H1 => ti x y H1 fun z H2 => D.nx (σ.set i (some z)) H2
theorem ps_aug {i : Nat} {x : Str} {e : Expr} {te : TE} {op : Operator} {ti : TIp} {pos' : Pos} (hN : X.N.Nodup) (hi : X.N[i]? = some x) (hx : Loc X.env.scope x) (he : PE X e te) (ho : PIp X op ti) (hf : X.fn x = true ∨ X.env.scope.names.lookup x = some .local := by first | exact .inl rfl | exact .inr rfl | assumption) :
    PS X (.AugAssign (.Name x pos') op e pos) (tAug i te ti) := by
  intro pins s σ H D I h
  obtain ⟨v, e1, h⟩ := h
  obtain ⟨m, hn, hl⟩ := I.loc
  have vis : Vis X.env.scope x := by rcases hx with k | k; exact .inl k; exact .inr (.inl k)
  obtain ⟨u, r, l⟩ := hl i x v hi e1 vis
  refine wpAny_AugAssign_Name ?_
  have go : wpAny (model X.prog X.w) X.A (eval e X.env) (fun w s₂ => wpAny (model X.prog X.w) X.A (inplaceOp op u w) (fun r s₃ => wpAny (model X.prog X.w) X.A (storeName X.env x r) (fun _ => SP X pins D .next) X.xe s₃) X.xe s₂) X.xe s := by
    refine thn (he pins s σ H _ I h) fun w s1 ⟨y, H1, I1, r1, q1⟩ => ?_
    refine thn (ho pins s1 σ H1 v y u w _ I1 r r1 q1) fun z s2 ⟨zv, H2, I2, r2, q2⟩ => ?_
    exact store_ok I2 hN hi hx r2 (fun s3 I3 => ⟨_, H2, I3, q2⟩) hf
  rcases l with ⟨hk, hm⟩ | ⟨hk, c, hc, hcell⟩
  · exact wpAny_loadName_local I.ok.kind hk hn hm go
  · rcases hk with hk | hk
    · exact wpAny_loadName_cell I.ok.kind hk hc hcell go
    · rcases hx with k | k
      · have : X.env.scope.names.lookup x = some .free := hk
        rw [k] at this; cases this
      · have : X.env.scope.names.lookup x = some .free := hk
        rw [k] at this; cases this
def tAugS (to ti te : TE) (tget : V → V → Hp → VK → Prop) (tip : TIp) (tset : TSet) : TS := fun D σ H => to σ H fun o H1 => ti σ H1 fun i H2 => tget o i H2 fun x H3 => te σ H3 fun y H4 => tip x y H4 fun z H5 => tset o i z H5 fun H6 => D.nx σ H6
def PGet (X : Cx) (t : V → V → Hp → VK → Prop) : Prop :=
  ∀ (pins : List (Addr × Obj)) (s : Shared) (σ : St) (H : Hp) (o i : V) (ov iv : Value) (Q : VK), Inv X pins σ H s → RelV o ov → RelV i iv → t o i H Q →
    wpAny (model X.prog X.w) X.A (getItem ov iv) (EP X pins σ Q) X.xe s
theorem ps_augS {o i e : Expr} {to ti te : TE} {tget : V → V → Hp → VK → Prop} {tip : TIp} {tset : TSet} {op : Operator} {tpos : Pos} (ho : PE X o to) (hi : PE X i ti) (hg : PGet X tget) (he : PE X e te) (hp : PIp X op tip) (hs : PSet X tset)
    (ha : ∀ ov iv new, augStore i ov iv new = (do holding [new, ov, iv] (setItem ov iv new); release [new, ov, iv] []; pure .next) := by intros; rfl) : PS X (.AugAssign (.Subscript o i tpos) op e pos) (tAugS to ti te tget tip tset) := by
  intro pins s σ H D I h
  refine wpAny_AugAssign_SubscriptAny (thn (ho pins s σ H _ I h) fun ov s1 ⟨x1, H1, I1, r1, q1⟩ => ?_) ha
  refine thn (hi pins s1 σ H1 _ I1 q1) fun iv s2 ⟨x2, H2, I2, r2, q2⟩ => ?_
  refine thn (hg pins s2 σ H2 x1 x2 ov iv _ I2 r1 r2 q2) fun old s3 ⟨x3, H3, I3, r3, q3⟩ => ?_
  refine thn (he pins s3 σ H3 _ I3 q3) fun v s4 ⟨x4, H4, I4, r4, q4⟩ => ?_
  refine thn (hp pins s4 σ H4 x3 x4 old v _ I4 r3 r4 q4) fun new s5 ⟨x5, H5, I5, r5, q5⟩ => ?_
  exact thn (hs pins s5 σ H5 x1 x2 x5 ov iv new _ I5 r1 r2 r5 q5) fun _ s6 ⟨H6, I6, q6⟩ => ⟨σ, H6, I6, q6⟩
def ipI (f : Int → Int → Int) : TIp := fun x y H Q => ∃ i j, x = .int i ∧ y = .int j ∧ Q (.int (f i j)) H
theorem ip_add : PIp X .Add (ipI fun i j => i + j) := by
  intro pins s σ H x y v u Q I r1 r2 h
  obtain ⟨i, j, e1, e2, q⟩ := h
  subst e1; subst e2
  obtain ⟨t, rfl⟩ := r1
  obtain ⟨t', rfl⟩ := r2
  exact iadd_int ⟨.int _, H, I.tok _, ⟨_, rfl⟩, q⟩
theorem ip_sub : PIp X .Sub (ipI fun i j => i - j) := by
  intro pins s σ H x y v u Q I r1 r2 h
  obtain ⟨i, j, e1, e2, q⟩ := h
  subst e1; subst e2
  obtain ⟨t, rfl⟩ := r1
  obtain ⟨t', rfl⟩ := r2
  exact isub_int ⟨.int _, H, I.tok _, ⟨_, rfl⟩, q⟩
end
section
variable {X : Cx} {pos : Pos}
def tWhile (c : TT) (tb : TS) : TS := fun D σ H => ∃ W : Nat → St → Hp → Prop, (∃ m, W m σ H) ∧ ∀ m σ H, W m σ H →
  c σ H fun b H1 => if b = true then ∃ N : St → Hp → Prop, (∀ σ' H', N σ' H' → ∃ m', m' < m ∧ W m' σ' H') ∧ tb { D with nx := N, ct := N, bk := D.nx } σ H1 else D.nx σ H1
theorem ps_while {c : Expr} {body : List Stmt} {tc : TT} {tb : TS} (hp : PassesOwn (model X.prog X.w) X.A X.env X.xe) (hc : PT X c tc) (hb : PSs X body tb) : PS X (.While c body [] pos) (tWhile tc tb) := by
  intro pins s σ H D I h
  obtain ⟨W, ⟨m0, w0⟩, turn⟩ := h
  refine wpAny_While (codeAny_whileLoop (fun n s' => ∃ σ' H', Inv X pins σ' H' s' ∧ W n σ' H') ?_ m0 ⟨σ, H, I, w0⟩)
  rintro n s1 ⟨σ1, H1, I1, w1⟩
  refine wpAny_passesOwn hp (thn (hc pins s1 σ1 H1 _ I1 (turn n σ1 H1 w1)) fun b s2 ⟨H2, I2, q2⟩ => ?_)
  cases b with
  | true =>
    obtain ⟨N, hN, q2⟩ := q2
    rw [if_pos rfl]
    refine wpAny_passesOwn hp (thn (hb pins s2 σ1 H2 _ I2 q2) fun f s3 q3 => ?_)
    cases f with
    | next =>
      obtain ⟨σ3, H3, I3, n3⟩ := q3
      obtain ⟨m', hm, w3⟩ := hN σ3 H3 n3
      exact ⟨m', hm, σ3, H3, I3, w3⟩
    | cont =>
      obtain ⟨σ3, H3, I3, n3⟩ := q3
      obtain ⟨m', hm, w3⟩ := hN σ3 H3 n3
      exact ⟨m', hm, σ3, H3, I3, w3⟩
    | brk => exact q3
    | ret v => exact q3
  | false =>
    rw [if_neg Bool.false_ne_true]
    exact wpAny_execs_nil ⟨σ1, H2, I2, q2⟩
end
structure It where
  go : Nat → Hp → Prop
  yld : Nat → Hp → V → Hp → Prop
  stop : Nat → Hp → Prop
def FpOk (X : Cx) (pins : List (Addr × Obj)) (H : Hp) (b : Addr) : Prop :=
  H b = none ∧ b ≠ X.env.locals ∧ b ∉ X.fs ∧ (b ∈ X.ex ∨ X.s₀.heap.objs.size ≤ b) ∧ (∀ x c, X.env.cells.lookup x = some c → c ≠ b) ∧ ∀ p ∈ X.pn ++ pins, p.1 ≠ b
theorem Inv.fpOk {X : Cx} {pins : List (Addr × Obj)} {σ : St} {H H' : Hp} {s : Shared} {b : Addr} (I : Inv X pins σ H s) (hb : s.heap.objs.size ≤ b) (hn : H' b = none) : FpOk X pins H' b := by
  refine ⟨hn, Nat.ne_of_gt (Nat.lt_of_lt_of_le I.lt hb), I.nofs hb, .inr (Nat.le_trans I.sz hb), fun x c e z => ?_, fun p hp z => ?_⟩
  · obtain ⟨v, q⟩ := I.cell x c e
    exact absurd (Nat.lt_of_lt_of_le q.lt (by rw [z]; exact hb)) (Nat.lt_irrefl _)
  · exact absurd (Nat.lt_of_lt_of_le (Heap.lt_size (I.pin p hp).1) (by rw [z]; exact hb)) (Nat.lt_irrefl _)
structure Turn (P : Program) (w : World) (K : PySem.W.Frag) (tg : Expr) (J : It) (fp : List Addr) (it : Addr) (tn : Nat → Heap → Prop) : Prop where
  mem : it ∈ fp
  obj : ∀ i h, tn i h → ∀ b ∈ fp, ∃ o, h.get? b = some o ∧ ∀ v, o.data ≠ .cell v
  keep : ∀ i h h', tn i h → (∀ b ∈ fp, ∀ o, h.get? b = some o → h'.get? b = some o) → tn i h'
  item : ∀ (X : Cx), X.prog = P → X.w = w → X.K = K → X.calm = true → ∀ (i : Nat) (pins : List (Addr × Obj)) (s : Shared) (σ : St) (H : Hp) (E : Value → Shared → Prop), Inv X pins σ H s → (∀ b ∈ fp, FpOk X pins H b) → tn i s.heap → J.go i H →
    wpAny (model P w) X.A (pyNext (.ref it)) (fun r s1 => ∃ u, r = some u ∧
      wpAny (model P w) X.A (letOwnedTupleGo tg (.ref it) u) (fun _ s2 => ∃ x H', Inv X pins σ H' s2 ∧ RelV x u ∧ J.yld i H x H' ∧ tn (i + 1) s2.heap ∧ ∀ b ∈ fp, H' b = none) E s1) E s
  done : ∀ (X : Cx), X.prog = P → X.w = w → X.K = K → X.calm = true → ∀ (i : Nat) (pins : List (Addr × Obj)) (s : Shared) (σ : St) (H : Hp) (E : Value → Shared → Prop), Inv X pins σ H s → (∀ b ∈ fp, FpOk X pins H b) → tn i s.heap → J.stop i H →
    wpAny (model P w) X.A (pyNext (.ref it)) (fun r s1 => r = none ∧ Inv X pins σ H s1) E s
  self : ∀ (A : Around) (i : Nat) (s : Shared) (Q : Value → Shared → Prop) (E : Value → Shared → Prop), tn i s.heap → Q (.ref it) s → wpAny (model P w) A (pyIter (.ref it)) Q E s
abbrev TI := St → Hp → (It → Hp → Prop) → Prop
def PIE (X : Cx) (pins : List (Addr × Obj)) (σ : St) (tg : Expr) (R : It → Hp → Prop) (itv : Value) (s2 : Shared) : Prop :=
  ∃ (it : Addr) (fp : List Addr) (tn : Nat → Heap → Prop) (J : It) (H' : Hp), itv = .ref it ∧ Inv X pins σ H' s2 ∧ Turn X.prog X.w X.K tg J fp it tn ∧ tn 0 s2.heap ∧ (∀ b ∈ fp, FpOk X pins H' b) ∧ R J H'
def PI (X : Cx) (tg iter : Expr) (wi : TI) : Prop :=
  ∀ (pins : List (Addr × Obj)) (s : Shared) (σ : St) (H : Hp) (R : It → Hp → Prop), Inv X pins σ H s → wi σ H R →
    wpAny (model X.prog X.w) X.A (eval iter X.env) (fun v s1 => wpAny (model X.prog X.w) X.A (pyIter v) (PIE X pins σ tg R) X.xe s1) X.xe s
theorem go_of {M : Model} {A : Around} {E : Value → Shared → Prop} {s : Shared} {tg : Expr} {it : Addr} {u : Value} {o : Obj} {n : String} {vs : Array Value} {Q : Unit → Shared → Prop} (ho : s.heap.get? it = some o) (hc : o.cls = .type n) (hd : o.data = .fields vs)
    (hn : ["enumerate", "zip", "dict_itemiterator", "dict_reverseitemiterator", "odict_iterator", "itertools.zip_longest", "itertools.pairwise"].contains n = false) (hQ : Q () s) : wpAny M A (letOwnedTupleGo tg (.ref it) u) Q E s := by
  unfold letOwnedTupleGo
  cases tg <;> first
    | exact wpAny_pure hQ
    | (cases u <;> first
        | exact wpAny_pure hQ
        | (refine wpAny_bind (wpAny_load ho ?_)
           rw [hc, hd]
           show wpAny M A (if (["enumerate", "zip", "dict_itemiterator", "dict_reverseitemiterator", "odict_iterator", "itertools.zip_longest", "itertools.pairwise"].contains n && vs[0]? == some (rawInt _)) = true then _ else _) Q E s
           rw [if_neg (by intro h; rw [hn, Bool.false_and] at h; cases h)]
           exact wpAny_pure hQ))
def Itl (K : PySem.W.Frag) (a : Addr) : It :=
  ⟨fun i H => ∃ xs x, SqL K H a xs ∧ xs[i]? = some x, fun i H x H' => H' = H ∧ ∀ xs, SqL K H a xs → xs[i]? = some x, fun i H => ∃ xs, SqL K H a xs ∧ xs.length ≤ i⟩
def Itt (K : PySem.W.Frag) (a : Addr) : It :=
  ⟨fun i H => ∃ xs x, SqT K H a xs ∧ xs[i]? = some x, fun i H x H' => H' = H ∧ ∀ xs, SqT K H a xs → xs[i]? = some x, fun i H => ∃ xs, SqT K H a xs ∧ xs.length ≤ i⟩
def Itr (lo : Int) (n : Nat) : It := ⟨fun i _ => i < n, fun i H x H' => H' = H ∧ x = .int (lo + i), fun i _ => n ≤ i⟩
theorem turn_list {P : Program} {w : World} {K : PySem.W.Frag} {tg : Expr} (a it : Addr) : Turn P w K tg (Itl K a) [it] it (fun i h => h.IsListIter it a i) where
  mem := by simp
  obj := fun i h st b hb => by
    have e : b = it := by simpa using hb
    subst e
    obtain ⟨o, e, c, d⟩ := st
    exact ⟨o, e, fun v z => by rw [d] at z; cases z⟩
  keep := fun i h h' st k => st.at fun o e => k it (by simp) o e
  item := by
    intro X hP hw hK hc i pins s σ H E I hf st hg
    subst hP hw hK
    obtain ⟨xs, x, hq, hx⟩ := hg
    obtain ⟨its, rv, p, hz⟩ := I.list hq
    obtain ⟨u, hu, ru⟩ := rv.get hx
    obtain ⟨f0, f1, f2, f3, f4, f5⟩ := hf it (by simp)
    refine wpAny_pyNext_list_item st p.isList (x := u) (by simpa using hu) fun h' st' sb => ?_
    have I1 : Inv X pins σ H { s with heap := h' } := I.turned (t' := s.toks) (fun b o hb e => (sb.2 b hb).trans e) f0 f1 f3 f4 f5
    obtain ⟨o, e, c, d⟩ := id st'
    exact ⟨u, rfl, go_of (s := { s with heap := h' }) e c d (by decide) ⟨x, H, I1, ru, ⟨rfl, fun ys hy => by rw [I.list_inj hy hq]; exact hx⟩, st', fun b hb => (hf b hb).1⟩⟩
  done := by
    intro X hP hw hK hc i pins s σ H E I hf st hg
    subst hP hw hK
    obtain ⟨xs, hq, hx⟩ := hg
    obtain ⟨its, rv, p, hz⟩ := I.list hq
    obtain ⟨f0, f1, f2, f3, f4, f5⟩ := hf it (by simp)
    have hl := rv.length
    exact wpAny_pyNext_list_end (I.ok.hd hc) st p.isList (by simp; omega) fun h' eb => ⟨rfl, I.turned (t' := s.toks) (fun b o hb e => eb b o hb e) f0 f1 f3 f4 f5⟩
  self := fun _ _ _ _ _ st h => wpAny_pyIter_listiter st h
theorem turn_tuple {P : Program} {w : World} {K : PySem.W.Frag} {tg : Expr} (a it : Addr) : Turn P w K tg (Itt K a) [it] it (fun i h => h.IsTupleIter it a i) where
  mem := by simp
  obj := fun i h st b hb => by
    have e : b = it := by simpa using hb
    subst e
    obtain ⟨o, e, c, d⟩ := st
    exact ⟨o, e, fun v z => by rw [d] at z; cases z⟩
  keep := fun i h h' st k => st.at fun o e => k it (by simp) o e
  item := by
    intro X hP hw hK hc i pins s σ H E I hf st hg
    subst hP hw hK
    obtain ⟨xs, x, hq, hx⟩ := hg
    obtain ⟨its, rv, p, hz⟩ := I.tuple hq
    obtain ⟨u, hu, ru⟩ := rv.get hx
    obtain ⟨f0, f1, f2, f3, f4, f5⟩ := hf it (by simp)
    refine wpAny_pyNext_tuple_item st (show s.heap.IsTuple a its.toArray from p) (x := u) (by simpa using hu) fun h' st' sb => ?_
    have I1 : Inv X pins σ H { s with heap := h' } := I.turned (t' := s.toks) (fun b o hb e => (sb.2 b hb).trans e) f0 f1 f3 f4 f5
    obtain ⟨o, e, c, d⟩ := id st'
    exact ⟨u, rfl, go_of (s := { s with heap := h' }) e c d (by decide) ⟨x, H, I1, ru, ⟨rfl, fun ys hy => by rw [I.tuple_inj hy hq]; exact hx⟩, st', fun b hb => (hf b hb).1⟩⟩
  done := by
    intro X hP hw hK hc i pins s σ H E I hf st hg
    subst hP hw hK
    obtain ⟨xs, hq, hx⟩ := hg
    obtain ⟨its, rv, p, hz⟩ := I.tuple hq
    obtain ⟨f0, f1, f2, f3, f4, f5⟩ := hf it (by simp)
    have hl := rv.length
    exact wpAny_pyNext_tuple_end (I.ok.hd hc) st (show s.heap.IsTuple a its.toArray from p) (by simp; omega) fun h' eb => ⟨rfl, I.turned (t' := s.toks) (fun b o hb e => eb b o hb e) f0 f1 f3 f4 f5⟩
  self := fun _ _ _ _ _ st h => wpAny_pyIter_tupleiter st h
theorem turn_range {P : Program} {w : World} {K : PySem.W.Frag} {tg : Expr} (it : Addr) (lo : Int) (n : Nat) : Turn P w K tg (Itr lo n) [it] it (fun i h => IsRangeIter h it (lo + (i : Nat) * 1) ((n : Int) - (i : Nat)) 1) where
  mem := by simp
  obj := fun i h st b hb => by
    have e : b = it := by simpa using hb
    subst e
    exact ⟨_, st, fun v z => by
      have z' : Data.fields _ = Data.cell v := z
      cases z'⟩
  keep := fun i h h' st k => k it (by simp) _ st
  item := by
    intro X hP hw hK hc i pins s σ H E I hf st hg
    subst hP hw hK
    obtain ⟨f0, f1, f2, f3, f4, f5⟩ := hf it (by simp)
    have W := Walks.range (prog := X.prog) (w := X.w) (I.ok.hd hc) it lo 1 n
    refine W.item i s _ _ hg st fun v h' tk hv st' kk => ?_
    obtain ⟨t, rfl⟩ := hv
    have I1 : Inv X pins σ H { s with heap := h', toks := tk } := I.turned (fun b o hb e => kk b o (by simpa using hb) e) f0 f1 f3 f4 f5
    refine ⟨_, rfl, go_of (s := { s with heap := h', toks := tk }) (n := "range_iterator") st' rfl rfl (by decide) ⟨.int (lo + i), H, I1, ⟨t, ?_⟩, ⟨rfl, rfl⟩, st', fun b hb => (hf b hb).1⟩⟩
    rw [Int.mul_one]
  done := by
    intro X hP hw hK hc i pins s σ H E I hf st hg
    subst hP hw hK
    obtain ⟨f0, f1, f2, f3, f4, f5⟩ := hf it (by simp)
    exact wpAny_pyNext_range_end (I.ok.hd hc) st (by have : n ≤ i := hg; omega) fun h' eb => ⟨rfl, I.turned (t' := s.toks) (fun b o hb e => eb b o hb e) f0 f1 f3 f4 f5⟩
  self := fun _ _ _ _ _ st h => wpAny_pyIter_rangeiter st h
end L2
namespace L2
open PySem PySem.Spec PyProof.Rows
section
variable {X : Cx} {tg : Expr}
def iList (K : PySem.W.Frag) (tl : TE) : TI := fun σ H R => tl σ H fun x H1 => ∃ a, x = .ref a ∧ (∃ xs, SqL K H1 a xs) ∧ R (Itl K a) H1
def iTup (K : PySem.W.Frag) (tl : TE) : TI := fun σ H R => tl σ H fun x H1 => ∃ a, x = .ref a ∧ (∃ xs, SqT K H1 a xs) ∧ R (Itt K a) H1
theorem pi_list {l : Expr} {tl : TE} (hl : PE X l tl) : PI X tg l (iList X.K tl) := by
  intro pins s σ H R I h
  refine thn (hl pins s σ H _ I h) fun v s1 ⟨x, H1, I1, r1, q1⟩ => ?_
  obtain ⟨a, e, ⟨xs, hq⟩, q⟩ := q1
  subst e
  cases r1
  obtain ⟨its, rv, p, hz⟩ := I1.list hq
  refine wpAny_pyIter_list p.isList ?_
  refine ⟨s1.heap.objs.size, [s1.heap.objs.size], _, _, H1, rfl, I1.kept (t' := s1.toks) fun b o e => Heap.get?_push_of_some _ e, turn_list a _, ⟨_, Heap.get?_push_size _ rfl, rfl, rfl⟩, fun b hb => ?_, q⟩
  have e : b = s1.heap.objs.size := by simpa using hb
  subst e
  exact I1.fpOk (Nat.le_refl _) (I1.hok.fresh (Nat.le_refl _))
theorem pi_tup {l : Expr} {tl : TE} (hl : PE X l tl) : PI X tg l (iTup X.K tl) := by
  intro pins s σ H R I h
  refine thn (hl pins s σ H _ I h) fun v s1 ⟨x, H1, I1, r1, q1⟩ => ?_
  obtain ⟨a, e, ⟨xs, hq⟩, q⟩ := q1
  subst e
  cases r1
  obtain ⟨its, rv, p, hz⟩ := I1.tuple hq
  refine wpAny_pyIter_tuple (show s1.heap.IsTuple a its.toArray from p) ?_
  refine ⟨s1.heap.objs.size, [s1.heap.objs.size], _, _, H1, rfl, I1.kept (t' := s1.toks) fun b o e => Heap.get?_push_of_some _ e, turn_tuple a _, ⟨_, Heap.get?_push_size _ rfl, rfl, rfl⟩, fun b hb => ?_, q⟩
  have e : b = s1.heap.objs.size := by simpa using hb
  subst e
  exact I1.fpOk (Nat.le_refl _) (I1.hok.fresh (Nat.le_refl _))
theorem range_it {pins : List (Addr × Obj)} {σ : St} {H : Hp} {s : Shared} {R : It → Hp → Prop} {E : Value → Shared → Prop} {lo hi : Int} {t u v : Tok} {tk : Nat} (I : Inv X pins σ H s) (h1 : -(2 ^ 62) ≤ lo) (h2 : lo < 2 ^ 62) (h3 : -(2 ^ 62) ≤ hi) (h4 : hi < 2 ^ 62)
    (q : R (Itr lo (hi - lo).toNat) H) : wpAny (model X.prog X.w) X.A (pyIter (.ref s.heap.objs.size)) (PIE X pins σ tg R) E { s with heap := s.heap.push { cls := .type "range", data := .fields #[.int lo t, .int hi u, .int 1 v] }, toks := tk } := by
  refine wpAny_pyIter_range (IsRange.new ..) (small_one h1 h2 h3 h4) ?_
  have I1 : Inv X pins σ H { s with heap := s.heap.push { cls := .type "range", data := .fields #[.int lo t, .int hi u, .int 1 v] }, toks := tk } := I.kept fun b o e => Heap.get?_push_of_some _ e
  refine ⟨(s.heap.push { cls := .type "range", data := .fields #[.int lo t, .int hi u, .int 1 v] }).objs.size, [(s.heap.push { cls := .type "range", data := .fields #[.int lo t, .int hi u, .int 1 v] }).objs.size], _, _, H, rfl,
    I1.kept (t' := tk) fun b o e => Heap.get?_push_of_some _ e, turn_range _ lo (hi - lo).toNat, ?_, fun b hb => ?_, q⟩
  · have e1 : lo + ((0 : Nat) : Int) * 1 = lo := by simp
    have e2 : (((hi - lo).toNat : Nat) : Int) - ((0 : Nat) : Int) = Builtin.Range.rangeSize lo hi 1 := by rw [rangeSize_one]; split <;> omega
    show IsRangeIter _ _ (lo + ((0 : Nat) : Int) * 1) ((((hi - lo).toNat : Nat) : Int) - ((0 : Nat) : Int)) 1
    rw [e1, e2]
    exact Heap.get?_push_size _ rfl
  · have e : b = (s.heap.push { cls := .type "range", data := .fields #[.int lo t, .int hi u, .int 1 v] }).objs.size := by simpa using hb
    subst e
    exact I1.fpOk (Nat.le_refl _) (I1.hok.fresh (Nat.le_refl _))
def iRng1 (ta : TA) : TI := fun σ H R => ta σ H fun vs H1 => ∃ j : Int, vs = [.int j] ∧ -(2 ^ 62) ≤ j ∧ j < 2 ^ 62 ∧ R (Itr 0 j.toNat) H1
def iRng2 (ta : TA) : TI := fun σ H R => ta σ H fun vs H1 => ∃ i j : Int, vs = [.int i, .int j] ∧ (-(2 ^ 62) ≤ i ∧ i < 2 ^ 62 ∧ -(2 ^ 62) ≤ j ∧ j < 2 ^ 62) ∧ R (Itr i (j - i).toNat) H1
theorem pi_range1 {a : Expr} {ta : TA} {p pos : Pos} (hg : Gl X "range") (hm : X.mg "range" = none) (ha : PA X [a] ta) (hs : starEach [a] X.env = [(false, eval a X.env)] := by rfl) : PI X tg (.Call (.Name "range" p) [a] [] pos) (iRng1 ta) := by
  intro pins s σ H R I h
  refine Call_ (ld_blt I hg hm boot_range (PyProof.Rows.callWith_type1 (thn (ha pos pins s σ H _ I h) fun us s1 ⟨vs, H1, I1, r1, q1⟩ => ?_) hs rfl))
  obtain ⟨j, e, q1, q2, q⟩ := q1
  subst e
  cases r1 with
  | cons r rr =>
    cases rr
    obtain ⟨t, rfl⟩ := r
    exact call_range_1 (range_it I1 (by omega) (by omega) q1 q2 (by simpa using q))
theorem pi_range2 {a b : Expr} {ta : TA} {p pos : Pos} (hg : Gl X "range") (hm : X.mg "range" = none) (ha : PA X [a, b] ta) (hs : starEach [a, b] X.env = [(false, eval a X.env), (false, eval b X.env)] := by rfl) (hs2 : starEach [b] X.env = [(false, eval b X.env)] := by rfl) :
    PI X tg (.Call (.Name "range" p) [a, b] [] pos) (iRng2 ta) := by
  intro pins s σ H R I h
  refine Call_ (ld_blt I hg hm boot_range (PyProof.Rows.callWith_type1 (thn (ha pos pins s σ H _ I h) fun us s1 ⟨vs, H1, I1, r1, q1⟩ => ?_) (by rw [hs, hs2]) (by rw [hs2]; rfl)))
  obtain ⟨i, j, e, ⟨q1, q2, q3, q4⟩, q⟩ := q1
  subst e
  cases r1 with
  | cons r rr =>
    cases rr with
    | cons r' rr =>
      cases rr
      obtain ⟨t, rfl⟩ := r
      obtain ⟨t', rfl⟩ := r'
      exact call_range_2 (range_it I1 q1 q2 q3 q4 q)
def tFor (wi : TI) (g : TG) (tb : TS) : TS := fun D σ H => wi σ H fun J H1 => ∃ W : Nat → Nat → St → Hp → Prop, (∃ m, W 0 m σ H1) ∧ ∀ i m σ H, W i m σ H →
  (J.stop i H ∧ D.nx σ H) ∨ (J.go i H ∧ ∃ N : St → Hp → Prop, (∀ σ' H', N σ' H' → ∃ m', m' < m ∧ W (i + 1) m' σ' H') ∧ ∀ x H', J.yld i H x H' → g x σ H' fun σ2 H2 => tb { D with nx := N, ct := N, bk := D.nx } σ2 H2)
def pinsAt (fp : List Addr) (h : Heap) : List (Addr × Obj) := fp.filterMap fun b => (h.get? b).map fun o => (b, o)
theorem mem_pinsAt {fp : List Addr} {h : Heap} {b : Addr} {o : Obj} (hb : b ∈ fp) (e : h.get? b = some o) : (b, o) ∈ pinsAt fp h := List.mem_filterMap.mpr ⟨b, hb, by rw [e]; rfl⟩
theorem of_pinsAt {fp : List Addr} {h : Heap} {p : Addr × Obj} (hp : p ∈ pinsAt fp h) : p.1 ∈ fp ∧ h.get? p.1 = some p.2 := by
  obtain ⟨b, hb, e⟩ := List.mem_filterMap.mp hp
  cases q : h.get? b with
  | none => rw [q] at e; cases e
  | some o =>
    rw [q] at e
    have e' : (b, o) = p := Option.some.inj e
    subst e'
    exact ⟨hb, q⟩
theorem Inv.pinned {pins : List (Addr × Obj)} {σ : St} {H : Hp} {s : Shared} {fp : List Addr} (I : Inv X pins σ H s) (hf : ∀ b ∈ fp, FpOk X pins H b) (ho : ∀ b ∈ fp, ∃ o, s.heap.get? b = some o ∧ ∀ v, o.data ≠ .cell v) : Inv X (pins ++ pinsAt fp s.heap) σ H s :=
  I.pins_of fun p hp => (List.mem_append.mp hp).elim (fun z => I.pin p (List.mem_append_right _ z)) fun z => by
    obtain ⟨hb, e⟩ := of_pinsAt z
    obtain ⟨f0, f1, f2, _⟩ := hf p.1 hb
    obtain ⟨o, e', d⟩ := ho p.1 hb
    rw [e] at e'; cases e'
    exact ⟨e, f0, f1, f2, d⟩
theorem Inv.unpinned {pins pl : List (Addr × Obj)} {σ : St} {H : Hp} {s : Shared} (I : Inv X (pins ++ pl) σ H s) : Inv X pins σ H s := I.pins_of fun p hp => I.pin p (List.mem_append_right _ (List.mem_append_left _ hp))
theorem ps_for {iter : Expr} {body : List Stmt} {wi : TI} {g : TG} {tb : TS} {pos : Pos} (hp : PassesOwn (model X.prog X.w) X.A X.env X.xe) (hc : X.calm = true) (hi : PI X tg iter wi) (hg : PG X tg g) (hb : PSs X body tb)
    (hs : ∀ x, foldedSetIterable iter X.env x = pure x := by intro _; rfl) : PS X (.For tg iter body [] pos) (tFor wi g tb) := by
  intro pins s σ H D I h
  refine wpAny_For (thn (hi pins s σ H _ I h) fun v s1 h1 => thn h1 fun itv s2 h2 => ?_) hs
  obtain ⟨it, fp, tn, J, H2, e, I2, T, st2, f2, W, ⟨m0, w0⟩, turn⟩ := h2
  subst e
  have stat : ∀ {H' : Hp}, (∀ b ∈ fp, H' b = none) → ∀ b ∈ fp, FpOk X pins H' b := fun hn b hb => ⟨hn b hb, (f2 b hb).2⟩
  refine codeAny_forLoop_any (fun n s' => ∃ i σ' H', Inv X pins σ' H' s' ∧ tn i s'.heap ∧ (∀ b ∈ fp, H' b = none) ∧ W i n σ' H') ?_ m0 ⟨0, σ, H2, I2, st2, fun b hb => (f2 b hb).1, w0⟩
  rintro n s3 ⟨i, σ3, H3, I3, st3, fr3, w3⟩
  rcases turn i n σ3 H3 w3 with ⟨stop, qn⟩ | ⟨go, N, hN, step⟩
  · refine wpAny_passesOwn hp (thn (T.done X rfl rfl rfl hc i pins s3 σ3 H3 X.xe I3 (stat fr3) st3 stop) fun r s4 ⟨hr, I4⟩ => ?_)
    subst hr
    exact wpAny_execs_nil ⟨σ3, H3, I4, qn⟩
  · refine wpAny_passesOwn hp (thn (T.item X rfl rfl rfl hc i pins s3 σ3 H3 X.xe I3 (stat fr3) st3 go) fun r s4 ⟨u, hr, h4⟩ => ?_)
    subst hr
    refine wpAny_passesOwn hp (thn h4 fun _ s5 ⟨x, H5, I5, r5, y5, st5, fr5⟩ => ?_)
    have I5' := I5.pinned (stat fr5) (T.obj _ _ st5)
    refine wpAny_passesOwn hp (thn (hg _ s5 σ3 H5 x u _ I5' r5 (step x H5 y5)) fun _ s6 ⟨σ6, H6, I6, q6⟩ => ?_)
    refine wpAny_passesOwn hp (thn (hb _ s6 σ6 H6 _ I6 q6) fun f s7 q7 => ?_)
    have again : ∀ {σ7 : St} {H7 : Hp}, Inv X (pins ++ pinsAt fp s5.heap) σ7 H7 s7 → N σ7 H7 → ∃ m, m < n ∧ ∃ i σ' H', Inv X pins σ' H' s7 ∧ tn i s7.heap ∧ (∀ b ∈ fp, H' b = none) ∧ W i m σ' H' := fun {σ7 H7} I7 n7 => by
      obtain ⟨m', hm, w7⟩ := hN σ7 H7 n7
      refine ⟨m', hm, i + 1, σ7, H7, I7.unpinned, T.keep _ _ _ st5 fun b hb o e => (I7.pin (b, o) (List.mem_append_right _ (List.mem_append_right _ (mem_pinsAt hb e)))).1, fun b hb => ?_, w7⟩
      obtain ⟨o, e, d⟩ := T.obj _ _ st5 b hb
      exact (I7.pin (b, o) (List.mem_append_right _ (List.mem_append_right _ (mem_pinsAt hb e)))).2.1
    cases f with
    | next => obtain ⟨σ7, H7, I7, n7⟩ := q7; exact again I7 n7
    | cont => obtain ⟨σ7, H7, I7, n7⟩ := q7; exact again I7 n7
    | brk => obtain ⟨σ7, H7, I7, q7⟩ := q7; exact ⟨σ7, H7, I7.unpinned, q7⟩
    | ret v => obtain ⟨x7, σ7, H7, I7, r7, q7⟩ := q7; exact ⟨x7, σ7, H7, I7.unpinned, r7, q7⟩
end
theorem for_list {K : PySem.W.Frag} {a : Addr} {xs : List V} {g : TG} {tb : TS} {D : Ends} {σ : St} {H : Hp} (Pv : Nat → St → Hp → Prop) (h0 : Pv 0 σ H) (hl : ∀ i σ H, i ≤ xs.length → Pv i σ H → SqL K H a xs)
    (hs : ∀ i x σ H, xs[i]? = some x → Pv i σ H → g x σ H fun σ2 H2 => tb { D with nx := Pv (i + 1), ct := Pv (i + 1), bk := D.nx } σ2 H2) (hd : ∀ σ H, Pv xs.length σ H → D.nx σ H) :
    ∃ W : Nat → Nat → St → Hp → Prop, (∃ m, W 0 m σ H) ∧ ∀ i m σ H, W i m σ H →
      ((Itl K a).stop i H ∧ D.nx σ H) ∨ ((Itl K a).go i H ∧ ∃ N : St → Hp → Prop, (∀ σ' H', N σ' H' → ∃ m', m' < m ∧ W (i + 1) m' σ' H') ∧ ∀ x H', (Itl K a).yld i H x H' → g x σ H' fun σ2 H2 => tb { D with nx := N, ct := N, bk := D.nx } σ2 H2) := by
  refine ⟨fun i m σ H => m = xs.length - i ∧ i ≤ xs.length ∧ Pv i σ H, ⟨xs.length, by simp, Nat.zero_le _, h0⟩, ?_⟩
  rintro i m σ H ⟨rfl, hi, p⟩
  have q := hl i σ H hi p
  by_cases hlt : i < xs.length
  · refine .inr ⟨⟨xs, xs[i], q, by simp [hlt]⟩, Pv (i + 1), fun σ' H' p' => ⟨xs.length - (i + 1), by omega, rfl, hlt, p'⟩, fun x H' y => ?_⟩
    obtain ⟨e, y⟩ := y
    subst e
    exact hs i x σ _ (y xs q) p
  · have e : i = xs.length := by omega
    subst e
    exact .inl ⟨⟨xs, q, Nat.le_refl _⟩, hd σ H p⟩
theorem for_tup {K : PySem.W.Frag} {a : Addr} {xs : List V} {g : TG} {tb : TS} {D : Ends} {σ : St} {H : Hp} (Pv : Nat → St → Hp → Prop) (h0 : Pv 0 σ H) (hl : ∀ i σ H, i ≤ xs.length → Pv i σ H → SqT K H a xs)
    (hs : ∀ i x σ H, xs[i]? = some x → Pv i σ H → g x σ H fun σ2 H2 => tb { D with nx := Pv (i + 1), ct := Pv (i + 1), bk := D.nx } σ2 H2) (hd : ∀ σ H, Pv xs.length σ H → D.nx σ H) :
    ∃ W : Nat → Nat → St → Hp → Prop, (∃ m, W 0 m σ H) ∧ ∀ i m σ H, W i m σ H →
      ((Itt K a).stop i H ∧ D.nx σ H) ∨ ((Itt K a).go i H ∧ ∃ N : St → Hp → Prop, (∀ σ' H', N σ' H' → ∃ m', m' < m ∧ W (i + 1) m' σ' H') ∧ ∀ x H', (Itt K a).yld i H x H' → g x σ H' fun σ2 H2 => tb { D with nx := N, ct := N, bk := D.nx } σ2 H2) := by
  refine ⟨fun i m σ H => m = xs.length - i ∧ i ≤ xs.length ∧ Pv i σ H, ⟨xs.length, by simp, Nat.zero_le _, h0⟩, ?_⟩
  rintro i m σ H ⟨rfl, hi, p⟩
  have q := hl i σ H hi p
  by_cases hlt : i < xs.length
  · refine .inr ⟨⟨xs, xs[i], q, by simp [hlt]⟩, Pv (i + 1), fun σ' H' p' => ⟨xs.length - (i + 1), by omega, rfl, hlt, p'⟩, fun x H' y => ?_⟩
    obtain ⟨e, y⟩ := y
    subst e
    exact hs i x σ _ (y xs q) p
  · have e : i = xs.length := by omega
    subst e
    exact .inl ⟨⟨xs, q, Nat.le_refl _⟩, hd σ H p⟩
theorem for_range {lo : Int} {n : Nat} {g : TG} {tb : TS} {D : Ends} {σ : St} {H : Hp} (Pv : Nat → St → Hp → Prop) (h0 : Pv 0 σ H)
    (hs : ∀ i σ H, i < n → Pv i σ H → g (.int (lo + i)) σ H fun σ2 H2 => tb { D with nx := Pv (i + 1), ct := Pv (i + 1), bk := D.nx } σ2 H2) (hd : ∀ σ H, Pv n σ H → D.nx σ H) :
    ∃ W : Nat → Nat → St → Hp → Prop, (∃ m, W 0 m σ H) ∧ ∀ i m σ H, W i m σ H →
      ((Itr lo n).stop i H ∧ D.nx σ H) ∨ ((Itr lo n).go i H ∧ ∃ N : St → Hp → Prop, (∀ σ' H', N σ' H' → ∃ m', m' < m ∧ W (i + 1) m' σ' H') ∧ ∀ x H', (Itr lo n).yld i H x H' → g x σ H' fun σ2 H2 => tb { D with nx := N, ct := N, bk := D.nx } σ2 H2) := by
  refine ⟨fun i m σ H => m = n - i ∧ i ≤ n ∧ Pv i σ H, ⟨n, by simp, Nat.zero_le _, h0⟩, ?_⟩
  rintro i m σ H ⟨rfl, hi, p⟩
  by_cases hlt : i < n
  · refine .inr ⟨hlt, Pv (i + 1), fun σ' H' p' => ⟨n - (i + 1), by omega, rfl, hlt, p'⟩, fun x H' y => ?_⟩
    obtain ⟨e, y⟩ := y
    subst e y
    exact hs i σ _ hlt p
  · have e : i = n := by omega
    subst e
    exact .inl ⟨Nat.le_refl _, hd σ H p⟩
theorem while_by {c : TT} {tb : TS} {D : Ends} {σ : St} {H : Hp} (Pv : St → Hp → Prop) (μ : St → Hp → Nat) (h0 : Pv σ H)
    (hs : ∀ σ H, Pv σ H → c σ H fun b H1 => if b = true then tb { D with nx := fun σ' H' => Pv σ' H' ∧ μ σ' H' < μ σ H, ct := fun σ' H' => Pv σ' H' ∧ μ σ' H' < μ σ H, bk := D.nx } σ H1 else D.nx σ H1)
    (mono : ∀ σ H Q Q', (∀ b H1, Q b H1 → Q' b H1) → c σ H Q → c σ H Q') : tWhile c tb D σ H := by
  refine ⟨fun m σ H => m = μ σ H ∧ Pv σ H, ⟨_, rfl, h0⟩, ?_⟩
  rintro m σ H ⟨rfl, p⟩
  refine mono σ H _ _ (fun b H1 q => ?_) (hs σ H p)
  cases b with
  | true => exact ⟨_, fun σ' H' ⟨p', l⟩ => ⟨_, l, rfl, p'⟩, q⟩
  | false => exact q
end L2
namespace L2
open PySem PySem.Spec PyProof.Rows
abbrev R2 := V → V → Hp → VK → Prop
def OpR (X : Cx) (f : Value → Value → Sem Value) (r : R2) : Prop :=
  ∀ (pins : List (Addr × Obj)) (s : Shared) (σ : St) (H : Hp) (x y : V) (v u : Value) (Q : VK), Inv X pins σ H s → RelV x v → RelV y u → r x y H Q →
    wpAny (model X.prog X.w) X.A (f v u) (EP X pins σ Q) X.xe s
def UnR (X : Cx) (f : Value → Sem Value) (r : V → Hp → VK → Prop) : Prop :=
  ∀ (pins : List (Addr × Obj)) (s : Shared) (σ : St) (H : Hp) (x : V) (v : Value) (Q : VK), Inv X pins σ H s → RelV x v → r x H Q →
    wpAny (model X.prog X.w) X.A (f v) (EP X pins σ Q) X.xe s
def CallR (X : Cx) (f : Value) (r : List V → Hp → VK → Prop) : Prop :=
  ∀ (pins : List (Addr × Obj)) (s : Shared) (σ : St) (H : Hp) (xs : List V) (us : List Value) (Q : VK), Inv X pins σ H s → Vals xs us → r xs H Q →
    wpAny (model X.prog X.w) X.A (call f us) (EP X pins σ Q) X.xe s
def TruR (X : Cx) (r : V → Hp → (Bool → Hp → Prop) → Prop) : Prop :=
  ∀ (pins : List (Addr × Obj)) (s : Shared) (σ : St) (H : Hp) (x : V) (v : Value) (Q : Bool → Hp → Prop), Inv X pins σ H s → RelV x v → r x H Q →
    wpAny (model X.prog X.w) X.A (truthy v) (TP X pins σ Q) X.xe s
def tOp (r : R2) (ta tb : TE) : TE := fun σ H Q => ta σ H fun x H1 => tb σ H1 fun y H2 => r x y H2 Q
def tUn (r : V → Hp → VK → Prop) (ta : TE) : TE := fun σ H Q => ta σ H fun x H1 => r x H1 Q
def rI (C : Int → Int → Prop) (g : Int → Int → V) : R2 := fun x y H Q => ∃ i j, x = .int i ∧ y = .int j ∧ C i j ∧ Q (g i j) H
def rI0 (g : Int → Int → V) : R2 := fun x y H Q => ∃ i j, x = .int i ∧ y = .int j ∧ Q (g i j) H
def rU (g : Int → V) : V → Hp → VK → Prop := fun x H Q => ∃ i, x = .int i ∧ Q (g i) H
section
variable {X : Cx} {a b c : Expr} {ta tb tc : TE} {pos : Pos}
theorem binT (ha : PE X a ta) (hb : PE X b tb) {pins : List (Addr × Obj)} {s : Shared} {σ : St} {H : Hp} {R : V → V → Hp → Prop} (I : Inv X pins σ H s)
    (h : ta σ H fun x H1 => tb σ H1 fun y H2 => R x y H2) {Q : Value → Shared → Prop} {f : Value → Value → Sem Value}
    (hf : ∀ v u s2 x y H2, Inv X pins σ H2 s2 → RelV x v → RelV y u → R x y H2 → wpAny (model X.prog X.w) X.A (f v u) Q X.xe s2) :
    wpAny (model X.prog X.w) X.A (eval a X.env) (fun v s₁ => wpAny (model X.prog X.w) X.A (eval b X.env) (fun u s₂ => wpAny (model X.prog X.w) X.A (f v u) Q X.xe s₂) X.xe s₁) X.xe s := by
  refine thn (ha pins s σ H _ I h) fun v s1 ⟨x, H1, I1, r1, q1⟩ => ?_
  refine thn (hb pins s1 σ H1 _ I1 q1) fun u s2 ⟨y, H2, I2, r2, q2⟩ => ?_
  exact hf v u s2 x y H2 I2 r1 r2 q2
theorem pe_op {op : Operator} {r : R2} (ho : OpR X (binaryOp op) r) (ha : PE X a ta) (hb : PE X b tb) : PE X (.BinOp a op b pos) (tOp r ta tb) := by
  intro pins s σ H Q I h
  exact wpAny_BinOp (binT ha hb I h fun v u s2 x y H2 I2 rx ry q => ho pins s2 σ H2 x y v u Q I2 rx ry q)
theorem pe_un {op : UnaryOp} {r : V → Hp → VK → Prop} (ho : UnR X (unaryOp op) r) (ha : PE X a ta) : PE X (.UnaryOp op a pos) (tUn r ta) := by
  intro pins s σ H Q I h
  exact UnaryOp_ (thn (ha pins s σ H _ I h) fun v s1 ⟨x, H1, I1, r1, q1⟩ => ho pins s1 σ H1 x v Q I1 r1 q1)
theorem augR {op : Operator} {r : R2} (ho : OpR X (inplaceOp op) r) {pins : List (Addr × Obj)} {s : Shared} {σ : St} {H : Hp} {x y : V} {v u : Value} {Q : VK} (I : Inv X pins σ H s)
    (rx : RelV x v) (ry : RelV y u) (q : r x y H Q) : wpAny (model X.prog X.w) X.A (inplaceOp op v u) (EP X pins σ Q) X.xe s := ho pins s σ H x y v u Q I rx ry q
theorem opI {f : Value → Value → Sem Value} {C : Int → Int → Prop} {g : Int → Int → Int}
    (rule : ∀ (i j : Int) (t u : Tok) (s : Shared) (Q : Value → Shared → Prop) (E : Value → Shared → Prop), C i j → Q (.int (g i j) s.toks) { s with toks := s.toks + 1 } → wpAny (model X.prog X.w) X.A (f (.int i t) (.int j u)) Q E s) :
    OpR X f (rI C fun i j => .int (g i j)) := by
  intro pins s σ H x y v u Q I rx ry h
  obtain ⟨i, j, rfl, rfl, hc, q⟩ := h
  obtain ⟨t, rfl⟩ := rx
  obtain ⟨t', rfl⟩ := ry
  exact rule i j t t' s _ _ hc ⟨.int (g i j), H, I.tok _, ⟨_, rfl⟩, q⟩
theorem opI0 {f : Value → Value → Sem Value} {g : Int → Int → Int}
    (rule : ∀ (i j : Int) (t u : Tok) (s : Shared) (Q : Value → Shared → Prop) (E : Value → Shared → Prop), Q (.int (g i j) s.toks) { s with toks := s.toks + 1 } → wpAny (model X.prog X.w) X.A (f (.int i t) (.int j u)) Q E s) :
    OpR X f (rI0 fun i j => .int (g i j)) := by
  intro pins s σ H x y v u Q I rx ry h
  obtain ⟨i, j, rfl, rfl, q⟩ := h
  obtain ⟨t, rfl⟩ := rx
  obtain ⟨t', rfl⟩ := ry
  exact rule i j t t' s _ _ ⟨.int (g i j), H, I.tok _, ⟨_, rfl⟩, q⟩
theorem opB0 {f : Value → Value → Sem Value} {g : Int → Int → Bool}
    (rule : ∀ (i j : Int) (t u : Tok) (s : Shared) (Q : Value → Shared → Prop) (E : Value → Shared → Prop), Q (.bool (g i j)) s → wpAny (model X.prog X.w) X.A (f (.int i t) (.int j u)) Q E s) :
    OpR X f (rI0 fun i j => .bl (g i j)) := by
  intro pins s σ H x y v u Q I rx ry h
  obtain ⟨i, j, rfl, rfl, q⟩ := h
  obtain ⟨t, rfl⟩ := rx
  obtain ⟨t', rfl⟩ := ry
  exact rule i j t t' s _ _ ⟨.bl (g i j), H, I, rfl, q⟩
def CDiv (i j : Int) : Prop := 0 < j ∧ j < 1073741824
def CDivN (i j : Int) : Prop := j ≠ 0 ∧ j.natAbs < 1073741824
def CPow (i j : Int) : Prop := 0 ≤ j ∧ j ≤ 1000000 ∧ i.natAbs < 2 ^ 64
def CMul (i j : Int) : Prop := (-(2 ^ 64) < i ∧ i < 2 ^ 64) ∨ (-(2 ^ 64) < j ∧ j < 2 ^ 64)
theorem CMul.ok {i j : Int} (h : CMul i j) : IntMulOk i j := by
  rcases h with ⟨h1, h2⟩ | ⟨h1, h2⟩
  · exact .of_left (intBits_le_64 h1 h2)
  · exact .of_right (intBits_le_64 h1 h2)
theorem two_pow_nn (k : Nat) : (0 : Int) ≤ 2 ^ k := by
  rw [two_pow_cast]
  exact Int.natCast_nonneg _
theorem op_add : OpR X (binaryOp .Add) (rI0 fun i j => .int (i + j)) := opI0 fun _ _ _ _ _ _ _ q => add_int q
theorem op_sub : OpR X (binaryOp .Sub) (rI0 fun i j => .int (i - j)) := opI0 fun _ _ _ _ _ _ _ q => sub_int q
theorem op_mul : OpR X (binaryOp .Mult) (rI CMul fun i j => .int (i * j)) := opI fun _ _ _ _ _ _ _ hc q => mul_int q hc.ok
theorem op_fdiv : OpR X (binaryOp .FloorDiv) (rI CDiv fun i j => .int (i / j)) := opI fun i j _ _ _ _ _ hc q => by
  have h1 : (0 : Int) < j := hc.1
  have h2 : j < 1073741824 := hc.2
  exact floordiv_int (by omega) (by rw [Int.fdiv_eq_ediv_of_nonneg i (by omega)]; exact q) (.inl (PyProof.noPylong_small (by omega)))
theorem op_fdivN : OpR X (binaryOp .FloorDiv) (rI CDivN fun i j => .int (i.fdiv j)) := opI fun _ _ _ _ _ _ _ hc q => floordiv_int hc.1 q (.inl (PyProof.noPylong_small hc.2))
theorem op_mod : OpR X (binaryOp .Mod) (rI (fun _ j => 0 < j) fun i j => .int (i % j)) := opI fun i j _ _ _ _ _ hc q => by
  have h1 : (0 : Int) < j := hc
  exact mod_int' (by omega) (by rw [Int.fmod_eq_emod_of_nonneg i (by omega)]; exact q)
theorem op_modN : OpR X (binaryOp .Mod) (rI (fun _ j => j ≠ 0) fun i j => .int (i.fmod j)) := opI fun _ _ _ _ _ _ _ hc q => mod_int' hc q
theorem op_pow : OpR X (binaryOp .Pow) (rI CPow fun i j => .int (i ^ j.toNat)) := opI fun _ _ _ _ _ _ _ hc q => pow_int_small hc.1 hc.2.1 hc.2.2 q
theorem op_shl : OpR X (binaryOp .LShift) (rI CPow fun i j => .int (i * 2 ^ j.toNat)) := opI fun _ _ _ _ _ _ _ hc q => lshift_int_small hc.1 hc.2.1 hc.2.2 q
theorem op_shr : OpR X (binaryOp .RShift) (rI (fun _ j => 0 ≤ j) fun i j => .int (i / 2 ^ j.toNat)) := opI fun i j _ _ _ _ _ hc q =>
  rshift_int hc (by rw [Int.fdiv_eq_ediv_of_nonneg i (two_pow_nn _)]; exact q)
theorem op_and : OpR X (binaryOp .BitAnd) (rI0 fun i j => .int (Builtin.bitAnd i j)) := opI0 fun _ _ _ _ _ _ _ q => and_int q
theorem op_or : OpR X (binaryOp .BitOr) (rI0 fun i j => .int (Builtin.bitOr i j)) := opI0 fun _ _ _ _ _ _ _ q => or_int q
theorem op_xor : OpR X (binaryOp .BitXor) (rI0 fun i j => .int (Builtin.bitXor i j)) := opI0 fun _ _ _ _ _ _ _ q => xor_int q
theorem iop_add : OpR X (inplaceOp .Add) (rI0 fun i j => .int (i + j)) := opI0 fun _ _ _ _ _ _ _ q => iadd_int q
theorem iop_sub : OpR X (inplaceOp .Sub) (rI0 fun i j => .int (i - j)) := opI0 fun _ _ _ _ _ _ _ q => isub_int q
theorem iop_mul : OpR X (inplaceOp .Mult) (rI CMul fun i j => .int (i * j)) := opI fun _ _ _ _ _ _ _ hc q => imul_int q hc.ok
theorem iop_fdiv : OpR X (inplaceOp .FloorDiv) (rI CDiv fun i j => .int (i / j)) := opI fun i j _ _ _ _ _ hc q => by
  have h1 : (0 : Int) < j := hc.1
  have h2 : j < 1073741824 := hc.2
  exact ifloordiv_int (by omega) (by rw [Int.fdiv_eq_ediv_of_nonneg i (by omega)]; exact q) (.inl (PyProof.noPylong_small (by omega)))
theorem iop_mod : OpR X (inplaceOp .Mod) (rI (fun _ j => 0 < j) fun i j => .int (i % j)) := opI fun i j _ _ _ _ _ hc q => by
  have h1 : (0 : Int) < j := hc
  exact imod_int (by omega) (by rw [Int.fmod_eq_emod_of_nonneg i (by omega)]; exact q)
theorem iop_shl : OpR X (inplaceOp .LShift) (rI CPow fun i j => .int (i * 2 ^ j.toNat)) := opI fun _ _ _ _ _ _ _ hc q => ilshift_int_small hc.1 hc.2.1 hc.2.2 q
theorem iop_shr : OpR X (inplaceOp .RShift) (rI (fun _ j => 0 ≤ j) fun i j => .int (i / 2 ^ j.toNat)) := opI fun i j _ _ _ _ _ hc q =>
  irshift_int hc (by rw [Int.fdiv_eq_ediv_of_nonneg i (two_pow_nn _)]; exact q)
theorem iop_and : OpR X (inplaceOp .BitAnd) (rI0 fun i j => .int (Builtin.bitAnd i j)) := opI0 fun _ _ _ _ _ _ _ q => iand_int q
theorem iop_or : OpR X (inplaceOp .BitOr) (rI0 fun i j => .int (Builtin.bitOr i j)) := opI0 fun _ _ _ _ _ _ _ q => ior_int q
theorem iop_xor : OpR X (inplaceOp .BitXor) (rI0 fun i j => .int (Builtin.bitXor i j)) := opI0 fun _ _ _ _ _ _ _ q => ixor_int q
theorem unI {f : Value → Sem Value} {g : Int → Int}
    (rule : ∀ (i : Int) (t : Tok) (s : Shared) (Q : Value → Shared → Prop) (E : Value → Shared → Prop), Q (.int (g i) s.toks) { s with toks := s.toks + 1 } → wpAny (model X.prog X.w) X.A (f (.int i t)) Q E s) :
    UnR X f (rU fun i => .int (g i)) := by
  intro pins s σ H x v Q I rx h
  obtain ⟨i, rfl, q⟩ := h
  obtain ⟨t, rfl⟩ := rx
  exact rule i t s _ _ ⟨.int (g i), H, I.tok _, ⟨_, rfl⟩, q⟩
theorem un_neg : UnR X (unaryOp .USub) (rU fun i => .int (-i)) := unI fun _ _ _ _ _ q => neg_int q
theorem un_inv : UnR X (unaryOp .Invert) (rU fun i => .int (Builtin.bitNot i)) := unI fun _ _ _ _ _ q => invert_int q
theorem op_add_ib : OpR X (binaryOp .Add) (fun x y H Q => ∃ i k, x = .int i ∧ y = .bl k ∧ Q (.int (i + b2i k)) H) := by
  intro pins s σ H x y v u Q I rx ry h
  obtain ⟨i, k, rfl, rfl, q⟩ := h
  obtain ⟨t, rfl⟩ := rx
  cases ry
  exact add_int_bool ⟨.int (i + b2i k), H, I.tok _, ⟨_, rfl⟩, q⟩
end
def scal : V → V → Bool
  | .non, .non => true | .non, .int _ => true | .int _, .non => true | .non, .bl _ => true | .bl _, .non => true | .non, .str _ => true | .str _, .non => true
  | .int _, .int _ => true | .bl _, .bl _ => true | .str _, .str _ => true | .byt _, .byt _ => true
  | .int _, .str _ => true | .str _, .int _ => true | .bl _, .str _ => true | .str _, .bl _ => true
  | _, _ => false
def rEq : R2 := fun x y H Q => scal x y = true ∧ Q (.bl (decide (x = y))) H
def rNe : R2 := fun x y H Q => scal x y = true ∧ Q (.bl (!decide (x = y))) H
theorem dec_int {i j : Int} : decide (V.int i = V.int j) = (i == j) := by
  rw [Bool.eq_iff_iff]
  simp
theorem dec_bl {i j : Bool} : decide (V.bl i = V.bl j) = (i == j) := by
  rw [Bool.eq_iff_iff]
  simp
theorem dec_str {i j : Str} : decide (V.str i = V.str j) = (i == j) := by
  rw [Bool.eq_iff_iff]
  simp
theorem dec_byt {i j : Array UInt8} : decide (V.byt i = V.byt j) = (i.toList == j.toList) := by
  rw [Bool.eq_iff_iff]
  cases i
  cases j
  simp
section
variable {X : Cx} {a b c : Expr} {ta tb tc : TE} {pos : Pos}
theorem fin_bl {pins : List (Addr × Obj)} {σ : St} {H : Hp} {s : Shared} {Q : VK} {k k' : Bool} (I : Inv X pins σ H s) (q : Q (.bl k) H) (e : k = k') : EP X pins σ Q (.bool k') s := by
  subst e
  exact ⟨.bl k, H, I, rfl, q⟩
theorem op_eq : OpR X (compareOp .Eq) rEq := by
  intro pins s σ H x y v u Q I rx ry h
  obtain ⟨hs, q⟩ := h
  cases x with
  | non =>
    cases rx
    cases y with
    | non => cases ry; exact PySem.EqNone.eq_none_none (fin_bl I q (by simp))
    | bl j => cases ry; exact PySem.EqNone.eq_none_bool (fin_bl I q (by simp))
    | int j => obtain ⟨t', rfl⟩ := ry; exact PySem.EqNone.eq_none_int (fin_bl I q (by simp))
    | str j => obtain ⟨t', rfl⟩ := ry; exact PySem.EqNone.eq_none_str (fin_bl I q (by simp))
    | _ => exact absurd (show false = true from hs) Bool.false_ne_true
  | bl i =>
    cases rx
    cases y with
    | non => cases ry; exact PySem.EqNone.eq_bool_none (fin_bl I q (by simp))
    | bl j => cases ry; exact eq_bool (fin_bl I q dec_bl)
    | str j => obtain ⟨t', rfl⟩ := ry; exact PySem.EqMixed.eq_bool_str (fin_bl I q (by simp))
    | _ => exact absurd (show false = true from hs) Bool.false_ne_true
  | int i =>
    obtain ⟨t, rfl⟩ := rx
    cases y with
    | non => cases ry; exact PySem.EqNone.eq_int_none (fin_bl I q (by simp))
    | int j => obtain ⟨t', rfl⟩ := ry; exact eq_int (fin_bl I q dec_int)
    | str j => obtain ⟨t', rfl⟩ := ry; exact PySem.EqMixed.eq_int_str (fin_bl I q (by simp))
    | _ => exact absurd (show false = true from hs) Bool.false_ne_true
  | str i =>
    obtain ⟨t, rfl⟩ := rx
    cases y with
    | non => cases ry; exact PySem.EqNone.eq_str_none (fin_bl I q (by simp))
    | bl j => cases ry; exact PySem.EqMixed.eq_str_bool (fin_bl I q (by simp))
    | int j => obtain ⟨t', rfl⟩ := ry; exact PySem.EqMixed.eq_str_int (fin_bl I q (by simp))
    | str j => obtain ⟨t', rfl⟩ := ry; exact eq_str (fin_bl I q dec_str)
    | _ => exact absurd (show false = true from hs) Bool.false_ne_true
  | byt i =>
    obtain ⟨t, rfl⟩ := rx
    cases y with
    | byt j => obtain ⟨t', rfl⟩ := ry; exact PySem.W.eq_bytes (fin_bl I q dec_byt)
    | _ => exact absurd (show false = true from hs) Bool.false_ne_true
  | _ => cases y <;> exact absurd (show false = true from hs) Bool.false_ne_true
theorem op_ne : OpR X (compareOp .NotEq) rNe := by
  intro pins s σ H x y v u Q I rx ry h
  obtain ⟨hs, q⟩ := h
  cases x with
  | non =>
    cases rx
    cases y with
    | non => cases ry; exact PySem.EqNone.ne_none_none (fin_bl I q (by simp))
    | bl j => cases ry; exact PySem.EqNone.ne_none_bool (fin_bl I q (by simp))
    | int j => obtain ⟨t', rfl⟩ := ry; exact PySem.EqNone.ne_none_int (fin_bl I q (by simp))
    | str j => obtain ⟨t', rfl⟩ := ry; exact PySem.EqNone.ne_none_str (fin_bl I q (by simp))
    | _ => exact absurd (show false = true from hs) Bool.false_ne_true
  | bl i =>
    cases rx
    cases y with
    | non => cases ry; exact PySem.EqNone.ne_bool_none (fin_bl I q (by simp))
    | bl j => cases ry; exact ne_bool (fin_bl I q (congrArg not dec_bl))
    | str j => obtain ⟨t', rfl⟩ := ry; exact PySem.EqMixed.ne_bool_str (fin_bl I q (by simp))
    | _ => exact absurd (show false = true from hs) Bool.false_ne_true
  | int i =>
    obtain ⟨t, rfl⟩ := rx
    cases y with
    | non => cases ry; exact PySem.EqNone.ne_int_none (fin_bl I q (by simp))
    | int j => obtain ⟨t', rfl⟩ := ry; exact ne_int (fin_bl I q (congrArg not dec_int))
    | str j => obtain ⟨t', rfl⟩ := ry; exact PySem.EqMixed.ne_int_str (fin_bl I q (by simp))
    | _ => exact absurd (show false = true from hs) Bool.false_ne_true
  | str i =>
    obtain ⟨t, rfl⟩ := rx
    cases y with
    | non => cases ry; exact PySem.EqNone.ne_str_none (fin_bl I q (by simp))
    | bl j => cases ry; exact PySem.EqMixed.ne_str_bool (fin_bl I q (by simp))
    | int j => obtain ⟨t', rfl⟩ := ry; exact PySem.EqMixed.ne_str_int (fin_bl I q (by simp))
    | str j => obtain ⟨t', rfl⟩ := ry; exact ne_str (fin_bl I q (congrArg not dec_str))
    | _ => exact absurd (show false = true from hs) Bool.false_ne_true
  | byt i =>
    obtain ⟨t, rfl⟩ := rx
    cases y with
    | byt j => obtain ⟨t', rfl⟩ := ry; exact PySem.W.ne_bytes (fin_bl I q (congrArg not dec_byt))
    | _ => exact absurd (show false = true from hs) Bool.false_ne_true
  | _ => cases y <;> exact absurd (show false = true from hs) Bool.false_ne_true
theorem op_lt : OpR X (compareOp .Lt) (rI0 fun i j => .bl (decide (i < j))) := opB0 fun _ _ _ _ _ _ _ q => lt_int q
theorem op_le : OpR X (compareOp .LtE) (rI0 fun i j => .bl (decide (i ≤ j))) := opB0 fun _ _ _ _ _ _ _ q => le_int q
theorem op_gt : OpR X (compareOp .Gt) (rI0 fun i j => .bl (decide (j < i))) := opB0 fun _ _ _ _ _ _ _ q => gt_int q
theorem op_ge : OpR X (compareOp .GtE) (rI0 fun i j => .bl (decide (j ≤ i))) := opB0 fun _ _ _ _ _ _ _ q => ge_int q
theorem op_lt_str : OpR X (compareOp .Lt) (fun x y H Q => ∃ i j, x = .str i ∧ y = .str j ∧ Q (.bl (decide (i.cps.toList < j.cps.toList))) H) := by
  intro pins s σ H x y v u Q I rx ry h
  obtain ⟨i, j, rfl, rfl, q⟩ := h
  obtain ⟨t, rfl⟩ := rx
  obtain ⟨t', rfl⟩ := ry
  exact lt_str (fin_bl I q rfl)
theorem op_in_str : OpR X (compareOp .In) (fun x y H Q => ∃ i j, x = .str i ∧ y = .str j ∧ Q (.bl (!(Builtin.Str.occurrences j i 0 j.length 1).isEmpty)) H) := by
  intro pins s σ H x y v u Q I rx ry h
  obtain ⟨i, j, rfl, rfl, q⟩ := h
  obtain ⟨t, rfl⟩ := rx
  obtain ⟨t', rfl⟩ := ry
  exact in_str (fin_bl I q rfl)
theorem op_isN : OpR X (compareOp .Is) (fun x y H Q => y = .non ∧ Q (.bl (decide (x = .non))) H) := by
  intro pins s σ H x y v u Q I rx ry h
  obtain ⟨rfl, q⟩ := h
  cases ry
  refine is_none_gen (fin_bl I q ?_)
  cases x <;> first
    | (cases rx; rfl)
    | (obtain ⟨t, rfl⟩ := rx; rfl)
theorem op_notN : OpR X (compareOp .IsNot) (fun x y H Q => y = .non ∧ Q (.bl (!decide (x = .non))) H) := by
  intro pins s σ H x y v u Q I rx ry h
  obtain ⟨rfl, q⟩ := h
  cases ry
  refine isnot_none_gen (fin_bl I q ?_)
  cases x <;> first
    | (cases rx; rfl)
    | (obtain ⟨t, rfl⟩ := rx; rfl)
theorem op_notin_str : OpR X (compareOp .NotIn) (fun x y H Q => ∃ i j, x = .str i ∧ y = .str j ∧ Q (.bl (!(!(Builtin.Str.occurrences j i 0 j.length 1).isEmpty))) H) := by
  intro pins s σ H x y v u Q I rx ry h
  obtain ⟨i, j, rfl, rfl, q⟩ := h
  obtain ⟨t, rfl⟩ := rx
  obtain ⟨t', rfl⟩ := ry
  exact notIn_str (fin_bl I q rfl)
def isObj : HO → Bool
  | .lst _ => true
  | .ins _ _ _ => true
  | _ => false
theorem obj_there {pins : List (Addr × Obj)} {s : Shared} {σ : St} {H : Hp} {a : Addr} {o : HO} (I : Inv X pins σ H s) (h : H a = some o) (p : isObj o = true) : ∃ ob, s.heap.get? a = some ob ∧ ob.cls ≠ .type "tuple" := by
  cases o with
  | lst xs =>
    obtain ⟨_, its, n, _, e⟩ : xs.length ≤ sizeLine ∧ ∃ (its : List Value) (n : Nat), Vals xs its ∧ s.heap.get? a = some { cls := .type "list", data := .seq its.toArray n } := I.hok a _ h
    exact ⟨_, e, (by show Value.type "list" ≠ .type "tuple"; decide +kernel)⟩
  | ins C dx fs =>
    have x := I.hok a _ h
    obtain ⟨_, _, _, e, _⟩ := x
    exact ⟨_, e, (by show Value.ref C ≠ .type "tuple"; exact fun z => by cases z)⟩
  | _ => exact absurd (show false = true from p) Bool.false_ne_true
theorem op_is_ref : OpR X (compareOp .Is) (fun x y H Q => ∃ a b oa ob, x = .ref a ∧ y = .ref b ∧ H a = some oa ∧ isObj oa = true ∧ H b = some ob ∧ isObj ob = true ∧ Q (.bl (decide (a = b))) H) := by
  intro pins s σ H x y v u Q I rx ry h
  obtain ⟨a, b, oa, ob, rfl, rfl, ha, pa, hb, pb, q⟩ := h
  cases rx
  cases ry
  obtain ⟨o1, e1, n1⟩ := obj_there I ha pa
  obtain ⟨o2, e2, _⟩ := obj_there I hb pb
  by_cases z : a = b
  · subst z
    exact wpAny_is_ref_self (fin_bl I q (by simp))
  · exact wpAny_is_ref_other z e1 e2 n1 (fin_bl I q (by simp [z]))
theorem op_isnot_ref : OpR X (compareOp .IsNot) (fun x y H Q => ∃ a b oa ob, x = .ref a ∧ y = .ref b ∧ H a = some oa ∧ isObj oa = true ∧ H b = some ob ∧ isObj ob = true ∧ Q (.bl (!decide (a = b))) H) := by
  intro pins s σ H x y v u Q I rx ry h
  obtain ⟨a, b, oa, ob, rfl, rfl, ha, pa, hb, pb, q⟩ := h
  cases rx
  cases ry
  obtain ⟨o1, e1, n1⟩ := obj_there I ha pa
  obtain ⟨o2, e2, _⟩ := obj_there I hb pb
  by_cases z : a = b
  · subst z
    exact wpAny_isNot_ref_self (fin_bl I q (by simp))
  · exact wpAny_isNot_ref_other z e1 e2 n1 (fin_bl I q (by simp [z]))
theorem OpR.or {f : Value → Value → Sem Value} {r r' : R2} (h : OpR X f r) (h' : OpR X f r') : OpR X f (fun x y H Q => r x y H Q ∨ r' x y H Q) := by
  intro pins s σ H x y v u Q I rx ry q
  rcases q with q | q
  · exact h pins s σ H x y v u Q I rx ry q
  · exact h' pins s σ H x y v u Q I rx ry q
theorem nomark (b : Expr) {op : CmpOp} (h : op ≠ .In := by decide) (h2 : op ≠ .NotIn := by decide) : behindInMarks op b = false := by
  have e1 : (op == CmpOp.In) = false := by cases op <;> first | rfl | exact absurd rfl h
  have e2 : (op == CmpOp.NotIn) = false := by cases op <;> first | rfl | exact absurd rfl h2
  cases b <;> simp [behindInMarks, e1, e2]
theorem pe_cmpR {op : CmpOp} {r : R2} (ho : OpR X (compareOp op) r) (ha : PE X a ta) (hb : PE X b tb) (hm : behindInMarks op b = false) : PE X (.Compare a [op] [b] pos) (tOp r ta tb) := by
  intro pins s σ H Q I h
  exact wpAny_Compare1 (binT ha hb I h fun v u s2 x y H2 I2 rx ry q => ho pins s2 σ H2 x y v u Q I2 rx ry q) hm
def tTest (t : TE) : TT := fun σ H Q => t σ H fun x H' => ∃ k, x = .bl k ∧ Q k H'
theorem pt_cmpR {op : CmpOp} {r : R2} (ho : OpR X (compareOp op) r) (ha : PE X a ta) (hb : PE X b tb) (hm : behindInMarks op b = false) : PT X (.Compare a [op] [b] pos) (tTest (tOp r ta tb)) := by
  intro pins s σ H Q I h
  refine wpAny_isTrue_Compare1 (thn (ha pins s σ H _ I h) fun v s1 ⟨x, H1, I1, r1, q1⟩ => thn (hb pins s1 σ H1 _ I1 q1) fun u s2 ⟨y, H2, I2, r2, q2⟩ =>
    thn (ho pins s2 σ H2 x y v u _ I2 r1 r2 q2) fun c s3 ⟨z, H3, I3, r3, k, e, q3⟩ => ?_) hm
  subst e
  cases r3
  exact wpAny_truthy_bool ⟨H3, I3, q3⟩
def tChain (r r' : R2) (ta tb tc : TE) : TE := fun σ H Q => ta σ H fun x H1 => tb σ H1 fun y H2 => r x y H2 fun z H3 => ∃ k, z = .bl k ∧
  (if k = true then tc σ H3 fun w' H4 => r' y w' H4 Q else Q (.bl false) H3)
theorem pe_chain {op op' : CmpOp} {r r' : R2} (ho : OpR X (compareOp op) r) (ho' : OpR X (compareOp op') r') (ha : PE X a ta) (hb : PE X b tb) (hc : PE X c tc)
    (hm : lastMarks [op, op'] [b, c] = false := by with_unfolding_all rfl) : PE X (.Compare a [op, op'] [b, c] pos) (tChain r r' ta tb tc) := by
  intro pins s σ H Q I h
  refine Compare_chain (thn (ha pins s σ H _ I h) fun v s1 ⟨x, H1, I1, r1, q1⟩ => chain_link (thn (hb pins s1 σ H1 _ I1 q1) fun u s2 ⟨y, H2, I2, r2, q2⟩ =>
    thn (ho pins s2 σ H2 x y v u _ I2 r1 r2 q2) fun d s3 ⟨z, H3, I3, r3, k, e, q3⟩ => ?_)) hm
  subst e
  cases r3
  refine wpAny_truthy_bool ?_
  cases k with
  | false => exact ite_ff ⟨.bl false, H3, I3, rfl, q3⟩
  | true => exact ite_tt (chain_last (thn (hc pins s3 σ H3 _ I3 q3) fun w' s4 ⟨z', H4, I4, r4, q4⟩ => ho' pins s4 σ H4 y z' u w' Q I4 r2 r4 q4))
theorem pt_chain {op op' : CmpOp} {r r' : R2} (ho : OpR X (compareOp op) r) (ho' : OpR X (compareOp op') r') (ha : PE X a ta) (hb : PE X b tb) (hc : PE X c tc)
    (hm : lastMarks [op, op'] [b, c] = false := by with_unfolding_all rfl) : PT X (.Compare a [op, op'] [b, c] pos) (tTest (tChain r r' ta tb tc)) := by
  intro pins s σ H Q I h
  refine isTrue_chain (thn (ha pins s σ H _ I h) fun v s1 ⟨x, H1, I1, r1, q1⟩ => test_link (thn (hb pins s1 σ H1 _ I1 q1) fun u s2 ⟨y, H2, I2, r2, q2⟩ =>
    thn (ho pins s2 σ H2 x y v u _ I2 r1 r2 q2) fun d s3 ⟨z, H3, I3, r3, k, e, q3⟩ => ?_)) hm
  subst e
  cases r3
  refine wpAny_truthy_bool ?_
  cases k with
  | false =>
    obtain ⟨k', e', q'⟩ := q3
    cases e'
    exact ite_ff ⟨H3, I3, q'⟩
  | true =>
    refine ite_tt (test_last (thn (hc pins s3 σ H3 _ I3 q3) fun w' s4 ⟨z', H4, I4, r4, q4⟩ => thn (ho' pins s4 σ H4 y z' u w' _ I4 r2 r4 q4) fun d' s5 ⟨z2, H5, I5, r5, k2, e2, q5⟩ => ?_))
    subst e2
    cases r5
    exact wpAny_truthy_bool ⟨H5, I5, q5⟩
def TruV (K : PySem.W.Frag) (x : V) (H : Hp) (k : Bool) : Prop :=
  match x with
  | .non => k = false
  | .bl b => k = b
  | .int i => k = (i != 0)
  | .str y => y.length ≤ sizeLine ∧ k = ((y.length : Int) != 0)
  | .byt y => y.size ≤ sizeLine ∧ k = ((y.size : Int) != 0)
  | .ref p => (∃ xs, SqL K H p xs ∧ k = !xs.isEmpty) ∨ (∃ xs, SqT K H p xs ∧ k = !xs.isEmpty) ∨ ∃ kvs, H p = some (.dK kvs) ∧ k = !kvs.isEmpty
  | _ => False
theorem isEmpty_kv {κ : Type} {kvs : List (κ × V)} {vs : List (κ × Value)} (r : KV kvs vs) : (!vs.isEmpty) = !kvs.isEmpty := by
  cases r <;> rfl
theorem isEmpty_of {xs : List V} {its : List Value} (r : Vals xs its) : (!its.toArray.isEmpty) = !xs.isEmpty := by
  cases r <;> simp
theorem line63 : (sizeLine : Nat) < 2 ^ 63 := by rw [sizeLine_eq]; decide
theorem tru_ok : TruR X (fun x H Q => ∃ k, TruV X.K x H k ∧ Q k H) := by
  intro pins s σ H x v Q I rx h
  obtain ⟨k, e, q⟩ := h
  have hl := line63
  have hs : sizeLine = 16777216 := sizeLine_eq
  cases x with
  | non =>
    cases rx
    have e' : k = false := e
    subst e'
    exact truthy_none ⟨H, I, q⟩
  | bl b =>
    cases rx
    have e' : k = b := e
    subst e'
    exact wpAny_truthy_bool ⟨H, I, q⟩
  | int i =>
    obtain ⟨t, rfl⟩ := rx
    have e' : k = (i != 0) := e
    subst e'
    exact PySem.P.truthy_int ⟨H, I, q⟩
  | str y =>
    obtain ⟨t, rfl⟩ := rx
    obtain ⟨hy, e'⟩ : y.length ≤ sizeLine ∧ k = ((y.length : Int) != 0) := e
    subst e'
    exact PySem.P.truthy_str (by omega) ⟨H, I.tok _, q⟩
  | byt y =>
    obtain ⟨t, rfl⟩ := rx
    obtain ⟨hy, e'⟩ : y.size ≤ sizeLine ∧ k = ((y.size : Int) != 0) := e
    subst e'
    exact PySem.W.truthy_bytes (by omega) ⟨H, I.tok _, q⟩
  | ref p =>
    cases rx
    have e' : (∃ xs, SqL X.K H p xs ∧ k = !xs.isEmpty) ∨ (∃ xs, SqT X.K H p xs ∧ k = !xs.isEmpty) ∨ ∃ kvs, H p = some (.dK kvs) ∧ k = !kvs.isEmpty := e
    rcases e' with ⟨xs, hx, e'⟩ | ⟨xs, hx, e'⟩ | ⟨kvs, hx, e'⟩
    · subst e'
      obtain ⟨its, r, pl, hz⟩ := I.list hx
      have hlen := r.length
      exact wpAny_truthy_list pl.isList (by simp only [List.size_toArray]; omega) ⟨H, I.tok _, by rw [isEmpty_of r]; exact q⟩
    · subst e'
      obtain ⟨its, r, pl, hz⟩ := I.tuple hx
      have hlen := r.length
      exact truthy_tuple pl (by simp only [List.size_toArray]; omega) ⟨H, I.tok _, by rw [isEmpty_of r]; exact q⟩
    · subst e'
      obtain ⟨hz, hS, vs, r, m⟩ : kvs.length ≤ sizeLine ∧ (p == sysModules) = false ∧ ∃ vs, KV kvs vs ∧ s.heap.DictOf (mixKind X.prog X.w) p vs := I.hok p _ hx
      have hlen : kvs.length = vs.length := Paired.length r
      exact wpAny_truthy_dict hS m (by omega) ⟨H, I.tok _, by rw [isEmpty_kv r]; exact q⟩
  | _ => exact (show False from e).elim
theorem pt_truth (ha : PE X a ta) (he : ∀ whole, isTrue a X.env whole = (do let v ← whole; standAt a.pos; holding [v] (truthy v))) :
    PT X a (fun σ H Q => ta σ H fun x H' => ∃ k, TruV X.K x H' k ∧ Q k H') := by
  intro pins s σ H Q I h
  exact isTrue_plain (thn (ha pins s σ H _ I h) fun v s1 ⟨x, H1, I1, r1, q1⟩ => tru_ok pins s1 σ H1 x v Q I1 r1 q1) (he _)
theorem pe_byt {x : List UInt8} {k : Nat} : PE X (.Constant (.bytes x) k pos) (fun _ H Q => Q (.byt x.toArray) H) := fun _ _ _ H _ I h => PySem.W.Constant_bytes ⟨.byt x.toArray, H, I.tok _, ⟨_, rfl⟩, h⟩
theorem op_add_str : OpR X (binaryOp .Add) (fun x y H Q => ∃ i j, x = .str i ∧ y = .str j ∧ i.length + j.length ≤ sizeLine ∧ Q (.str (i ++ j)) H) := by
  intro pins s σ H x y v u Q I rx ry h
  obtain ⟨i, j, rfl, rfl, hz, q⟩ := h
  obtain ⟨t, rfl⟩ := rx
  obtain ⟨t', rfl⟩ := ry
  exact add_str (fun t' tk => ⟨.str (i ++ j), H, I.tok _, ⟨_, rfl⟩, q⟩) hz
theorem iop_add_str : OpR X (inplaceOp .Add) (fun x y H Q => ∃ i j, x = .str i ∧ y = .str j ∧ i.length + j.length ≤ sizeLine ∧ Q (.str (i ++ j)) H) := by
  intro pins s σ H x y v u Q I rx ry h
  obtain ⟨i, j, rfl, rfl, hz, q⟩ := h
  obtain ⟨t, rfl⟩ := rx
  obtain ⟨t', rfl⟩ := ry
  exact iadd_str (fun t' tk => ⟨.str (i ++ j), H, I.tok _, ⟨_, rfl⟩, q⟩) hz
theorem op_add_byt : OpR X (binaryOp .Add) (fun x y H Q => ∃ i j, x = .byt i ∧ y = .byt j ∧ i.size + j.size ≤ 16777216 ∧ Q (.byt (i ++ j)) H) := by
  intro pins s σ H x y v u Q I rx ry h
  obtain ⟨i, j, rfl, rfl, hz, q⟩ := h
  obtain ⟨t, rfl⟩ := rx
  obtain ⟨t', rfl⟩ := ry
  exact PySem.W.KBy.add_bytes hz (fun t' tk => ⟨.byt (i ++ j), H, I.tok _, ⟨_, rfl⟩, q⟩)
def PlainIxT (b : Expr) : Prop := ∀ o i, subscripted b false o i = operate [o, i] (getItem o i)
theorem pe_item_str (ha : PE X a ta) (hb : PE X b tb) (hs : PlainIxT b) :
    PE X (.Subscript a b pos) (tOp (fun x y H Q => ∃ z i c, x = .str z ∧ y = .int i ∧ 0 ≤ i ∧ i < 2 ^ 63 ∧ i < z.length ∧ z.cps[i.toNat]? = some c ∧ Q (.str ⟨#[c]⟩) H) ta tb) := by
  intro pins s σ H Q I h
  refine Subscript_ (binT ha hb I h fun v u s2 x y H2 I2 rx ry q => ?_)
  obtain ⟨z, i, c, rfl, rfl, h0, h63, h1, hc, q⟩ := q
  obtain ⟨t, rfl⟩ := rx
  obtain ⟨t', rfl⟩ := ry
  have e : seqIndex? i z.length = some i.toNat := PySem.StrLaws.seqIndex_nonneg h0 h1
  exact tail_any (typeIs_str s2 z t) slot_str_getitem.lookup (getItem_str (c := c) (by
    have e1 : decide (i < -(2 ^ 63 : Int)) = false := decide_eq_false (by omega)
    have e2 : decide (i ≥ 2 ^ 63) = false := decide_eq_false (by omega)
    rw [e1, e2] <;> rfl) (by rw [e]; exact hc) ⟨.str ⟨#[c]⟩, H2, I2.tok _, ⟨_, rfl⟩, q⟩) (hs _ _)
theorem pe_item_byt (ha : PE X a ta) (hb : PE X b tb) (hs : PlainIxT b) :
    PE X (.Subscript a b pos) (tOp (fun x y H Q => ∃ (z : List UInt8) (i : Int), x = .byt z.toArray ∧ y = .int i ∧ z.length ≤ sizeLine ∧ 0 ≤ i ∧ i < z.length ∧ Q (.int ((z.getD i.toNat 0).toNat : Nat)) H) ta tb) := by
  intro pins s σ H Q I h
  refine Subscript_ (binT ha hb I h fun v u s2 x y H2 I2 rx ry q => ?_)
  obtain ⟨z, i, rfl, rfl, hz, h0, h1, q⟩ := q
  obtain ⟨t, rfl⟩ := rx
  obtain ⟨t', rfl⟩ := ry
  have hl : sizeLine = 16777216 := sizeLine_eq
  exact tail_any (PySem.W.typeIs_bytes s2 z.toArray t) PySem.W.FB.slot_bytes_getitem.lookup (PySem.W.getItem_bytes (by omega) h0 h1 ⟨.int ((z.getD i.toNat 0).toNat : Nat), H2, I2.tok _, ⟨_, rfl⟩, q⟩) (hs _ _)
theorem vals1 {x : V} {us : List Value} (r : Vals [x] us) : ∃ u, us = [u] ∧ RelV x u := by
  cases r with
  | cons r1 r2 => cases r2; exact ⟨_, rfl, r1⟩
theorem vals2 {x y : V} {us : List Value} (r : Vals [x, y] us) : ∃ u w', us = [u, w'] ∧ RelV x u ∧ RelV y w' := by
  cases r with
  | cons r1 r2 =>
    cases r2 with
    | cons r3 r4 => cases r4; exact ⟨_, _, rfl, r1, r3⟩
theorem call_abs : CallR X (.builtin "abs") (fun xs H Q => ∃ i, xs = [.int i] ∧ Q (.int (if i < 0 then -i else i)) H) := by
  intro pins s σ H xs us Q I r h
  obtain ⟨i, rfl, q⟩ := h
  obtain ⟨u, rfl, t, rfl⟩ := vals1 r
  exact call_abs_int fun u tk => ⟨.int (if i < 0 then -i else i), H, I.tok _, ⟨_, rfl⟩, q⟩
theorem call_max2 (hc : X.calm = true) : CallR X (.builtin "max") (fun xs H Q => ∃ i j, xs = [.int i, .int j] ∧ Q (.int (if j > i then j else i)) H) := by
  intro pins s σ H xs us Q I r h
  obtain ⟨i, j, rfl, q⟩ := h
  obtain ⟨u, w', rfl, ⟨t, rfl⟩, ⟨t', rfl⟩⟩ := vals2 r
  refine max_two_ints (I.ok.hd hc) fun h' tk k => ⟨_, H, I.kept k, ?_, q⟩
  by_cases hj : j > i
  · rw [if_pos hj, if_pos hj]; exact ⟨_, rfl⟩
  · rw [if_neg hj, if_neg hj]; exact ⟨_, rfl⟩
theorem call_min2 (hc : X.calm = true) : CallR X (.builtin "min") (fun xs H Q => ∃ i j, xs = [.int i, .int j] ∧ Q (.int (if j < i then j else i)) H) := by
  intro pins s σ H xs us Q I r h
  obtain ⟨i, j, rfl, q⟩ := h
  obtain ⟨u, w', rfl, ⟨t, rfl⟩, ⟨t', rfl⟩⟩ := vals2 r
  refine min_two_ints (I.ok.hd hc) fun h' tk k => ⟨_, H, I.kept k, ?_, q⟩
  by_cases hj : j < i
  · rw [if_pos hj, if_pos hj]; exact ⟨_, rfl⟩
  · rw [if_neg hj, if_neg hj]; exact ⟨_, rfl⟩
theorem call_int1 : CallR X (.type "int") (fun xs H Q => (∃ i, xs = [.int i] ∧ Q (.int i) H) ∨ ∃ k, xs = [.bl k] ∧ Q (.int (if k then 1 else 0)) H) := by
  intro pins s σ H xs us Q I r h
  rcases h with ⟨i, rfl, q⟩ | ⟨k, rfl, q⟩
  · obtain ⟨u, rfl, t, rfl⟩ := vals1 r
    exact call_int_int ⟨.int i, H, I, ⟨_, rfl⟩, q⟩
  · obtain ⟨u, rfl, r1⟩ := vals1 r
    cases r1
    exact call_int_bool ⟨.int (if k then 1 else 0), H, I.tok _, ⟨_, rfl⟩, q⟩
theorem call_bool1 : CallR X (.type "bool") (fun xs H Q => (∃ i, xs = [.int i] ∧ Q (.bl (i != 0)) H) ∨ ∃ k, xs = [.bl k] ∧ Q (.bl k) H) := by
  intro pins s σ H xs us Q I r h
  rcases h with ⟨i, rfl, q⟩ | ⟨k, rfl, q⟩
  · obtain ⟨u, rfl, t, rfl⟩ := vals1 r
    exact call_bool_int ⟨.bl (i != 0), H, I, rfl, q⟩
  · obtain ⟨u, rfl, r1⟩ := vals1 r
    cases r1
    exact call_bool_bool ⟨.bl k, H, I, rfl, q⟩
theorem call_str_int : CallR X (.type "str") (fun xs H Q => ∃ i, xs = [.int i] ∧ i.natAbs.log2 < 1920 ∧ Q (.str (toString i)) H) := by
  intro pins s σ H xs us Q I r h
  obtain ⟨i, rfl, hz, q⟩ := h
  obtain ⟨u, rfl, t, rfl⟩ := vals1 r
  exact PySem.P.str_of_int hz ⟨.str _, H, I.tok _, ⟨_, rfl⟩, q⟩
theorem call_ord : CallR X (.builtin "ord") (fun xs H Q => ∃ x, xs = [.str x] ∧ x.length = 1 ∧ Q (.int (x.cps.getD 0 0 : Nat)) H) := by
  intro pins s σ H xs us Q I r h
  obtain ⟨x, rfl, hz, q⟩ := h
  obtain ⟨u, rfl, t, rfl⟩ := vals1 r
  exact ord_of_one hz ⟨.int _, H, I.tok _, ⟨_, rfl⟩, q⟩
theorem call_chr : CallR X (.builtin "chr") (fun xs H Q => ∃ i, xs = [.int i] ∧ 0 ≤ i ∧ i ≤ 1114111 ∧ Q (.str ⟨#[i.toNat]⟩) H) := by
  intro pins s σ H xs us Q I r h
  obtain ⟨i, rfl, h0, h1, q⟩ := h
  obtain ⟨u, rfl, t, rfl⟩ := vals1 r
  exact chr_of_range h0 h1 ⟨.str _, H, I.tok _, ⟨_, rfl⟩, q⟩
def LenV (K : PySem.W.Frag) (x : V) (H : Hp) (n : Nat) : Prop :=
  match x with
  | .str y => y.length ≤ sizeLine ∧ n = y.length
  | .byt y => y.size ≤ sizeLine ∧ n = y.size
  | .ref p => (∃ xs, SqL K H p xs ∧ n = xs.length) ∨ ∃ xs, SqT K H p xs ∧ n = xs.length
  | _ => False
theorem call_len : CallR X (.builtin "len") (fun xs H Q => ∃ x n, xs = [x] ∧ LenV X.K x H n ∧ Q (.int n) H) := by
  intro pins s σ H xs us Q I r h
  obtain ⟨x, n, rfl, e, q⟩ := h
  obtain ⟨u, rfl, rx⟩ := vals1 r
  have hl := line63
  have hs : sizeLine = 16777216 := sizeLine_eq
  cases x with
  | str y =>
    obtain ⟨t, rfl⟩ := rx
    obtain ⟨hy, e'⟩ : y.length ≤ sizeLine ∧ n = y.length := e
    subst e'
    exact len_str (by omega) ⟨.int _, H, I.tok _, ⟨_, rfl⟩, q⟩
  | byt y =>
    obtain ⟨t, rfl⟩ := rx
    obtain ⟨hy, e'⟩ : y.size ≤ sizeLine ∧ n = y.size := e
    subst e'
    exact PySem.W.len_bytes (by omega) ⟨.int _, H, I.tok _, ⟨_, rfl⟩, q⟩
  | ref p =>
    cases rx
    have e' : (∃ xs, SqL X.K H p xs ∧ n = xs.length) ∨ ∃ xs, SqT X.K H p xs ∧ n = xs.length := e
    rcases e' with ⟨xs, hx, e'⟩ | ⟨xs, hx, e'⟩
    · subst e'
      obtain ⟨its, r', pl, hz⟩ := I.list hx
      have hlen := r'.length
      exact Calls.call_len_list pl.isList (by simp only [List.size_toArray]; omega) ⟨.int xs.length, H, I.tok _, ⟨_, by simp only [List.size_toArray]; rw [hlen]⟩, q⟩
    · subst e'
      obtain ⟨its, r', pl, hz⟩ := I.tuple hx
      have hlen := r'.length
      exact len_tuple pl (by simp only [List.size_toArray]; omega) ⟨.int xs.length, H, I.tok _, ⟨_, by simp only [List.size_toArray]; rw [hlen]⟩, q⟩
  | _ => exact (show False from e).elim
theorem call_divmod : CallR X (.builtin "divmod") (fun xs H Q => ∃ i j, xs = [.int i, .int j] ∧ CDiv i j ∧ ∀ p, H p = none → Q (.ref p) (upd H p (.tup [.int (i / j), .int (i % j)]))) := by
  intro pins s σ H xs us Q I r h
  obtain ⟨i, j, rfl, ⟨h1, h2⟩, q⟩ := h
  obtain ⟨u, w', rfl, ⟨t, rfl⟩, ⟨t', rfl⟩⟩ := vals2 r
  refine divmod_int (by omega) ?_ (.inl (PyProof.noPylong_small (by omega)))
  rw [Int.fdiv_eq_ediv_of_nonneg i (by omega), Int.fmod_eq_emod_of_nonneg i (by omega)]
  have hn : H s.heap.objs.size = none := I.hok.fresh (Nat.le_refl _)
  refine ⟨.ref s.heap.objs.size, _, ?_, rfl, q _ hn⟩
  refine I.laid (fun b o e => Heap.get?_push_of_some _ e) (Nat.le_refl _) ⟨by simp only [List.length_cons, List.length_nil]; rw [sizeLine_eq]; decide, [.int (i / j) s.toks, .int (i % j) (s.toks + 1)], .cons ⟨_, rfl⟩ (.cons ⟨_, rfl⟩ .nil), ?_⟩
  exact ⟨_, Heap.get?_push_size s.heap rfl, rfl, 0, rfl⟩
end
end L2
namespace L2
open PySem PySem.Spec PyProof.Rows
structure ObjM (h : Heap) (x dx C : Addr) (mA : Str → Option Value) : Prop where
  obj : h.get? x = some (PySem.W.instObj C dx)
  ns : h.Ns1 dx mA
  ne : dx ≠ x
theorem lookIn_ns {h : Heap} {dx : Addr} {mA : Str → Option Value} (n : h.Ns1 dx mA) : ∃ od, h.get? dx = some od ∧ ∀ name, PySem.W.lookIn name od = some (mA name) := by
  obtain ⟨o, es, ep, ho, hd, hk, _, hm⟩ := n
  refine ⟨o, ho, fun name => ?_⟩
  have e := hm name
  unfold nsFind findBy at e
  rw [← Array.find?_toList] at e
  unfold PySem.W.lookIn
  rw [hd]
  dsimp only
  split
  · rename_i y q
    rw [q] at e
    exact congrArg some e
  · rename_i q
    rw [q] at e
    have a : es.toList.any (·.refKey) = false := by
      rw [List.any_eq_false]
      intro y hy
      obtain ⟨z, t, hkey⟩ := hk y (Array.mem_toList_iff.mp hy)
      simp [DictEntry.refKey, hkey]
    have a' : ¬ es.toList.any (·.refKey) = true := by rw [a]; exact Bool.false_ne_true
    rw [if_neg a']
    exact congrArg some e
theorem ObjM.look {h : Heap} {x dx C : Addr} {mA : Str → Option Value} (I : ObjM h x dx C mA) : ∃ od, PySem.W.InstAt h x (PySem.W.instObj C dx) C (some od) ∧ ∀ name, PySem.W.lookIn name od = some (mA name) :=
  let ⟨od, ho, hl⟩ := lookIn_ns I.ns
  ⟨od, ⟨I.obj, rfl, rfl, ho⟩, hl⟩
section
variable {prog : Program} {w : World} {A : Around} {E : Value → Shared → Prop} {s : Shared} {K : PySem.W.Frag} {x dx C f : Addr} {mA : Str → Option Value} {name : Str} {v : Value}
theorem get_map {expr : Bool} {Q : Value → Shared → Prop} (X : K.In s.heap) (I : ObjM s.heap x dx C mA) (hg : PySem.W.plainGet K C name = true) (hh : PySem.W.hasDictIn K C = true)
    (ha : PySem.W.findIn K (.ref C) name = some none) (hv : mA name = some v) (hv' : PySem.W.handedIn v = true) (h : Q v { s with toks := s.toks + 1 }) :
    wpAny (model prog w) A (getAttr (.ref x) name expr) Q E s := by
  obtain ⟨od, J, hl⟩ := I.look
  exact PySem.W.get_value X J (PySem.W.plainGet_of hg).1 (PySem.W.findObj_own hh ha rfl (by rw [hl, hv])) hv' h
theorem get_const {expr : Bool} {a : Value} {Q : Value → Shared → Prop} (X : K.In s.heap) (I : ObjM s.heap x dx C mA) (hg : PySem.W.plainGet K C name = true) (hh : PySem.W.hasDictIn K C = true)
    (ha : PySem.W.findIn K (.ref C) name = some (some a)) (hn : PySem.W.specialIn K a "__get__" = some none) (hc : PySem.W.copiedNames.contains name = false) (hv : mA name = none) (hv' : PySem.W.handedIn a = true)
    (h : Q a { s with toks := s.toks + 1 }) : wpAny (model prog w) A (getAttr (.ref x) name expr) Q E s := by
  obtain ⟨od, J, hl⟩ := I.look
  exact PySem.W.get_value X J (PySem.W.plainGet_of hg).1 (PySem.W.findObj_cls hh ha hn hv' hc (by rw [hl, hv])) hv' h
theorem get_meth {pl : Sem Bool} {Q : Value × List Value → Shared → Prop} (X : K.In s.heap) (I : ObjM s.heap x dx C mA) (hg : PySem.W.plainGet K C name = true)
    (hf : PySem.W.findIn K (.ref C) name = some (some (.ref f))) (ht : PySem.W.isFn K (.ref f) = true) (hv : mA name = none) (h : Q (.ref f, [.ref x]) s) :
    wpAny (model prog w) A (getMethod (.ref x) name pl) Q E s := by
  obtain ⟨od, J, hl⟩ := I.look
  exact PySem.W.method_fn X J (PySem.W.plainGet_of hg).1 (PySem.W.plainGet_of hg).2 hf (beq_iff_eq.mp ht) (by show (PySem.W.lookIn name od).map (·.isSome) = some false; rw [hl, hv]; rfl) h
theorem set_map {ns : List Str} {Q : Unit → Shared → Prop} (X : K.In s.heap) (I : ObjM s.heap x dx C mA)
    (hs : PySem.W.findIn K (.ref C) "__setattr__" = some (some (.builtin "object.__setattr__"))) (hp : PySem.W.plainOver K C = true) (ht : PySem.W.takerIn K C name = some none) (hh : PySem.W.hasDictIn K C = true)
    (hw : PySem.Within mA ns) (hsz : ns.length ≤ sizeLine)
    (h : ∀ h', ObjM h' x dx C (fun y => if y = name then some v else mA y) → Heap.SameBut dx s.heap h' → Q () { s with heap := h', toks := s.toks + 2 }) :
    wpAny (model prog w) A (setAttr (.ref x) name v) Q E s := by
  obtain ⟨od, J, hl⟩ := I.look
  refine PySem.W.set_plain X J hs (PySem.W.osa_open (s := { s with toks := s.toks + 1 }) (r := none) X J hp ht fun b => ?_)
  obtain ⟨cd, hc, hd'⟩ := PySem.W.any_some hh
  have hx : s.heap.get? x = some ⟨.ref C, some dx, .plain, #[]⟩ := I.obj
  refine wpAny_bind (wpAny_pure (wpAny_bind (wpAny_bind (wpAny_loadPart hx (wpAny_bind (PySem.W.Looks.here (s := { s with toks := s.toks + 1 }) (PySem.W.looks_clsIn X hc) ?_))))))
  rw [hd']
  refine wpAny_pure (a := some dx) (wpAny_bind (wpAny_pure (wpAny_bind ?_)))
  refine wpAny_nsSet1 (s := { s with toks := s.toks + 1 }) I.ns fun h' hn2 hs2 => ?_
  obtain ⟨oD, esD, epD, hoD, hdD, hcD⟩ := hn2.count (PySem.Within.cons name v hw)
  refine wpAny_bind (wpAny_lookBehind hoD (by rw [hdD]; exact pastItsLine_dict (Nat.le_trans hcD (by rw [List.length_cons]; omega))) ?_)
  exact wpAny_pure (h _ ⟨(hs2.2 _ (Ne.symm I.ne)).trans I.obj, hn2, I.ne⟩ hs2)
theorem make_map {R : Result → Shared → Prop} {vs : List Value} {kw : List (Str × Value)} (X : K.In s.heap) (hm : PySem.W.makesIn K C = true)
    (hi : PySem.W.findIn K (.ref C) "__init__" = some (some (.ref f))) (hf : PySem.W.typeIn K (.ref f) = some (.type "function"))
    (h : codeAny (model prog w) (A.under (.builtin "type.__call__" ⟨.ref C :: vs, kw⟩)) (.call (.ref f) ⟨.ref (s.heap.objs.size + 1) :: vs, kw⟩) (PySem.W.InitBack (s.heap.objs.size + 1) R)
      { s with heap := (s.heap.push PySem.W.emptyDict).push (PySem.W.instObj C s.heap.objs.size) }) :
    codeAny (model prog w) A (.call (.ref C) ⟨vs, kw⟩) R s := by
  obtain ⟨hh, g, d, t, os⟩ := s
  exact PySem.W.make_core (PySem.W.makes_of X hm) (PySem.W.looks_findIn X hi) (fun self => PySem.W.bind_fn X self hf) (.inl rfl) h
theorem make_map0 {R : Result → Shared → Prop} (X : K.In s.heap) (hm : PySem.W.makesIn K C = true)
    (hi : PySem.W.findIn K (.ref C) "__init__" = some (some (.builtin "object.__init__")))
    (hb : ∀ self, PySem.W.Looks (model prog w) s.heap (bindSpecial (.builtin "object.__init__") self) (.builtin "object.__init__", [self]))
    (h : codeAny (model prog w) (A.under (.builtin "type.__call__" ⟨[.ref C], []⟩)) (.call (.builtin "object.__init__") ⟨[.ref (s.heap.objs.size + 1)], []⟩) (PySem.W.InitBack (s.heap.objs.size + 1) R)
      { s with heap := (s.heap.push PySem.W.emptyDict).push (PySem.W.instObj C s.heap.objs.size) }) :
    codeAny (model prog w) A (.call (.ref C) ⟨[], []⟩) R s := by
  obtain ⟨hh, g, d, t, os⟩ := s
  exact PySem.W.make_core (PySem.W.makes_of X hm) (PySem.W.looks_findIn X hi) hb (.inr ⟨rfl, rfl⟩) h
end
def putF (f : Str) (v : V) : List (Str × V) → List (Str × V)
  | [] => [(f, v)]
  | (g, x) :: r => if g = f then (g, v) :: r else (g, x) :: putF f v r
theorem lookup_putF (f g : Str) (v : V) : ∀ fs : List (Str × V), (putF f v fs).lookup g = if g = f then some v else fs.lookup g
  | [] => by
    show List.lookup g [(f, v)] = _
    by_cases h : g = f
    · have hb : (g == f) = true := beq_iff_eq.mpr h
      simp only [List.lookup, hb, if_pos h]
    · have hb : (g == f) = false := beq_eq_false_iff_ne.mpr h
      simp only [List.lookup, hb, if_neg h]
  | (k, x) :: r => by
    have ih := lookup_putF f g v r
    rw [show putF f v ((k, x) :: r) = (if k = f then (k, v) :: r else (k, x) :: putF f v r) from rfl]
    by_cases hk : k = f
    · rw [if_pos hk]
      by_cases h : g = k
      · have hb : (g == k) = true := beq_iff_eq.mpr h
        simp only [List.lookup, hb, if_pos (h.trans hk)]
      · have hb : (g == k) = false := beq_eq_false_iff_ne.mpr h
        simp only [List.lookup, hb, if_neg (fun e : g = f => h (e.trans hk.symm))]
    · rw [if_neg hk]
      by_cases h : g = k
      · have hb : (g == k) = true := beq_iff_eq.mpr h
        simp only [List.lookup, hb, if_neg (fun e : g = f => hk (h.symm.trans e))]
      · have hb : (g == k) = false := beq_eq_false_iff_ne.mpr h
        simp only [List.lookup, hb]
        exact ih
theorem keys_putF (f : Str) (v : V) : ∀ fs : List (Str × V), f ∈ (putF f v fs).map (·.1) ∧ ∀ g, g ∈ fs.map (·.1) → g ∈ (putF f v fs).map (·.1)
  | [] => ⟨by simp [putF], fun g h => by simp at h⟩
  | (k, x) :: r => by
    obtain ⟨i1, i2⟩ := keys_putF f v r
    rw [show putF f v ((k, x) :: r) = (if k = f then (k, v) :: r else (k, x) :: putF f v r) from rfl]
    by_cases hk : k = f
    · rw [if_pos hk]
      subst hk
      exact ⟨by simp, fun g h => by simpa using h⟩
    · rw [if_neg hk]
      refine ⟨?_, fun g h => ?_⟩
      · rw [List.map_cons]
        exact List.mem_cons_of_mem _ i1
      · rw [List.map_cons] at h ⊢
        rcases List.mem_cons.mp h with e | e
        · exact List.mem_cons.mpr (.inl e)
        · exact List.mem_cons_of_mem _ (i2 g e)
theorem length_putF (f : Str) (v : V) : ∀ fs : List (Str × V), (putF f v fs).length ≤ fs.length + 1
  | [] => by simp [putF]
  | (k, x) :: r => by
    have ih := length_putF f v r
    rw [show putF f v ((k, x) :: r) = (if k = f then (k, v) :: r else (k, x) :: putF f v r) from rfl]
    by_cases hk : k = f
    · rw [if_pos hk, List.length_cons, List.length_cons]; omega
    · rw [if_neg hk, List.length_cons, List.length_cons]; omega
theorem RelO.some_of {v : V} {o : Option Value} (r : RelO (some v) o) : ∃ u, o = some u ∧ RelV v u := by
  cases o with
  | none => exact (show False from r).elim
  | some u => exact ⟨u, rfl, r⟩
theorem RelO.none_of {o : Option Value} (r : RelO none o) : o = none := by
  cases o with
  | none => rfl
  | some u => exact (show False from r).elim
theorem handed_of {v : V} {u : Value} (r : RelV v u) : PySem.W.handedIn u = true := by
  cases v with
  | non => cases (show u = Value.none from r); rfl
  | bl b => cases (show u = Value.bool b from r); rfl
  | int i => obtain ⟨t, e⟩ := (show ∃ t, u = Value.int i t from r); cases e; rfl
  | str x => obtain ⟨t, e⟩ := (show ∃ t, u = Value.str x t from r); cases e; rfl
  | byt b => obtain ⟨t, e⟩ := (show ∃ t, u = Value.bytes b t from r); cases e; rfl
  | flt b => obtain ⟨t, e⟩ := (show ∃ t, u = Value.float b t from r); cases e; rfl
  | ref a => cases (show u = Value.ref a from r); rfl
  | ty n => cases (show u = Value.type n from r); rfl
section
variable {P : Program} {w : World} {H H' : Hp} {h h' : Heap} {a C dx : Addr} {fs fs' : List (Str × V)}
theorem ins_get (hok : HOk P w H h) (e : H a = some (.ins C dx fs)) : ∃ mA, ObjM h a dx C mA ∧ (∀ f, RelO (fs.lookup f) (mA f)) ∧ PySem.Within mA (fs.map (·.1)) ∧ fs.length ≤ 1000 ∧ H dx = some (.own a) := by
  obtain ⟨d, z, ne, ob, mA, n, r, q⟩ := (show ObjOk P w H h a (.ins C dx fs) from hok a _ e)
  exact ⟨mA, ⟨ob, n, ne⟩, r, q, z, d⟩
end
structure Cls (K : PySem.W.Frag) (C : Addr) : Prop where
  pg : PySem.W.plainGet K C Str.empty = true
  hd : PySem.W.hasDictIn K C = true
  po : PySem.W.plainOver K C = true
  sa : PySem.W.findIn K (.ref C) "__setattr__" = some (some (.builtin "object.__setattr__"))
theorem Cls.get {K : PySem.W.Frag} {C : Addr} (c : Cls K C) (f : Str) : PySem.W.plainGet K C f = true := c.pg
def NoAttr (K : PySem.W.Frag) (C : Addr) (f : Str) : Prop := PySem.W.findIn K (.ref C) f = some none
theorem NoAttr.taker {K : PySem.W.Frag} {C : Addr} {f : Str} (n : NoAttr K C f) : PySem.W.takerIn K C f = some none := by
  unfold PySem.W.takerIn
  rw [show PySem.W.findIn K (.ref C) f = some none from n]
  rfl
structure Con (K : PySem.W.Frag) (C : Addr) (f : Str) (v : V) (u : Value) : Prop where
  at_ : PySem.W.findIn K (.ref C) f = some (some u)
  rel : RelV v u
  get : PySem.W.specialIn K u "__get__" = some none
  cp : PySem.W.copiedNames.contains f = false
structure Meth (K : PySem.W.Frag) (C : Addr) (m : Str) (f : Addr) : Prop where
  at_ : PySem.W.findIn K (.ref C) m = some (some (.ref f))
  fn : PySem.W.isFn K (.ref f) = true
  kp : PySem.W.keepIn K (.ref f) = true
section
variable {X : Cx} {pins : List (Addr × Obj)} {σ : St} {H : Hp} {s : Shared} {a C dx : Addr} {fs : List (Str × V)} {f : Str} {v : V} {A : Around} {E : Value → Shared → Prop}
theorem getattr_ok {b : Bool} {Q : Value → Shared → Prop} (I : Inv X pins σ H s) (e : H a = some (.ins C dx fs)) (c : Cls X.K C) (n : NoAttr X.K C f) (l : fs.lookup f = some v)
    (h : ∀ u s', Inv X pins σ H s' → RelV v u → Q u s') : wpAny (model X.prog X.w) A (getAttr (.ref a) f b) Q E s := by
  obtain ⟨mA, O, r, _, _, _⟩ := ins_get I.hok e
  obtain ⟨u, hu, ru⟩ := RelO.some_of (v := v) (o := mA f) (by rw [← l]; exact r f)
  exact get_map I.kIn O (c.get f) c.hd n hu (handed_of ru) (h u _ (I.tok _) ru)
theorem getcon_ok {b : Bool} {u : Value} {Q : Value → Shared → Prop} (I : Inv X pins σ H s) (e : H a = some (.ins C dx fs)) (c : Cls X.K C) (k : Con X.K C f v u) (l : fs.lookup f = none)
    (h : ∀ s', Inv X pins σ H s' → Q u s') : wpAny (model X.prog X.w) A (getAttr (.ref a) f b) Q E s := by
  obtain ⟨mA, O, r, _, _, _⟩ := ins_get I.hok e
  have hn : mA f = none := RelO.none_of (by rw [← l]; exact r f)
  exact get_const I.kIn O (c.get f) c.hd k.at_ k.get k.cp hn (handed_of k.rel) (h _ (I.tok _))
theorem getmeth_ok {m : Str} {g : Addr} {pl : Sem Bool} {Q : Value × List Value → Shared → Prop} (I : Inv X pins σ H s) (e : H a = some (.ins C dx fs)) (c : Cls X.K C) (k : Meth X.K C m g) (l : fs.lookup m = none)
    (h : Q (.ref g, [.ref a]) s) : wpAny (model X.prog X.w) A (getMethod (.ref a) m pl) Q E s := by
  obtain ⟨mA, O, r, _, _, _⟩ := ins_get I.hok e
  have hn : mA m = none := RelO.none_of (by rw [← l]; exact r m)
  exact get_meth I.kIn O (c.get m) k.at_ k.fn hn h
theorem setattr_ok {y : V} {u : Value} {Q : Unit → Shared → Prop} (I : Inv X pins σ H s) (e : H a = some (.ins C dx fs)) (c : Cls X.K C) (n : NoAttr X.K C f) (hl : fs.length < 1000) (ry : RelV y u)
    (h : ∀ s', Inv X pins σ (upd H a (.ins C dx (putF f y fs))) s' → Q () s') : wpAny (model X.prog X.w) A (setAttr (.ref a) f u) Q E s := by
  obtain ⟨mA, O, r, wi, _, ho⟩ := ins_get I.hok e
  have hz : (fs.map (·.1)).length ≤ sizeLine := by rw [List.length_map, sizeLine_eq]; omega
  refine set_map I.kIn O c.sa c.po n.taker c.hd wi hz fun h' O' sb => h _ ?_
  have hd : ∃ o, h'.get? dx = some o := let ⟨o, _, _, e', _⟩ := O'.ns; ⟨o, e'⟩
  refine I.write (x := a) (e := dx) (by rw [e]; exact True.intro) (.inr ho) (fun b q hb z => (sb.2 b hb).trans z) hd ?_
  refine ⟨by rw [upd_ne O.ne]; exact ho, ?_, O.ne, O'.obj, _, O'.ns, fun g => ?_, fun g hg => ?_⟩
  · have := length_putF f y fs; omega
  · show RelO ((putF f y fs).lookup g) (if g = f then some u else mA g)
    rw [lookup_putF]
    by_cases q : g = f
    · rw [if_pos q, if_pos q]; exact ry
    · rw [if_neg q, if_neg q]; exact r g
  · by_cases q : g = f
    · rw [q]; exact (keys_putF f y fs).1
    · refine (keys_putF f y fs).2 g (wi g fun z => hg ?_)
      show (if g = f then some u else mA g) = none
      rw [if_neg q]; exact z
theorem Inv.made (I : Inv X pins σ H s) : Inv X pins σ (upd (upd H s.heap.objs.size (.own (s.heap.objs.size + 1))) (s.heap.objs.size + 1) (.ins C s.heap.objs.size []))
    { s with heap := (s.heap.push PySem.W.emptyDict).push (PySem.W.instObj C s.heap.objs.size) } := by
  have e1 : (s.heap.push PySem.W.emptyDict).get? s.heap.objs.size = some PySem.W.emptyDict := Heap.get?_push_size s.heap rfl
  have e2 : ((s.heap.push PySem.W.emptyDict).push (PySem.W.instObj C s.heap.objs.size)).get? (s.heap.objs.size + 1) = some (PySem.W.instObj C s.heap.objs.size) := by
    have := Heap.get?_push_size (s.heap.push PySem.W.emptyDict) (o := PySem.W.instObj C s.heap.objs.size) rfl
    rwa [Heap.size_push] at this
  have e3 : (s.heap.push PySem.W.emptyDict).Ns s.heap.objs.size (fun _ => none) := ⟨PySem.W.emptyDict, #[], _, e1, rfl, (fun e he => absurd he (by simp)), fun _ => rfl⟩
  have I1 := I.laid (a := s.heap.objs.size) (o := .own (s.heap.objs.size + 1)) (h' := s.heap.push PySem.W.emptyDict) (t' := s.toks) (fun b u q => Heap.get?_push_of_some _ q) (Nat.le_refl _) ⟨_, e1⟩
  refine I1.laid (a := s.heap.objs.size + 1) (o := .ins C s.heap.objs.size []) (t' := s.toks) (fun b u q => Heap.get?_push_of_some _ q) (Nat.le_of_eq (Heap.size_push _ _)) ?_
  have ne : s.heap.objs.size ≠ s.heap.objs.size + 1 := Nat.ne_of_lt (Nat.lt_succ_self _)
  refine ⟨by rw [upd_ne ne, upd_same], Nat.zero_le _, ne, e2, fun _ => none, (Heap.Ns1.of_empty e3).at fun o q => Heap.get?_push_of_some _ q, fun _ => True.intro, fun y hy => absurd rfl hy⟩
theorem attr_of {prog : Program} {w : World} {env : Env} {e : Expr} {f : Str} {pos : Pos} {s : Shared} {Q : Value → Shared → Prop} (hb : attributeBase e f env (eval e env) = eval e env)
    (h : wpAny (model prog w) A (eval e env) (fun o s₁ => wpAny (model prog w) A (getAttr o f true) Q E s₁) E s) : wpAny (model prog w) A (eval (.Attribute e f pos) env) Q E s :=
  Attribute_any_ h (by rw [arm_eval_Attribute, hb])
end
def tFld (K : PySem.W.Frag) (ta : TE) (f : Str) : TE := fun σ H Q => ta σ H fun x H1 => ∃ a C dx fs v, x = .ref a ∧ H1 a = some (.ins C dx fs) ∧ Cls K C ∧ NoAttr K C f ∧ fs.lookup f = some v ∧ Q v H1
def tCon (K : PySem.W.Frag) (ta : TE) (f : Str) : TE := fun σ H Q => ta σ H fun x H1 => ∃ a C dx fs v u, x = .ref a ∧ H1 a = some (.ins C dx fs) ∧ Cls K C ∧ Con K C f v u ∧ fs.lookup f = none ∧ Q v H1
def sFld (K : PySem.W.Frag) (ta tv : TE) (f : Str) : TS := fun D σ H => tv σ H fun y H1 => ta σ H1 fun x H2 => ∃ a C dx fs, x = .ref a ∧ H2 a = some (.ins C dx fs) ∧ Cls K C ∧ NoAttr K C f ∧ fs.length < 1000 ∧
  D.nx σ (upd H2 a (.ins C dx (putF f y fs)))
def InOp (X : Cx) (op : Operator) (rd : V → V → Hp → VK → Prop) : Prop :=
  ∀ (pins : List (Addr × Obj)) (s : Shared) (σ : St) (H : Hp) (x y : V) (u v : Value) (Q : VK), Inv X pins σ H s → RelV x u → RelV y v → rd x y H Q → wpAny (model X.prog X.w) X.A (inplaceOp op u v) (EP X pins σ Q) X.xe s
def sFldAug (K : PySem.W.Frag) (ta tv : TE) (rd : V → V → Hp → VK → Prop) (f : Str) : TS := fun D σ H => ta σ H fun x H1 => ∃ a C dx fs v, x = .ref a ∧ H1 a = some (.ins C dx fs) ∧ Cls K C ∧ NoAttr K C f ∧ fs.lookup f = some v ∧
  tv σ H1 fun y H2 => rd v y H2 fun z H3 => ∃ dx' fs', H3 a = some (.ins C dx' fs') ∧ fs'.length < 1000 ∧ D.nx σ (upd H3 a (.ins C dx' (putF f z fs')))
section
variable {X : Cx} {o e value : Expr} {f : Str} {pos pos' tpos : Pos} {ta tv : TE}
theorem pe_fld (he : PE X e ta) (hb : attributeBase e f X.env (eval e X.env) = eval e X.env) : PE X (.Attribute e f pos) (tFld X.K ta f) := by
  intro pins s σ H Q I h
  refine attr_of hb (thn (he pins s σ H _ I h) fun u s1 ⟨x, H1, I1, rx, a, C, dx, fs, v, ex, ea, c, n, l, q⟩ => ?_)
  subst ex
  obtain rfl : u = Value.ref a := rx
  exact getattr_ok I1 ea c n l fun u' s2 I2 ru => ⟨v, H1, I2, ru, q⟩
theorem pe_con (he : PE X e ta) (hb : attributeBase e f X.env (eval e X.env) = eval e X.env) : PE X (.Attribute e f pos) (tCon X.K ta f) := by
  intro pins s σ H Q I h
  refine attr_of hb (thn (he pins s σ H _ I h) fun u s1 ⟨x, H1, I1, rx, a, C, dx, fs, v, u0, ex, ea, c, k, l, q⟩ => ?_)
  subst ex
  obtain rfl : u = Value.ref a := rx
  exact getcon_ok I1 ea c k l fun s2 I2 => ⟨v, H1, I2, k.rel, q⟩
theorem ps_fld (ha : PE X o ta) (hv : PE X value tv) (hs : swapsWith value (some (.Attribute o f pos')) pos.line X.env = pure false) : PS X (.Assign [.Attribute o f pos'] value pos) (sFld X.K ta tv f) := by
  intro pins s σ H D I h
  refine plainObj_wpAny_Assign_Attribute (thn (hv pins s σ H _ I h) fun u s1 ⟨y, H1, I1, ry, q⟩ => thn (ha pins s1 σ H1 _ I1 q) fun ov s2 ⟨x, H2, I2, rx, a, C, dx, fs, ex, ea, c, n, l, q2⟩ => ?_) hs
  subst ex
  obtain rfl : ov = Value.ref a := rx
  exact setattr_ok I2 ea c n l ry fun s3 I3 => ⟨σ, _, I3, q2⟩
theorem ps_fldaug {op : Operator} {rd : V → V → Hp → VK → Prop} (ha : PE X o ta) (hv : PE X value tv) (hop : InOp X op rd) : PS X (.AugAssign (.Attribute o f tpos) op value pos) (sFldAug X.K ta tv rd f) := by
  intro pins s σ H D I h
  refine wpAny_AugAssign_AttributeAny (thn (ha pins s σ H _ I h) fun ov s1 ⟨x, H1, I1, rx, a, C, dx, fs, v, ex, ea, c, n, l, q⟩ => ?_)
  subst ex
  obtain rfl : ov = Value.ref a := rx
  refine getattr_ok I1 ea c n l fun u s2 I2 ru => thn (hv pins s2 σ H1 _ I2 q) fun w3 s3 ⟨y, H2, I3, ry, q3⟩ => thn (hop pins s3 σ H2 v y u w3 _ I3 ru ry q3) fun w4 s4 ⟨z, H3, I4, rz, dx', fs', ea', l', q4⟩ => ?_
  exact setattr_ok I4 ea' c n l' rz fun s5 I5 => ⟨σ, _, I5, q4⟩
def rAdd : V → V → Hp → VK → Prop := fun x y H Q => ∃ i j, x = .int i ∧ y = .int j ∧ Q (.int (i + j)) H
def rSub : V → V → Hp → VK → Prop := fun x y H Q => ∃ i j, x = .int i ∧ y = .int j ∧ Q (.int (i - j)) H
theorem in_add : InOp X .Add rAdd := by
  rintro pins s σ H x y u v Q I rx ry ⟨i, j, rfl, rfl, q⟩
  obtain ⟨t, rfl⟩ := (show ∃ t, u = Value.int i t from rx)
  obtain ⟨t', rfl⟩ := (show ∃ t', v = Value.int j t' from ry)
  exact PyProof.Rows.iadd_int ⟨.int (i + j), H, I.tok _, ⟨_, rfl⟩, q⟩
theorem in_sub : InOp X .Sub rSub := by
  rintro pins s σ H x y u v Q I rx ry ⟨i, j, rfl, rfl, q⟩
  obtain ⟨t, rfl⟩ := (show ∃ t, u = Value.int i t from rx)
  obtain ⟨t', rfl⟩ := (show ∃ t', v = Value.int j t' from ry)
  exact PyProof.Rows.isub_int ⟨.int (i - j), H, I.tok _, ⟨_, rfl⟩, q⟩
theorem methcall_of {pl : Sem Bool} {m : Str} {apos : Pos} {args : List Expr} {pins : List (Addr × Obj)} {s : Shared} {σ : St} {H : Hp} {Q : Value → Shared → Prop} {te : TE} (he : PE X e te) (I : Inv X pins σ H s)
    (h : te σ H fun x H1 => ∃ a C dx fs g, x = .ref a ∧ H1 a = some (.ins C dx fs) ∧ Cls X.K C ∧ Meth X.K C m g ∧ fs.lookup m = none ∧
      ∀ s1, Inv X pins σ H1 s1 → wpAny (model X.prog X.w) X.A (callWith pos (.ref g) [.ref a] (backTo pos (starEach args X.env)) (backToKw pos (keywordEach [] X.env))) Q X.xe s1)
    (ht : eval (.Call (.Attribute e m apos) args [] pos) X.env = (do
      let ov ← eval e X.env
      standAt apos.atName
      let (f, first) ← holding [ov] (getMethod ov m pl)
      callWith pos f first (backTo pos (starEach args X.env)) (backToKw pos (keywordEach [] X.env)))) :
    wpAny (model X.prog X.w) X.A (eval (.Call (.Attribute e m apos) args [] pos) X.env) Q X.xe s := by
  refine PySem.W.methodCall_KW (pl := pl) (thn (he pins s σ H _ I h) fun u s1 ⟨x, H1, I1, rx, a, C, dx, fs, g, ex, ea, c, k, l, q⟩ => ?_) ht
  subst ex
  obtain rfl : u = Value.ref a := rx
  exact getmeth_ok I1 ea c k l (q s1 I1)
end
section
variable {X : Cx} {pins : List (Addr × Obj)} {σ : St} {H : Hp} {s : Shared} {A : Around} {E : Value → Shared → Prop} {Q : Value → Shared → Prop} {c : Value} {b : Bool}
inductive TyOf (K : PySem.W.Frag) (H : Hp) : V → Value → Prop where
  | non : TyOf K H .non (.type "NoneType")
  | bl (x : Bool) : TyOf K H (.bl x) (.type "bool")
  | int (i : Int) : TyOf K H (.int i) (.type "int")
  | str (x : Str) : TyOf K H (.str x) (.type "str")
  | flt (x : UInt64) : TyOf K H (.flt x) (.type "float")
  | lst {a : Addr} {xs : List V} (e : H a = some (.lst xs)) : TyOf K H (.ref a) (.type "list")
  | frz {a : Addr} {o : Obj} {xs : List V} (e : H a = some (.frz o (.lst xs))) : TyOf K H (.ref a) (.type "list")
  | tup {a : Addr} {xs : List V} (e : H a = some (.tup xs)) : TyOf K H (.ref a) (.type "tuple")
  | dK {a : Addr} {kvs : List (Key × V)} (e : H a = some (.dK kvs)) : TyOf K H (.ref a) (.type "dict")
  | dT {a : Addr} {kvs : List (List Key × V)} (e : H a = some (.dT kvs)) : TyOf K H (.ref a) (.type "dict")
  | ins {a C dx : Addr} {fs : List (Str × V)} (e : H a = some (.ins C dx fs)) (cl : Cls K C) (ha : PySem.W.findIn K (.ref C) "__class__" = some (some (.builtin "object.__class__")))
      (hn : PySem.W.specialIn K (.builtin "object.__class__") "__get__" = some (some (.builtin "getset_descriptor.__get__"))) (htk : PySem.W.takesIn K (.builtin "object.__class__") = some true)
      (hm : PySem.W.mroIn K C (.type "object") = some true) : TyOf K H (.ref a) (.ref C)
theorem isinst_ok {x : V} {u t : Value} (I : Inv X pins σ H s) (rx : RelV x u) (ty : TyOf X.K H x t) (e : PySem.W.kitOne X.K t c = some b) (h : ∀ tk, Q (.bool b) { s with toks := tk }) :
    wpAny (model X.prog X.w) A (call (.builtin "isinstance") [u, c]) Q E s := by
  cases ty with
  | non => cases (show u = Value.none from rx); exact PySem.W.kia_one PySem.W.kitx_none I.kIn True.intro e (fun z => nomatch z) h
  | bl y => cases (show u = Value.bool y from rx); exact PySem.W.kia_one PySem.W.kitx_bool I.kIn True.intro e (fun z => nomatch z) h
  | int i => obtain ⟨t, q⟩ := (show ∃ t, u = Value.int i t from rx); cases q; exact PySem.W.kia_one PySem.W.kitx_int I.kIn True.intro e (fun z => nomatch z) h
  | str y => obtain ⟨t, q⟩ := (show ∃ t, u = Value.str y t from rx); cases q; exact PySem.W.kia_one PySem.W.kitx_str I.kIn True.intro e (fun z => nomatch z) h
  | flt y => obtain ⟨t, q⟩ := (show ∃ t, u = Value.float y t from rx); cases q; exact PySem.W.kia_one PySem.W.kitx_float I.kIn True.intro e (fun z => nomatch z) h
  | @lst a xs ea =>
    cases (show u = Value.ref a from rx)
    obtain ⟨_, _, n, _, h1⟩ := (show ObjOk X.prog X.w H s.heap a (.lst xs) from I.hok a _ ea)
    exact PySem.W.kia_one PySem.W.kitx_list I.kIn ⟨_, h1, rfl⟩ e (fun z => nomatch z) h
  | @frz a ob xs ea =>
    cases (show u = Value.ref a from rx)
    obtain ⟨_, _, _, n, _, h1⟩ := (show ObjOk X.prog X.w H s.heap a (.frz ob (.lst xs)) from I.hok a _ ea)
    exact PySem.W.kia_one PySem.W.kitx_list I.kIn ⟨_, h1, rfl⟩ e (fun z => nomatch z) h
  | @tup a xs ea =>
    cases (show u = Value.ref a from rx)
    obtain ⟨_, _, _, p⟩ := (show ObjOk X.prog X.w H s.heap a (.tup xs) from I.hok a _ ea)
    obtain ⟨o, h1, h2, _⟩ := p
    exact PySem.W.kia_one PySem.W.kitx_tuple I.kIn ⟨o, h1, h2⟩ e (fun z => nomatch z) h
  | @dK a kvs ea =>
    cases (show u = Value.ref a from rx)
    obtain ⟨_, _, vs, _, p⟩ := (show ObjOk X.prog X.w H s.heap a (.dK kvs) from I.hok a _ ea)
    obtain ⟨o, es, ep, h1, h2, _⟩ := p
    exact PySem.W.kia_one PySem.W.kitx_dict I.kIn ⟨o, h1, h2.1⟩ e (fun z => nomatch z) h
  | @dT a kvs ea =>
    cases (show u = Value.ref a from rx)
    obtain ⟨_, _, xs, _, o, es, ep, h1, h2, _⟩ := (show ObjOk X.prog X.w H s.heap a (.dT kvs) from I.hok a _ ea)
    exact PySem.W.kia_one PySem.W.kitx_dict I.kIn ⟨o, h1, h2.1⟩ e (fun z => nomatch z) h
  | @ins a C dx fs ea cl ha hn htk hm =>
    cases (show u = Value.ref a from rx)
    obtain ⟨mA, O, _⟩ := ins_get I.hok ea
    obtain ⟨od, J, _⟩ := O.look
    exact PySem.W.kia_one (PySem.W.kitx_own (cl.get _) cl.hd ha hn htk hm) I.kIn J e (fun z => nomatch z) h
end
end L2
namespace L2
open PySem PySem.Spec PyProof.Rows
structure Room (k : Nat) (A : Around) : Prop where
  hd : A.handled = none
  dp : A.depth + 3 * k + 5 < recursionLimit
  un : A.units + 16 * k + 200 < cLine
theorem Room.mono {j k : Nat} {A : Around} (r : Room k A) (h : j ≤ k) : Room j A := ⟨r.hd, by have := r.dp; omega, by have := r.un; omega⟩
theorem Room.deeper {k : Nat} {A : Around} (r : Room (k + 1) A) (env : Env) : Room k (A.deeper env) :=
  ⟨r.hd, by have := r.dp; show A.depth + 1 + 3 * k + 5 < _; omega, by have := r.un; show A.units + 3 + 16 * k + 200 < _; omega⟩
theorem Room.in1 {k : Nat} {A : Around} (r : Room (k + 1) A) : Room k A.in1 :=
  ⟨r.hd, by have := r.dp; show A.depth + 3 * k + 5 < _; omega, by have := r.un; show A.units + 1 + 16 * k + 200 < _; omega⟩
theorem make_depth {A : Around} {C : Addr} {us : List Value} {kw : List (Str × Value)} : (A.under (.builtin "type.__call__" ⟨.ref C :: us, kw⟩)).depth = A.depth + 1 := by
  first | rfl | simp [Around.under, Code.weight, Code.isCreation, Code.isGuard, Code.isCaller, Code.frames, Code.isFrame, guardIds]
theorem make_units {A : Around} {C : Addr} {us : List Value} {kw : List (Str × Value)} : (A.under (.builtin "type.__call__" ⟨.ref C :: us, kw⟩)).units = A.units + 1 := by
  first | rfl | simp [Around.under, Code.cUnits, Code.frames, Code.isFrame]
theorem Room.make {k : Nat} {A : Around} (r : Room (k + 1) A) (C : Addr) (us : List Value) (kw : List (Str × Value)) : Room k (A.under (.builtin "type.__call__" ⟨.ref C :: us, kw⟩)) :=
  ⟨r.hd, by have := r.dp; rw [make_depth]; omega, by have := r.un; rw [make_units]; omega⟩
theorem Room.depth {k : Nat} {A : Around} (r : Room k A) : A.depth < recursionLimit := by have := r.dp; omega
theorem Room.units {k : Nat} {A : Around} (r : Room k A) : A.units + 64 < cLine := by have := r.un; omega
theorem Room.units0 {k : Nat} {A : Around} (r : Room k A) : A.units < cLine := by have := r.un; omega
def tNil : TA := fun _ H Q => Q [] H
def tCons (ta : TE) (tr : TA) : TA := fun σ H Q => ta σ H fun x H1 => tr σ H1 fun xs H2 => Q (x :: xs) H2
section
variable {X : Cx} {e : Expr} {es : List Expr} {te : TE} {t : TA} {pos : Pos}
theorem pa_nil : PA X [] tNil := fun _ _ _ _ H Q I h => Calls.spliced_nil ⟨[], H, I, .nil, h⟩
theorem pa_cons (ha : PE X e te) (hr : PA X es t) (hs : starEach (e :: es) X.env = (false, eval e X.env) :: starEach es X.env := by rfl) : PA X (e :: es) (tCons te t) := by
  intro pos pins s σ H Q I h
  rw [hs]
  show wpAny _ _ (spliced ((false, eval e X.env) :: backTo pos (starEach es X.env))) _ _ s
  refine Calls.spliced_cons (thn (ha pins s σ H _ I h) fun u s1 ⟨x, H1, I1, r1, q1⟩ => ?_)
  exact thn (hr pos pins s1 σ H1 _ I1 q1) fun us s2 ⟨xs, H2, I2, r2, q2⟩ => ⟨x :: xs, H2, I2, .cons r1 r2, q2⟩
def tTup (t : TA) : TE := fun σ H Q => t σ H fun xs H1 => xs.length ≤ sizeLine ∧ ∀ p, H1 p = none → Q (.ref p) (upd H1 p (.tup xs))
def tLst (t : TA) : TE := fun σ H Q => t σ H fun xs H1 => xs.length ≤ sizeLine ∧ ∀ p, H1 p = none → Q (.ref p) (upd H1 p (.lst xs))
theorem pe_tup {x1} (h : PA X es t) : PE X (.Tuple es x1 pos) (tTup t) := by
  intro pins s σ H Q I hq
  refine wpAny_Tuple_spliced (thn (h pos pins s σ H _ I hq) fun us s1 ⟨xs, H1, I1, r, z, q⟩ => ⟨by rw [← r.length]; exact z, ?_⟩)
  have hf : H1 s1.heap.objs.size = none := I1.hok.fresh (Nat.le_refl _)
  refine ⟨.ref s1.heap.objs.size, upd H1 s1.heap.objs.size (.tup xs), I1.laid (t' := s1.toks) (fun b u e => Heap.get?_push_of_some _ e) (Nat.le_refl _) ?_, rfl, q _ hf⟩
  exact ⟨z, us, r, ⟨_, Heap.get?_push_size _ rfl, rfl, _, rfl⟩⟩
theorem pe_lst (h : PA X es t) : PE X (.List es pos) (tLst t) := by
  intro pins s σ H Q I hq
  refine wpAny_List_spliced (thn (h pos pins s σ H _ I hq) fun us s1 ⟨xs, H1, I1, r, z, q⟩ => ⟨by rw [← r.length]; exact z, ?_⟩)
  have hf : H1 s1.heap.objs.size = none := I1.hok.fresh (Nat.le_refl _)
  refine ⟨.ref s1.heap.objs.size, upd H1 s1.heap.objs.size (.lst xs), I1.laid (t' := s1.toks) (fun b u e => Heap.get?_push_of_some _ e) (Nat.le_refl _) ?_, rfl, q _ hf⟩
  exact ⟨z, us, 0, r, Heap.get?_push_size _ rfl⟩
end
abbrev Sp := List V → Hp → VK → XK → Prop
abbrev CXT := List Env → Hp → Shared → XK → Value → Shared → Prop
structure Env0 (P : Program) (w : World) (K : PySem.W.Frag) (mg : Str → Option Value) (base : Heap) (A : Around) (outer : List Env) (s : Shared) (H : Hp) : Prop where
  frames : A.frames = some outer
  mod : Mod K mg base
  bs : ∀ b o, base.get? b = some o → s.heap.get? b = some o ∧ H b = none
  bsz : base.objs.size ≤ s.heap.objs.size
  funs : s.heap.FunFrames base outer
  frf : ∀ b ∈ frs outer, H b = none
  hok : HOk P w H s.heap
  bare : AllBare s.gens
def CE (outer : List Env) (P : Program) (w : World) (H : Hp) (s : Shared) (Q : VK) (u : Value) (s' : Shared) : Prop :=
  ∃ v H', s'.os = s.os ∧ AllBare s'.gens ∧ Un (frs outer) [] H H' s.heap s'.heap ∧ HOk P w H' s'.heap ∧ RelV v u ∧ Q v H'
def CR (CX : CXT) (outer : List Env) (P : Program) (w : World) (H : Hp) (s : Shared) (Q : VK) (E : XK) (r : Result) (s' : Shared) : Prop :=
  match r with
  | .ok (.ret u) => CE outer P w H s Q u s'
  | .ok _ => False
  | .error e => CX outer H s E e s'
structure FnOk (P : Program) (w : World) (K : PySem.W.Frag) (mg : Str → Option Value) (base : Heap) (CX : CXT) (k : Nat) (f : Addr) (fd : FuncData) (ps : List Str) (sp : Sp) : Prop where
  len : ∀ vs H Q E, sp vs H Q E → vs.length = ps.length
  run : ∀ (A : Around) (outer : List Env) (s : Shared) (H : Hp) (args : Args) (us : List Value) (vs : List V) (Q : VK) (E : XK), Room k A → Env0 P w K mg base A outer s H → BindsTo s fd args (ps.zip us) → Vals vs us → sp vs H Q E →
    codeAny (model P w) A (.call (.ref f) args) (CR CX outer P w H s Q E) s
theorem FnOk.mono {P : Program} {w : World} {K : PySem.W.Frag} {mg : Str → Option Value} {base : Heap} {CX : CXT} {j k : Nat} {f : Addr} {fd : FuncData} {ps : List Str} {sp : Sp} (F : FnOk P w K mg base CX j f fd ps sp) (h : j ≤ k) :
    FnOk P w K mg base CX k f fd ps sp := ⟨F.len, fun A outer s H args us vs Q E hr => F.run A outer s H args us vs Q E (hr.mono h)⟩
theorem FnOk.imp {P : Program} {w : World} {K : PySem.W.Frag} {mg : Str → Option Value} {base : Heap} {CX : CXT} {k : Nat} {f : Addr} {fd : FuncData} {ps : List Str} {sp sp' : Sp} (F : FnOk P w K mg base CX k f fd ps sp)
    (h : ∀ vs H Q E, sp' vs H Q E → sp vs H Q E) : FnOk P w K mg base CX k f fd ps sp' :=
  ⟨fun vs H Q E q => F.len vs H Q E (h _ _ _ _ q), fun A outer s H args us vs Q E hr he hb hv hs => F.run A outer s H args us vs Q E hr he hb hv (h _ _ _ _ hs)⟩
theorem Env0.make {P : Program} {w : World} {K : PySem.W.Frag} {mg : Str → Option Value} {base : Heap} {A : Around} {outer : List Env} {s : Shared} {H : Hp} (e : Env0 P w K mg base A outer s H) (C : Addr) (us : List Value) (kw : List (Str × Value)) :
    Env0 P w K mg base (A.under (.builtin "type.__call__" ⟨.ref C :: us, kw⟩)) outer s H := ⟨by first | exact e.frames | (simpa [Around.under, Code.envs, Code.isFrame, pushEnvs] using e.frames), e.mod, e.bs, e.bsz, e.funs, e.frf, e.hok, e.bare⟩
theorem Env0.in1 {P : Program} {w : World} {K : PySem.W.Frag} {mg : Str → Option Value} {base : Heap} {A : Around} {outer : List Env} {s : Shared} {H : Hp} (e : Env0 P w K mg base A outer s H) :
    Env0 P w K mg base A.in1 outer s H := ⟨e.frames, e.mod, e.bs, e.bsz, e.funs, e.frf, e.hok, e.bare⟩
section
variable {X : Cx} {pins : List (Addr × Obj)} {σ : St} {H : Hp} {s s' : Shared}
theorem Inv.env0 (I : Inv X pins σ H s) : Env0 X.prog X.w X.K X.mg X.base X.A X.stack s H :=
  ⟨I.ok.frames, I.ok.mod, I.bs, Nat.le_trans I.ok.bsz I.sz, I.stack, I.stkFree, I.hok, I.bare⟩
theorem Inv.after {Q : VK} {u : Value} (I : Inv X pins σ H s) (h : CE X.stack X.prog X.w H s Q u s') : EP X pins σ Q u s' := by
  obtain ⟨v, H', os, bare, un, hok, r, q⟩ := h
  obtain ⟨hh, g, d, t, os'⟩ := s'
  obtain rfl : os' = s.os := os
  exact ⟨v, H', I.call (h' := hh) (g' := g) (d' := d) (t' := t) (ch := []) un hok bare (fun b z => absurd z (by simp)), r, q⟩
end
def tCall (sp : Sp) (dvs : List V) (E : XK) (t : TA) : TE := fun σ H Q => t σ H fun vs H1 => sp (vs ++ dvs) H1 Q E
def tMeth (C : Addr) (m : Str) (sp : Sp) (dvs : List V) (E : XK) (ta : TE) (t : TA) : TE := fun σ H Q => ta σ H fun x H1 => ∃ a dx fs, x = .ref a ∧ H1 a = some (.ins C dx fs) ∧ fs.lookup m = none ∧
  t σ H1 fun vs H2 => sp (x :: (vs ++ dvs)) H2 Q E
def tMake (C : Addr) (sp : Sp) (dvs : List V) (E : XK) (t : TA) : TE := fun σ H Q => t σ H fun vs H1 => ∀ x dx, H1 x = none → H1 dx = none → dx ≠ x →
  sp (.ref x :: (vs ++ dvs)) (upd (upd H1 dx (.own x)) x (.ins C dx [])) (fun v H2 => v = .non ∧ Q (.ref x) H2) E
def Binds (K : PySem.W.Frag) (fd : FuncData) (ps : List Str) (ds : List Value) : Prop :=
  ∀ (s : Shared) (us : List Value), K.In s.heap → (us ++ ds).length = ps.length → BindsTo s fd ⟨us, []⟩ (ps.zip (us ++ ds))
theorem Binds.all {K : PySem.W.Frag} {fd : FuncData} {ps : List Str} (h : ∀ us : List Value, us.length = ps.length → bindArgs fd ⟨us, []⟩ = pure (ps.zip us)) : Binds K fd ps [] := fun s us _ hl => by
  rw [List.append_nil] at hl ⊢
  exact .of_eq (h us hl)
def Passes (CX : CXT) (X : Cx) (E : XK) : Prop := ∀ (pins : List (Addr × Obj)) (σ : St) (H : Hp) (s : Shared) (e : Value) (s' : Shared), Inv X pins σ H s → CX X.stack H s E e s' → X.xe e s'
section
variable {X : Cx} {CX : CXT} {k : Nat} {f C : Addr} {fd : FuncData} {ps : List Str} {sp : Sp} {dvs : List V} {ds : List Value} {E : XK} {x m : Str} {p pos apos : Pos} {e o : Expr} {es : List Expr} {ta : TE} {t : TA}
theorem run_fn {pins : List (Addr × Obj)} {σ : St} {H : Hp} {s : Shared} {Q : VK} {us : List Value} {vs : List V} (F : FnOk X.prog X.w X.K X.mg X.base CX k f fd ps sp) (hr : Room k X.A) (hb : Binds X.K fd ps ds) (hd : Vals dvs ds) (hx : Passes CX X E)
    (I : Inv X pins σ H s) (r : Vals vs us) (h : sp (vs ++ dvs) H Q E) : wpAny (model X.prog X.w) X.A (call (.ref f) us) (EP X pins σ Q) X.xe s := by
  have r2 : Vals (vs ++ dvs) (us ++ ds) := r.append hd
  have hl : (us ++ ds).length = ps.length := by rw [← r2.length]; exact F.len _ _ _ _ h
  refine wpAny_call (codeAny_mono (F.run X.A X.stack s H ⟨us, []⟩ (us ++ ds) (vs ++ dvs) Q E hr I.env0 (hb s us I.kIn hl) r2 h) fun r s' hq => ?_)
  cases r with
  | error e => exact hx pins σ H s e s' I hq
  | ok fl =>
    cases fl with
    | ret u => exact I.after hq
    | next => exact False.elim hq
    | brk => exact False.elim hq
    | cont => exact False.elim hq
theorem pe_call (F : FnOk X.prog X.w X.K X.mg X.base CX k f fd ps sp) (hr : Room k X.A) (hg : Gl X x) (hm : X.mg x = some (.ref f)) (hk : PySem.W.keepIn X.K (.ref f) = true) (hb : Binds X.K fd ps ds) (hd : Vals dvs ds) (hx : Passes CX X E)
    (ha : PA X (e :: es) t) (hdb : (x == ("__debug__" : Str)) = false := by decide) (he : starEach (e :: es) X.env = (false, eval e X.env) :: starEach es X.env := by rfl) (hpl : (backTo pos (starEach es X.env)).any (·.1) = false := by rfl) :
    PE X (.Call (.Name x p) (e :: es) [] pos) (tCall sp dvs E t) := by
  intro pins s σ H Q I h
  refine wpAny_Call_Name_kw (ld_glob I hg hm ?_ hdb)
  refine PySem.W.callWith_K (h₀ := X.base) I.ok.mod.kin hk (thn (ha pos pins s σ H _ I h) fun us s1 ⟨vs, H1, I1, r, q⟩ => ⟨I1.kIn, ?_⟩) he hpl
  exact run_fn F hr hb hd hx I1 r q
theorem pe_call0 (F : FnOk X.prog X.w X.K X.mg X.base CX k f fd ps sp) (hr : Room k X.A) (hg : Gl X x) (hm : X.mg x = some (.ref f)) (hk : PySem.W.keepIn X.K (.ref f) = true) (hb : Binds X.K fd ps ds) (hd : Vals dvs ds) (hx : Passes CX X E)
    (hdb : (x == ("__debug__" : Str)) = false := by decide) : PE X (.Call (.Name x p) [] [] pos) (tCall sp dvs E tNil) := by
  intro pins s σ H Q I h
  refine wpAny_Call_Name_kw (ld_glob I hg hm ?_ hdb)
  exact PySem.W.callWith_K0 I.kIn hk (run_fn (us := []) F hr hb hd hx I .nil h)
theorem pe_meth {pl : Sem Bool} (he : PE X o ta) (c : Cls X.K C) (hm : Meth X.K C m f) (F : FnOk X.prog X.w X.K X.mg X.base CX k f fd ps sp) (hr : Room k X.A) (hb : Binds X.K fd ps ds) (hd : Vals dvs ds) (hx : Passes CX X E) (ha : PA X (e :: es) t)
    (hst : starEach (e :: es) X.env = (false, eval e X.env) :: starEach es X.env := by rfl) (hpl : (backTo pos (starEach es X.env)).any (·.1) = false := by rfl)
    (ht : eval (.Call (.Attribute o m apos) (e :: es) [] pos) X.env = (do
      let ov ← eval o X.env
      standAt apos.atName
      let (f, first) ← holding [ov] (getMethod ov m pl)
      callWith pos f first (backTo pos (starEach (e :: es) X.env)) (backToKw pos (keywordEach [] X.env))) := by rfl) :
    PE X (.Call (.Attribute o m apos) (e :: es) [] pos) (tMeth C m sp dvs E ta t) := by
  intro pins s σ H Q I h
  refine PySem.W.methodCall_KW (pl := pl) (thn (he pins s σ H _ I h) fun u s1 ⟨x, H1, I1, rx, a, dx, fs, ex, ea, l, q⟩ => ?_) ht
  subst ex
  obtain rfl : u = Value.ref a := rx
  refine getmeth_ok I1 ea c hm l ?_
  refine PySem.W.callWith_K (first := [.ref a]) (h₀ := X.base) I.ok.mod.kin hm.kp (thn (ha pos pins s1 σ H1 _ I1 q) fun us s2 ⟨vs, H2, I2, r, q2⟩ => ⟨I2.kIn, ?_⟩) hst hpl
  exact run_fn (us := .ref a :: us) (vs := .ref a :: vs) F hr hb hd hx I2 (.cons rfl r) q2
theorem pe_meth0 {pl : Sem Bool} (he : PE X o ta) (c : Cls X.K C) (hm : Meth X.K C m f) (F : FnOk X.prog X.w X.K X.mg X.base CX k f fd ps sp) (hr : Room k X.A) (hb : Binds X.K fd ps ds) (hd : Vals dvs ds) (hx : Passes CX X E)
    (ht : eval (.Call (.Attribute o m apos) [] [] pos) X.env = (do
      let ov ← eval o X.env
      standAt apos.atName
      let (f, first) ← holding [ov] (getMethod ov m pl)
      callWith pos f first (backTo pos (starEach [] X.env)) (backToKw pos (keywordEach [] X.env))) := by rfl) :
    PE X (.Call (.Attribute o m apos) [] [] pos) (tMeth C m sp dvs E ta tNil) := by
  intro pins s σ H Q I h
  refine PySem.W.methodCall_KW (pl := pl) (thn (he pins s σ H _ I h) fun u s1 ⟨x, H1, I1, rx, a, dx, fs, ex, ea, l, q⟩ => ?_) ht
  subst ex
  obtain rfl : u = Value.ref a := rx
  refine getmeth_ok I1 ea c hm l ?_
  exact PySem.W.callWith_K0 (first := [.ref a]) I1.kIn hm.kp (run_fn (us := [.ref a]) (vs := [.ref a]) F hr hb hd hx I1 (.cons rfl .nil) q)
structure Mk (K : PySem.W.Frag) (C f : Addr) : Prop where
  makes : PySem.W.makesIn K C = true
  init : PySem.W.findIn K (.ref C) "__init__" = some (some (.ref f))
  fn : PySem.W.isFn K (.ref f) = true
  kp : PySem.W.keepIn K (.ref C) = true
theorem run_make {pins : List (Addr × Obj)} {σ : St} {H : Hp} {s : Shared} {Q : VK} {us : List Value} {vs : List V} (M : Mk X.K C f) (F : FnOk X.prog X.w X.K X.mg X.base CX k f fd ps sp) (hr : Room (k + 1) X.A) (hb : Binds X.K fd ps ds) (hd : Vals dvs ds)
    (hx : Passes CX X E) (I : Inv X pins σ H s) (r : Vals vs us)
    (h : ∀ x dx, H x = none → H dx = none → dx ≠ x → sp (.ref x :: (vs ++ dvs)) (upd (upd H dx (.own x)) x (.ins C dx [])) (fun v H2 => v = .non ∧ Q (.ref x) H2) E) :
    wpAny (model X.prog X.w) X.A (call (.ref C) us) (EP X pins σ Q) X.xe s := by
  have hq := h (s.heap.objs.size + 1) s.heap.objs.size (I.hok.fresh (Nat.le_succ _)) (I.hok.fresh (Nat.le_refl _)) (Nat.ne_of_lt (Nat.lt_succ_self _))
  have I2 := Inv.made (C := C) I
  have r2 : Vals (V.ref (s.heap.objs.size + 1) :: (vs ++ dvs)) (Value.ref (s.heap.objs.size + 1) :: (us ++ ds)) := .cons rfl (r.append hd)
  have hl : (Value.ref (s.heap.objs.size + 1) :: us ++ ds).length = ps.length := by
    have e := r2.length
    rw [F.len _ _ _ _ hq] at e
    exact e.symm
  refine wpAny_call (make_map (f := f) I.kIn M.makes M.init (beq_iff_eq.mp M.fn) (codeAny_mono (F.run _ X.stack _ _ ⟨Value.ref (s.heap.objs.size + 1) :: us, []⟩ (Value.ref (s.heap.objs.size + 1) :: (us ++ ds)) _ _ E (hr.make C us [])
    (I2.env0.make C us []) (hb _ (Value.ref (s.heap.objs.size + 1) :: us) I2.kIn hl) r2 hq) fun r s' hq' => ?_))
  cases r with
  | error e => exact hx pins σ _ _ e s' I2 hq'
  | ok fl =>
    cases fl with
    | ret u =>
      obtain ⟨v, H', I3, rv, ev, q3⟩ := I2.after hq'
      subst ev
      exact ⟨rv, ⟨V.ref (s.heap.objs.size + 1), H', I3, rfl, q3⟩⟩
    | next => exact False.elim hq'
    | brk => exact False.elim hq'
    | cont => exact False.elim hq'
theorem pe_make (M : Mk X.K C f) (F : FnOk X.prog X.w X.K X.mg X.base CX k f fd ps sp) (hr : Room (k + 1) X.A) (hg : Gl X x) (hm : X.mg x = some (.ref C)) (hb : Binds X.K fd ps ds) (hd : Vals dvs ds) (hx : Passes CX X E)
    (ha : PA X (e :: es) t) (hdb : (x == ("__debug__" : Str)) = false := by decide) (he : starEach (e :: es) X.env = (false, eval e X.env) :: starEach es X.env := by rfl) (hpl : (backTo pos (starEach es X.env)).any (·.1) = false := by rfl) :
    PE X (.Call (.Name x p) (e :: es) [] pos) (tMake C sp dvs E t) := by
  intro pins s σ H Q I h
  refine wpAny_Call_Name_kw (ld_glob I hg hm ?_ hdb)
  refine PySem.W.callWith_K (h₀ := X.base) I.ok.mod.kin M.kp (thn (ha pos pins s σ H _ I h) fun us s1 ⟨vs, H1, I1, r, q⟩ => ⟨I1.kIn, ?_⟩) he hpl
  exact run_make M F hr hb hd hx I1 r q
theorem pe_make0 (M : Mk X.K C f) (F : FnOk X.prog X.w X.K X.mg X.base CX k f fd ps sp) (hr : Room (k + 1) X.A) (hg : Gl X x) (hm : X.mg x = some (.ref C)) (hb : Binds X.K fd ps ds) (hd : Vals dvs ds) (hx : Passes CX X E)
    (hdb : (x == ("__debug__" : Str)) = false := by decide) : PE X (.Call (.Name x p) [] [] pos) (tMake C sp dvs E tNil) := by
  intro pins s σ H Q I h
  refine wpAny_Call_Name_kw (ld_glob I hg hm ?_ hdb)
  exact PySem.W.callWith_K0 I.kIn M.kp (run_make (us := []) M F hr hb hd hx I .nil h)
end
def PK (X : Cx) (kws : List Keyword) (t : TA) : Prop :=
  ∀ (pos : Pos) (pins : List (Addr × Obj)) (s : Shared) (σ : St) (H : Hp) (Q : List V → Hp → Prop), Inv X pins σ H s → t σ H Q → wpAny (model X.prog X.w) X.A (evalAll ((backToKw pos (keywordEach kws X.env)).map (·.2))) (AP X pins σ Q) X.xe s
section
variable {X : Cx} {CX : CXT} {k : Nat} {f C : Addr} {fd : FuncData} {ps ks : List Str} {sp : Sp} {E : XK} {x m : Str} {p pos apos kpos : Pos} {e o : Expr} {es : List Expr} {kws : List Keyword} {te ta : TE} {t tk : TA} {nm : Option Str}
theorem pk_nil : PK X [] tNil := fun _ _ _ _ H Q I h => wpAny_evalAll_nil ⟨[], H, I, .nil, h⟩
theorem pk_cons (ha : PE X e te) (hr : PK X kws t) : PK X (⟨nm, e, kpos⟩ :: kws) (tCons te t) := by
  intro pos pins s σ H Q I h
  show wpAny _ _ (evalAll ((do let v ← eval e X.env; standAt pos; pure v) :: (backToKw pos (keywordEach kws X.env)).map (·.2))) _ _ s
  refine wpAny_evalAll_cons (wpAny_bind (thn (ha pins s σ H _ I h) fun u s1 ⟨x, H1, I1, r1, q1⟩ => wpAny_bind (wpAny_standAt (wpAny_pure ?_))))
  exact thn (hr pos pins s1 σ H1 _ I1 q1) fun us s2 ⟨xs, H2, I2, r2, q2⟩ => ⟨x :: xs, H2, I2, .cons r1 r2, q2⟩
structure KBinds (K : PySem.W.Frag) (fd : FuncData) (ps ks : List Str) (g : List Value → List Value → List Value) (gV : List V → List V → List V) : Prop where
  to : ∀ (s : Shared) (us ws : List Value), K.In s.heap → (g us ws).length = ps.length → BindsTo s fd ⟨us, ks.zip ws⟩ (ps.zip (g us ws))
  rel : ∀ {vs : List V} {us : List Value} {zs : List V} {ws : List Value}, Vals vs us → Vals zs ws → Vals (gV vs zs) (g us ws)
def tCallK (sp : Sp) (gV : List V → List V → List V) (E : XK) (t tk : TA) : TE := fun σ H Q => t σ H fun vs H1 => tk σ H1 fun zs H2 => sp (gV vs zs) H2 Q E
variable {g : List Value → List Value → List Value} {gV : List V → List V → List V}
theorem run_fnk {pins : List (Addr × Obj)} {σ : St} {H : Hp} {s : Shared} {Q : VK} {us ws : List Value} {vs zs : List V} (F : FnOk X.prog X.w X.K X.mg X.base CX k f fd ps sp) (hr : Room k X.A) (hb : KBinds X.K fd ps ks g gV) (hx : Passes CX X E)
    (I : Inv X pins σ H s) (r : Vals vs us) (rz : Vals zs ws) (h : sp (gV vs zs) H Q E) : wpAny (model X.prog X.w) X.A (call (.ref f) us (ks.zip ws)) (EP X pins σ Q) X.xe s := by
  have r2 := hb.rel r rz
  have hl : (g us ws).length = ps.length := by rw [← r2.length]; exact F.len _ _ _ _ h
  refine wpAny_call (codeAny_mono (F.run X.A X.stack s H ⟨us, ks.zip ws⟩ (g us ws) (gV vs zs) Q E hr I.env0 (hb.to s us ws I.kIn hl) r2 h) fun r s' hq => ?_)
  cases r with
  | error e => exact hx pins σ H s e s' I hq
  | ok fl =>
    cases fl with
    | ret u => exact I.after hq
    | next => exact False.elim hq
    | brk => exact False.elim hq
    | cont => exact False.elim hq
theorem pe_callK (F : FnOk X.prog X.w X.K X.mg X.base CX k f fd ps sp) (hr : Room k X.A) (hg : Gl X x) (hm : X.mg x = some (.ref f)) (hk : PySem.W.keepIn X.K (.ref f) = true) (hb : KBinds X.K fd ps ks g gV) (hx : Passes CX X E)
    (ha : PA X (e :: es) t) (hkw : PK X kws tk) (hall : (backToKw pos (keywordEach kws X.env)).all (·.1.isSome) = true := by rfl) (hks : (backToKw pos (keywordEach kws X.env)).filterMap (·.1) = ks := by rfl)
    (hdb : (x == ("__debug__" : Str)) = false := by decide) (he : starEach (e :: es) X.env = (false, eval e X.env) :: starEach es X.env := by rfl)
    (hpl : ((backTo pos (starEach (e :: es) X.env)).any (·.1) || (backToKw pos (keywordEach kws X.env)).any (·.1.isNone)) = false := by rfl) :
    PE X (.Call (.Name x p) (e :: es) kws pos) (tCallK sp gV E t tk) := by
  intro pins s σ H Q I h
  refine wpAny_Call_Name_kw (ld_glob I hg hm ?_ hdb)
  refine PySem.W.callWith_KW (h₀ := X.base) I.ok.mod.kin hk hall (thn (ha pos pins s σ H _ I h) fun us s1 ⟨vs, H1, I1, r, q⟩ => ?_) hpl he
  refine thn (hkw pos pins s1 σ H1 _ I1 q) fun ws s2 ⟨zs, H2, I2, rz, q2⟩ => ⟨I2.kIn, ?_⟩
  rw [hks]
  exact run_fnk F hr hb hx I2 r rz q2
end
structure FnScope (N P : List Str) (sc : Scope) : Prop where
  kind : sc.kind = .function
  co : sc.isCoroutine = false
  gen : sc.isGenerator = false
  nd : N.Nodup
  pre : N.take P.length = P
  par : ∀ x ∈ P, sc.names.lookup x = some .local ∨ sc.names.lookup x = some .cell
  nofree : ∀ y ∈ sc.names, y.2 ≠ .free
theorem bindL_out {kindOf : Str → Option NameKind} {x : Str} : ∀ {binds : List (Str × Value)} {m : Str → Option Value}, (∀ v, (x, v) ∉ binds) → bindL kindOf binds m x = m x
  | [], _, _ => rfl
  | (n, v) :: r, m, h => by
    unfold bindL
    rw [bindL_out fun w hw => h w (List.mem_cons_of_mem _ hw)]
    split
    · have : x ≠ n := by rintro rfl; exact h v List.mem_cons_self
      simp [this]
    · rfl
theorem bindC_out {kindOf : Str → Option NameKind} {x : Str} : ∀ {binds : List (Str × Value)} {m : Str → Option Value}, (∀ v, (x, v) ∉ binds) → bindC kindOf binds m x = m x
  | [], _, _ => rfl
  | (n, v) :: r, m, h => by
    unfold bindC
    rw [bindC_out fun w hw => h w (List.mem_cons_of_mem _ hw)]
    split
    · rfl
    · have : x ≠ n := by rintro rfl; exact h v List.mem_cons_self
      simp [this]
theorem bindL_get {kindOf : Str → Option NameKind} {x : Str} {v : Value} : ∀ {P : List Str} {vs : List Value} {i : Nat} {m : Str → Option Value}, P.Nodup → P[i]? = some x → vs[i]? = some v → kindOf x = some .local →
    bindL kindOf (P.zip vs) m x = some v
  | [], _, _, _, _, h, _, _ => by simp at h
  | _ :: _, [], _, _, _, _, h, _ => by simp at h
  | p :: P, w :: vs, 0, m, nd, h1, h2, hk => by
    simp at h1 h2; subst h1; subst h2
    show bindL kindOf ((p, w) :: P.zip vs) m p = _
    unfold bindL
    rw [bindL_out fun v hv => (List.nodup_cons.mp nd).1 (List.of_mem_zip hv).1, if_pos hk]
    simp
  | p :: P, w :: vs, i + 1, m, nd, h1, h2, hk => by
    show bindL kindOf ((p, w) :: P.zip vs) m x = _
    unfold bindL
    exact bindL_get (i := i) (List.nodup_cons.mp nd).2 (by simpa using h1) (by simpa using h2) hk
theorem bindC_get {kindOf : Str → Option NameKind} {x : Str} {v : Value} : ∀ {P : List Str} {vs : List Value} {i : Nat} {m : Str → Option Value}, P.Nodup → P[i]? = some x → vs[i]? = some v → kindOf x ≠ some .local →
    bindC kindOf (P.zip vs) m x = some v
  | [], _, _, _, _, h, _, _ => by simp at h
  | _ :: _, [], _, _, _, _, h, _ => by simp at h
  | p :: P, w :: vs, 0, m, nd, h1, h2, hk => by
    simp at h1 h2; subst h1; subst h2
    show bindC kindOf ((p, w) :: P.zip vs) m p = _
    unfold bindC
    rw [bindC_out fun v hv => (List.nodup_cons.mp nd).1 (List.of_mem_zip hv).1, if_neg hk]
    simp
  | p :: P, w :: vs, i + 1, m, nd, h1, h2, hk => by
    show bindC kindOf ((p, w) :: P.zip vs) m x = _
    unfold bindC
    exact bindC_get (i := i) (List.nodup_cons.mp nd).2 (by simpa using h1) (by simpa using h2) hk
def start (N : List Str) (vs : List V) : St := vs.map some ++ List.replicate (N.length - vs.length) none
def cxOf (CX : CXT) (P : Program) (w : World) (K : PySem.W.Frag) (mg : Str → Option Value) (base : Heap) (N : List Str) (qual : Str) (scope : Scope) (f : Addr) (cd : Value) (A : Around) (outer : List Env) (s : Shared) (H : Hp) (E : XK) : Cx where
  prog := P
  w := w
  K := K
  mg := mg
  base := base
  A := A.deeper (envOfC qual scope s.heap.objs.size f cd)
  N := N
  s₀ := s
  H₀ := H
  env := envOfC qual scope s.heap.objs.size f cd
  outer := outer
  stack := envOfC qual scope s.heap.objs.size f cd :: outer
  ex := []
  calm := true
  fn := fun _ => true
  pn := []
  xe := fun e s' => wpAny (model P w) (A.deeper (envOfC qual scope s.heap.objs.size f cd)) (leaving (envOfC qual scope s.heap.objs.size f cd) e) (fun _ s'' => CX outer H s E e s'') (fun e' s'' => CX outer H s E e' s'') s'
theorem cell_has {sc : Scope} {n : Nat} {x : Str} (h : sc.names.lookup x = some .cell) : ∃ c, (cellsFrom n sc.names []).lookup x = some c := by
  have q := PySem.W.cellsFrom_some sc.names n [] (.inl h)
  exact Option.isSome_iff_exists.mp q
theorem inv_start {CX : CXT} {P : Program} {w : World} {K : PySem.W.Frag} {mg : Str → Option Value} {base : Heap} {N ps : List Str} {qual : Str} {scope : Scope} {f : Addr} {cd : Value} {A : Around} {outer : List Env} {s s1 : Shared} {H : Hp} {E : XK} {us : List Value} {vs : List V}
    (S : FnScope N ps scope) (hd : A.handled = none) (e0 : Env0 P w K mg base A outer s H) (hl : vs.length = ps.length) (r : Vals vs us)
    (x : InCallC s s.heap.objs.size (bindL (envOfC qual scope s.heap.objs.size f cd).kindOf (ps.zip us) fun _ => none) (cellsFrom (s.heap.objs.size + 1) scope.names []) (bindC (envOfC qual scope s.heap.objs.size f cd).kindOf (ps.zip us) fun _ => none) s1) :
    Inv (cxOf CX P w K mg base N qual scope f cd A outer s H E) [] (start N vs) H s1 := by
  have hpl : ps.length ≤ N.length := by have := congrArg List.length S.pre; rw [List.length_take] at this; omega
  obtain ⟨h1, tk, rfl, hk⟩ := x.done
  have noA : ∀ b : Addr, b ∉ (cxOf CX P w K mg base N qual scope f cd A outer s H E).ex := fun b z => absurd (show b ∈ ([] : List Addr) from z) (by simp)
  refine ⟨⟨e0.mod, S.kind, rfl, rfl, Nat.le_refl _, fun y z c h1 h2 => ?_, fun y hy => ?_, fun y c _ h => ?_, fun _ => hd, Around.frames_deeper e0.frames, .inr ⟨rfl, rfl⟩, fun b z => absurd z (noA b), e0.bs, e0.bsz, fun b _ _ => noA b, fun b z => absurd z (noA b), e0.funs, e0.frf⟩,
    rfl, e0.bare, Un.kept hk, ⟨_, x.toInCall.ns, fun i y v h1 h2 h3 => ?_⟩, fun y c h => ⟨_, x.cell y c h⟩, e0.hok.fresh (Nat.le_refl _), fun y c h => ?_, fun p hp => absurd (show p ∈ ([] : List (Addr × Obj)) from hp) (by simp), e0.hok.kept hk, ?_⟩
  · exact name_of_addr x.apart (PySem.mem_of_lookup h1) (PySem.mem_of_lookup h2)
  · have hy : scope.names.lookup y = some .cell ∨ scope.names.lookup y = some .free := hy
    rcases hy with hy | hy
    · exact cell_has hy
    · exact absurd rfl (S.nofree _ (PySem.mem_of_lookup hy))
  · exact Nat.le_of_lt (x.above y c (PySem.mem_of_lookup h))
  · have hi : i < vs.length := by
      unfold start at h2
      by_cases hi : i < vs.length
      · exact hi
      · rw [List.getElem?_append_right (by simpa using hi)] at h2
        rw [List.getElem?_replicate] at h2
        split at h2 <;> cases h2
    have ha : vs[i]? = some v := by
      unfold start at h2
      rw [List.getElem?_append_left (by simpa using hi), List.getElem?_map] at h2
      cases e : vs[i]? with
      | none => rw [e] at h2; cases h2
      | some a => rw [e] at h2; cases h2; rfl
    obtain ⟨u, hu, rv⟩ := r.get ha
    have hp : ps[i]? = some y := by
      rw [← S.pre, List.getElem?_take_of_lt (by omega)]; exact h1
    have ndP : ps.Nodup := by rw [← S.pre]; exact S.nd.sublist (List.take_sublist _ _)
    refine ⟨u, rv, ?_⟩
    rcases S.par y (List.mem_of_getElem? hp) with k | k
    · exact .inl ⟨k, bindL_get ndP hp hu k⟩
    · obtain ⟨c, e⟩ := cell_has (n := s.heap.objs.size + 1) k
      refine .inr ⟨.inl k, c, e, ?_⟩
      have q := x.cell y c e
      rw [bindC_get ndP hp hu (by show scope.names.lookup y ≠ _; rw [k]; decide)] at q
      exact q
  · exact e0.hok.fresh (Nat.le_of_lt (x.above y c (PySem.mem_of_lookup h)))
  · unfold start
    show _ = N.length
    rw [List.length_append, List.length_map, List.length_replicate]
    omega
theorem fn_of {CX : CXT} {P : Program} {w : World} {K : PySem.W.Frag} {mg : Str → Option Value} {base : Heap} {k : Nat} {f : Addr} {name qual : Str} {params : Arguments} {body : List Stmt} {scope : Scope} {dV kV doc pm cdv ct oc : Value} {an od : Option Addr}
    {osl : Array (Option Value)} {N ps : List Str} {sp : Sp} (lk : K.lookup f = some ⟨oc, od, .func (PySem.W.fnOf name qual params body scope dV kV doc pm an cdv ct), osl⟩) (hcd : PySem.W.codeIn K cdv qual = true) (S : FnScope N ps scope)
    (len : ∀ vs H Q E, sp vs H Q E → vs.length = ps.length)
    (hbody : ∀ (A : Around) (outer : List Env) (s : Shared) (H : Hp) (vs : List V) (Q : VK) (E : XK), Room k (A.deeper (envOfC qual scope s.heap.objs.size f cdv)) → sp vs H Q E →
      ∃ t, PSs (cxOf CX P w K mg base N qual scope f cdv A outer s H E) body t ∧ t { nx := fun _ H' => Q .non H', rt := Q } (start N vs) H) :
    FnOk P w K mg base CX (k + 1) f (PySem.W.fnOf name qual params body scope dV kV doc pm an cdv ct) ps sp := by
  refine ⟨len, fun A outer s H args us vs Q E hr e0 hb r hsp => ?_⟩
  have hl := len _ _ _ _ hsp
  have KX : K.In s.heap := e0.mod.kin.keeps fun b o e => (e0.bs b o e).1
  have lim : s.heap.NoLimit := e0.mod.nolimit.keeps fun b o e => (e0.bs b o e).1
  have hkind : ∀ y ∈ ps.zip us, scope.names.lookup y.1 = some .local ∨ (scope.names.lookup y.1 = some .cell ∧ ((cellsFrom (s.heap.objs.size + 1) scope.names []).lookup y.1).isSome = true) := fun ⟨n, v⟩ hy => by
    rcases S.par n (List.of_mem_zip hy).1 with q | q
    · exact .inl q
    · exact .inr ⟨q, PySem.W.cellsFrom_some _ _ _ (.inl q)⟩
  refine codeAny_call_function hr.depth (KX _ _ lk) rfl S.co S.gen rfl (PySem.W.codeRec_of KX hcd) (hb _ _ _ _ ?_)
  refine wpAny_newFunctionEnv_cells S.kind hkind fun env he s1 x => ?_
  subst he
  refine ⟨lim.keeps x.toInCall.keep, codeAny_func ?_⟩
  obtain ⟨t, ht, hq⟩ := hbody A outer s H vs Q E (hr.deeper _) hsp
  have I : Inv (cxOf CX P w K mg base N qual scope f cdv A outer s H E) [] (start N vs) H s1 := inv_start S hr.hd e0 hl r x
  refine wpAny_mono (ht [] s1 (start N vs) H _ I hq) (fun fl s' hs => ?_) fun e s' hs => hs
  have fin : ∀ {σ' : St} {H' : Hp} {v : V} {u : Value}, Inv (cxOf CX P w K mg base N qual scope f cdv A outer s H E) [] σ' H' s' → RelV v u → Q v H' → CE outer P w H s Q u s' :=
    fun {σ' H' v u} J rv q => ⟨v, H', J.os, J.bare, J.base, J.hok, rv, q⟩
  cases fl with
  | ret u =>
    obtain ⟨v, σ', H', J, rv, q⟩ := hs
    exact fin J rv q
  | next =>
    obtain ⟨σ', H', J, q⟩ := hs
    exact fin (v := V.non) (u := Value.none) J rfl q
  | brk =>
    obtain ⟨_, _, _, q⟩ := hs
    exact False.elim q
  | cont =>
    obtain ⟨_, _, _, q⟩ := hs
    exact False.elim q
end L2
namespace L2
open PySem PySem.Spec PyProof.Rows
section
variable {X : Cx} {x : Str} {p pos : Pos} {e : Expr} {es : List Expr} {t : TA} {id T : String} {r : List V → Hp → VK → Prop}
def tCB (r : List V → Hp → VK → Prop) (t : TA) : TE := fun σ H Q => t σ H fun vs H1 => r vs H1 Q
theorem pe_callB (hc : CallR X (.builtin id) r) (hg : Gl X x) (hm : X.mg x = none) (hv : bootBuiltins x = some (.builtin id)) (ha : PA X (e :: es) t) (hn : x ≠ "__name__" := by decide) (hdb : (x == ("__debug__" : Str)) = false := by decide)
    (he : starEach (e :: es) X.env = (false, eval e X.env) :: starEach es X.env := by rfl) (hpl : (backTo pos (starEach es X.env)).any (·.1) = false := by rfl) : PE X (.Call (.Name x p) (e :: es) [] pos) (tCB r t) := by
  intro pins s σ H Q I h
  refine wpAny_Call_Name_kw (ld_blt I hg hm hv ?_ hn hdb)
  exact PyProof.Rows.callWith_builtin1 (thn (ha pos pins s σ H _ I h) fun us s1 ⟨vs, H1, I1, r1, q1⟩ => hc pins s1 σ H1 vs us Q I1 r1 q1) he hpl
theorem pe_callTy (hc : CallR X (.type T) r) (hg : Gl X x) (hm : X.mg x = none) (hv : bootBuiltins x = some (.type T)) (ha : PA X (e :: es) t) (hn : x ≠ "__name__" := by decide) (hdb : (x == ("__debug__" : Str)) = false := by decide)
    (he : starEach (e :: es) X.env = (false, eval e X.env) :: starEach es X.env := by rfl) (hpl : (backTo pos (starEach es X.env)).any (·.1) = false := by rfl) : PE X (.Call (.Name x p) (e :: es) [] pos) (tCB r t) := by
  intro pins s σ H Q I h
  refine wpAny_Call_Name_kw (ld_blt I hg hm hv ?_ hn hdb)
  exact PyProof.Rows.callWith_type1 (thn (ha pos pins s σ H _ I h) fun us s1 ⟨vs, H1, I1, r1, q1⟩ => hc pins s1 σ H1 vs us Q I1 r1 q1) he hpl
theorem pe_callTy0 (hc : CallR X (.type T) r) (hg : Gl X x) (hm : X.mg x = none) (hv : bootBuiltins x = some (.type T)) (hn : x ≠ "__name__" := by decide) (hdb : (x == ("__debug__" : Str)) = false := by decide) :
    PE X (.Call (.Name x p) [] [] pos) (tCB r tNil) := by
  intro pins s σ H Q I h
  refine wpAny_Call_Name_kw (ld_blt I hg hm hv ?_ hn hdb)
  exact PyProof.Rows.callWith_type0 (hc pins s σ H [] [] Q I .nil h)
end
end L2
namespace HT
open PySem PyProof.Rows
def lexLt : List Int → List Int → Bool
  | [], [] => false
  | [], _ :: _ => true
  | _ :: _, [] => false
  | x :: xs, y :: ys => if x = y then lexLt xs ys else decide (x < y)
theorem lexLt_cons (x y : Int) (xs ys : List Int) : lexLt (x :: xs) (y :: ys) = if x = y then lexLt xs ys else decide (x < y) := rfl
theorem lexLt_nil_nil : lexLt [] [] = false := rfl
theorem lexLt_nil_cons (y : Int) (ys : List Int) : lexLt [] (y :: ys) = true := rfl
theorem lexLt_cons_nil (x : Int) (xs : List Int) : lexLt (x :: xs) [] = false := rfl
theorem eqAt_int (A : Around) (s : Shared) (a : Int) (t : Tok) (c : Int) (u : Tok) : ∃ e, SeqAt.EqAt A s (.int a t) (.int c u) e ∧ (e = true ↔ a = c) :=
  ⟨(a == c), SeqAt.EqAt.int_int a t c u, by simp⟩
theorem rcLt_int (A : Around) (s : Shared) (a : Int) (t : Tok) (c : Int) (u : Tok) (prog : Program) (w : World) (E : Value → Shared → Prop) (Q : Value → Shared → Prop) (h : Q (.bool (decide (a < c))) s) :
    wpAny (model prog w) A (richCompare .Lt (.int a t) (.int c u)) Q E s :=
  (PyProof.Rows.lt_int h : wpAny (model prog w) A (compareOp .Lt (.int a t) (.int c u)) Q E s)
section
open PySem.SeqAt
open PySem.AutoSeq1 (wpAny_loadPart')
open PySem.MeetsSeq PySem.MeetsSeq2 PySem.MeetsSeq3
theorem tuple_lt_ints (l b : Addr) (items items2 : Array Value) (n n2 : Nat) (dd dd2 : Option Addr) (sl sl2 : Array (Option Value)) (ns ms : List Int) (hi : IntsAre items.toList ns) (hj : IntsAre items2.toList ms) :
    Meets (Builtin.«tuple.__lt__» ⟨[.ref l, .ref b], []⟩)
      (fun _ R s => s.heap.get? l = some { cls := .type "tuple", dict := dd, data := .seq items n, slots := sl } ∧ s.heap.get? b = some { cls := .type "tuple", dict := dd2, data := .seq items2 n2, slots := sl2 } ∧
        R (.ok (.ret (.bool (lexLt ns ms)))) s) :=
  .of_wp fun prog w A R s h => by
    obtain ⟨hp, g, d, tk, os⟩ := s; obtain ⟨hl, hb, h⟩ := h
    have f2 := AutoSeq1.sub_tuple_tuple
    have z1 : items.size = ns.length := by rw [← hi.length]; simp
    have z2 : items2.size = ms.length := by rw [← hj.length]; simp
    wp_walk using wpAny_loadPart' hl, wpAny_loadPart' hb, wpAny_forIn_list _ (fun rest b s' => b.1 = none ∧ s' = ⟨hp, g, d, tk, os⟩ ∧ ∃ (vs ws : List Value) (ns' ms' : List Int), rest = vs.zip ws ∧
      IntsAre vs ns' ∧ IntsAre ws ms' ∧ ns'.length + items2.size = ms'.length + items.size ∧ R (.ok (.ret (.bool (lexLt ns' ms')))) ⟨hp, g, d, tk, os⟩) _
    case turn =>
      rintro ⟨y, x⟩ rest b s' ⟨hb', rfl, vs, ws, ns', ms', hz, hvi, hwi, hlen, hR⟩
      cases hvi with
      | nil => rw [List.zip_nil_left] at hz; cases hz
      | cons a t hvi' =>
        cases hwi with
        | nil => rw [List.zip_nil_right] at hz; cases hz
        | cons c u hwi' =>
          rw [List.zip_cons_cons] at hz
          injection hz with hyx hrest
          injection hyx with hy hx
          subst hy hx
          rw [lexLt_cons] at hR
          simp only [List.length_cons] at hlen
          obtain ⟨e, he, hiff⟩ := eqAt_int A.in1 ⟨hp, g, d, tk, os⟩ a t c u
          refine wpAny_bind (he prog w _ _ ?_)
          cases e with
          | true =>
            rw [if_pos (hiff.mp rfl)] at hR
            wp_walk
            exact ⟨rfl, rfl, _, _, _, _, hrest, hvi', hwi', by omega, hR⟩
          | false =>
            rw [if_neg (fun q => absurd (hiff.mpr q) Bool.false_ne_true)] at hR
            have hri := rcLt_int A.in1 ⟨hp, g, d, tk, os⟩ a t c u prog w
            wp_walk using hri
            exact ⟨_, rfl, by simpa using hR⟩
    case fin =>
      rintro ⟨b1, b2⟩ s' ⟨hb', rfl, vs, ws, ns', ms', hz, hvi, hwi, hlen, hR⟩
      simp only at hb'
      subst hb'
      have hv : lexLt ns' ms' = decide (items.size < items2.size) := by
        cases hvi with
        | nil =>
          cases hwi with
          | nil =>
            simp only [List.length_nil] at hlen
            rw [lexLt_nil_nil]
            exact (decide_eq_false (by omega)).symm
          | cons c u hw =>
            simp only [List.length_nil, List.length_cons] at hlen
            rw [lexLt_nil_cons]
            exact (decide_eq_true (by omega)).symm
        | cons a t hv =>
          cases hwi with
          | nil =>
            simp only [List.length_nil, List.length_cons] at hlen
            rw [lexLt_cons_nil]
            exact (decide_eq_false (by omega)).symm
          | cons c u hw =>
            rw [List.zip_cons_cons] at hz
            cases hz
      rw [hv] at hR
      wp_walk
      exact ⟨_, rfl, by simpa [Builtin.Tuple.tupleCompareSizes] using hR⟩
    case h =>
      exact ⟨rfl, rfl, items.toList, items2.toList, ns, ms, rfl, hi, hj, by omega, h⟩
end
section
variable {prog : Program} {w : World} {A : Around} {E : Value → Shared → Prop} {s : Shared}
theorem lt_tupInts {l b : Addr} {items items2 : Array Value} {ns ms : List Int} {Q : Value → Shared → Prop} (hl : IsTup s.heap l items) (hb : IsTup s.heap b items2) (hi : IntsAre items.toList ns) (hj : IntsAre items2.toList ms)
    (hu : A.units < cLine) (h : Q (.bool (lexLt ns ms)) s) : wpAny (model prog w) A (compareOp .Lt (.ref l) (.ref b)) Q E s := by
  obtain ⟨⟨cls, dd, data, sl⟩, ho, hc, n, hd⟩ := id hl
  obtain ⟨⟨cls2, dd2, data2, sl2⟩, ho2, hc2, n2, hd2⟩ := id hb
  simp only at hc hd hc2 hd2
  subst hc hd hc2 hd2
  exact richCompare_meets_room (op := .Lt) ⟨_, ho, rfl⟩ ⟨_, ho2, rfl⟩ PySem.F.slot_tuple_lt PySem.F.entry_tuple_lt (PySem.F.args_tuple_lt_2 _ _) (tuple_lt_ints l b items items2 n n2 dd dd2 sl sl2 ns ms hi hj)
    ⟨ho, ho2, show Value.bool (lexLt ns ms) ≠ Value.notImplemented ∧ Q (.bool (lexLt ns ms)) s from ⟨(fun x => nomatch x), h⟩⟩ hu
theorem cat_tup {t b : Addr} {vs ws : List Value} {Q : Value → Shared → Prop} (ht : IsTup s.heap t vs.toArray) (hb : IsTup s.heap b ws.toArray) (hv : vs ≠ [])
    (h1 : ws = [] → Q (.ref t) s) (h2 : ws ≠ [] → Q (.ref s.heap.objs.size) { s with heap := s.heap.push { cls := .type "tuple", data := .seq (vs ++ ws).toArray } })
    (hsz : vs.length + ws.length ≤ sizeLine) : wpAny (model prog w) A (binaryOp .Add (.ref t) (.ref b)) Q E s := by
  obtain ⟨⟨cls, dd, data, sl⟩, ho, hc, n, hd⟩ := id ht
  obtain ⟨⟨cls2, dd2, data2, sl2⟩, ho2, hc2, n2, hd2⟩ := id hb
  simp only at hc hd hc2 hd2
  subst hc hd hc2 hd2
  have e : vs.toArray ++ ws.toArray = (vs ++ ws).toArray := by simp
  by_cases hw : ws = []
  · exact concat_meets ⟨_, ho, rfl⟩ ⟨_, ho2, rfl⟩ noFill_tuple_add seq_tuple_add PySem.F.slot_tuple_add PySem.F.entry_tuple_add (PySem.F.args_tuple_add_2 _ _)
      (tuple_addW1 t b vs.toArray ws.toArray n n2 dd dd2 sl sl2 (by simpa using hv) (by simp [hw])) ⟨ho, ho2, h1 hw⟩
  · refine concat_meets ⟨_, ho, rfl⟩ ⟨_, ho2, rfl⟩ noFill_tuple_add seq_tuple_add PySem.F.slot_tuple_add PySem.F.entry_tuple_add (PySem.F.args_tuple_add_2 _ _)
      (tuple_addW2 t b vs.toArray ws.toArray n n2 dd dd2 sl sl2 (by simpa using hv) (by simpa using hw) (by rw [List.size_toArray, List.size_toArray]; exact hsz)) ⟨ho, ho2, ?_⟩
    rw [e]
    exact h2 hw
def sIx (n d : Nat) : Option Int → Nat
  | none => d
  | some v => if v < 0 then (v + (n : Int)).toNat else min v.toNat n
theorem sIx_none (n d : Nat) : sIx n d none = d := rfl
theorem sIx_nat (n d k : Nat) : sIx n d (some (k : Int)) = min k n := by
  show (if (k : Int) < 0 then ((k : Int) + (n : Int)).toNat else min (k : Int).toNat n) = min k n
  rw [if_neg (by omega), Int.toNat_natCast]
theorem sIx_le (n d : Nat) (hd : d ≤ n) (o : Option Int) : sIx n d o ≤ n := by
  cases o with
  | none => exact hd
  | some v =>
    show (if v < 0 then (v + (n : Int)).toNat else min v.toNat n) ≤ n
    by_cases hv : v < 0
    · rw [if_pos hv]; omega
    · rw [if_neg hv]; exact Nat.min_le_right _ _
theorem clip_eq (v : Int) (n d : Nat) : (if v < 0 then max (v + (n : Int)) 0 else min v (n : Int)) = ((sIx n d (some v) : Nat) : Int) := by
  show (if v < 0 then max (v + (n : Int)) 0 else min v (n : Int)) = (((if v < 0 then (v + (n : Int)).toNat else min v.toNat n) : Nat) : Int)
  by_cases hv : v < 0
  · simp only [if_pos hv]; omega
  · simp only [if_neg hv]; omega
theorem adjust_gen (lo hi : Option Int) (n : Nat) : Builtin.Slice.sliceAdjust lo hi 1 (n : Int) = (((sIx n 0 lo : Nat) : Int), ((sIx n n hi : Nat) : Int)) := by
  have h1 : ¬ ((1 : Int) < 0) := by omega
  unfold Builtin.Slice.sliceAdjust
  simp only [h1, if_false]
  refine Prod.ext ?_ ?_
  · cases lo with
    | none => rfl
    | some v => exact clip_eq v n 0
  · cases hi with
    | none => rfl
    | some v => exact clip_eq v n n
theorem places_gen (i j : Nat) : Builtin.Slice.slicePlaces (i : Int) (j : Int) 1 = j - i := by
  unfold Builtin.Slice.slicePlaces
  have h1 : (1 : Int) > 0 := by omega
  simp only [h1, if_true, Int.ediv_one]
  split <;> omega
theorem slicePart_ {v : Value} {o : Option Int} {Q : Option Int → Shared → Prop} (p : IsPart v o) (h : Q o s) : wpAny (model prog w) A (Builtin.Slice.slicePartIndex v) Q E s := by
  cases p with
  | none => exact slicePart_none h
  | int i t => exact slicePart_int h
theorem sliceApplied_gen {sl : Addr} {vl vu : Value} {lo hi : Option Int} {n : Nat} {Q : Int × Int × Nat → Shared → Prop} (hs : s.heap.IsSliceOf sl vl vu .none) (pl : IsPart vl lo) (pu : IsPart vu hi)
    (h : Q (((sIx n 0 lo : Nat) : Int), 1, sIx n n hi - sIx n 0 lo) s) : wpAny (model prog w) A (Builtin.Slice.sliceApplied (.ref sl) (pure (n : Int))) Q E s := by
  obtain ⟨os, hos, hcs, hds⟩ := id hs
  unfold Builtin.Slice.sliceApplied Builtin.Slice.sliceFields
  refine wpAny_bind (wpAny_bind (wpAny_field hos hds (x := vl) rfl (wpAny_bind (wpAny_field hos hds (x := vu) rfl (wpAny_bind (wpAny_field hos hds (x := .none) rfl (wpAny_pure ?_)))))))
  refine wpAny_bind (slicePart_none ?_)
  show wpAny _ _ (if ((1 : Int) == 0) = true then _ else _) _ _ s
  rw [if_neg (by decide)]
  refine wpAny_bind (slicePart_ pl (wpAny_bind (slicePart_ pu (wpAny_bind (wpAny_pure ?_)))))
  show wpAny _ _ (match Builtin.Slice.sliceAdjust lo hi 1 (n : Int) with | (lo, hi) => pure (lo, (1 : Int), Builtin.Slice.slicePlaces lo hi 1)) _ _ s
  rw [adjust_gen lo hi n]
  show wpAny _ _ (pure (((sIx n 0 lo : Nat) : Int), (1 : Int), Builtin.Slice.slicePlaces ((sIx n 0 lo : Nat) : Int) ((sIx n n hi : Nat) : Int) 1)) _ _ s
  rw [places_gen]
  exact wpAny_pure h
theorem pick_gen (xs : Array Value) (i k : Nat) : ((List.range k).filterMap fun (m : Nat) => xs[((i : Int) + (m : Int) * 1).toNat]?).toArray = ((xs.toList.drop i).take k).toArray := by
  have e : (fun (m : Nat) => xs[((i : Int) + (m : Int) * 1).toNat]?) = fun m => xs[i + m]? := by
    funext m
    have : ((i : Int) + (m : Int) * 1).toNat = i + m := by omega
    rw [this]
  rw [e]
  have := pick_run xs i k
  rw [List.filterMap_map] at this
  have e2 : ((fun x => xs[x]?) ∘ fun x => i + x) = fun m => xs[i + m]? := rfl
  rw [e2] at this
  rw [this]
theorem getItem_tuple_cut {t sl : Addr} {items : Array Value} {vl vu : Value} {lo hi : Option Int} {Q : Value → Shared → Prop} (ht : IsTup s.heap t items) (hs : s.heap.IsSliceOf sl vl vu .none) (pl : IsPart vl lo) (pu : IsPart vu hi)
    (hw : ¬ (sIx items.size 0 lo = 0 ∧ sIx items.size items.size hi = items.size))
    (h : Q (.ref s.heap.objs.size) { s with heap := s.heap.push { cls := .type "tuple", data := .seq ((items.toList.drop (sIx items.size 0 lo)).take (sIx items.size items.size hi - sIx items.size 0 lo)).toArray } })
    (hsz : items.size ≤ sizeLine) : wpAny (model prog w) A (getItem (.ref t) (.ref sl)) Q E s := by
  have htake : sizeOk (.seq ((items.toList.drop (sIx items.size 0 lo)).take (sIx items.size items.size hi - sIx items.size 0 lo)).toArray) := by
    show ((items.toList.drop (sIx items.size 0 lo)).take (sIx items.size items.size hi - sIx items.size 0 lo)).toArray.size ≤ sizeLine
    rw [List.size_toArray, List.length_take, List.length_drop, Array.length_toList]
    omega
  have hj : sIx items.size items.size hi ≤ items.size := sIx_le _ _ (Nat.le_refl _) hi
  obtain ⟨os, hos, hcs, hds⟩ := id hs
  have hTs : s.TypeIs (.ref sl) "slice" := ⟨os, hos, hcs⟩
  unfold getItem
  try with_reducible refine wpAny_holding ?_
  first | refine wpAny_bind (wpAny_pure ?_) | skip
  refine wpAny_bind (wpAny_sequenceKey ht.typeIs (by decide) ?_)
  refine wpAny_bind (wpAny_callSpecial?_slot (name := Str.ofString "__getitem__") ht.typeIs PyProof.Rows.slot_tuple_getitem
    (wpAny_call_entry PyProof.Rows.slot_tuple_getitem ht.typeIs entry_tuple_getitem ?_ (args_tuple_getitem _ _)))
  show wpAny _ _ (Builtin.Tuple.tupleItemsOf (.ref t) >>= _) _ _ s
  refine wpAny_bind (tupleItemsOf_ ht ?_)
  refine wpAny_bind (wpAny_typeOf hTs ?_)
  rw [if_pos (by decide)]
  refine wpAny_bind (sliceApplied_gen hs pl pu ?_)
  have hno : ¬ ((((sIx items.size 0 lo : Nat) : Int) == 0 && (1 : Int) == 1 && (sIx items.size items.size hi - sIx items.size 0 lo) == items.size) = true) := by
    intro q
    rw [Bool.and_eq_true, Bool.and_eq_true] at q
    have q1 : ((sIx items.size 0 lo : Nat) : Int) = 0 := eq_of_beq q.1.1
    have q2 : sIx items.size items.size hi - sIx items.size 0 lo = items.size := eq_of_beq q.2
    exact hw ⟨by omega, by omega⟩
  show wpAny _ _ (if (((sIx items.size 0 lo : Nat) : Int) == 0 && (1 : Int) == 1 && (sIx items.size items.size hi - sIx items.size 0 lo) == items.size) = true then _ else _) _ _ s
  rw [if_neg hno, pick_gen]
  first
    | exact wpAny_bind (m := Builtin.Tuple.tupleExact _) (wpAny_newObj_type (wpAny_pure ⟨_, rfl, wpAny_pure h⟩) htake)
    | exact wpAny_bind (m := Builtin.Tuple.tupleExact _) (wpAny_newObj_type (wpAny_bind (wpAny_pure (wpAny_pure ⟨_, rfl, wpAny_pure h⟩))) htake)
    | exact wpAny_bind (wpAny_bind (m := Builtin.Tuple.tupleExact _) (wpAny_newObj_type (wpAny_pure (wpAny_pure ⟨_, rfl, wpAny_pure h⟩)) htake))
    | exact wpAny_bind (wpAny_bind (m := Builtin.Tuple.tupleExact _) (wpAny_newObj_type (wpAny_pure ⟨_, rfl, wpAny_pure h⟩) htake))
end
end HT
namespace L2
open PySem PySem.Spec PyProof.Rows
abbrev TO := St → Hp → (Option Int → Hp → Prop) → Prop
def PO (X : Cx) (e : Option Expr) (t : TO) : Prop :=
  ∀ (pins : List (Addr × Obj)) (s : Shared) (σ : St) (H : Hp) (Q : Option Int → Hp → Prop), Inv X pins σ H s → t σ H Q →
    wpAny (model X.prog X.w) X.A (evalPart e X.env) (fun u s' => ∃ o H', Inv X pins σ H' s' ∧ IsPart u o ∧ Q o H') X.xe s
def tNoPart : TO := fun _ H Q => Q none H
def tPart (t : TE) : TO := fun σ H Q => t σ H fun x H1 => ∃ i, x = .int i ∧ Q (some i) H1
theorem intsAre_of {ns : List Int} : ∀ {us : List Value}, Vals (ns.map V.int) us → IntsAre us ns := by
  induction ns with
  | nil => intro us r; rw [List.map_nil] at r; cases r; exact .nil
  | cons n ns ih =>
    intro us r
    rw [List.map_cons] at r
    cases r with
    | cons r1 r2 =>
      obtain ⟨t, e⟩ := r1
      subst e
      exact .cons n t (ih r2)
section
variable {X : Cx} {e : Expr} {te : TE} {lo hi : Option Expr} {tl th : TO} {pos p2 : Pos}
theorem po_none : PO X none tNoPart := by
  intro pins s σ H Q I h
  rw [evalPart_none]
  exact wpAny_pure ⟨none, H, I, .none, h⟩
theorem po_some (h : PE X e te) : PO X (some e) (tPart te) := by
  intro pins s σ H Q I hw
  rw [evalPart_some]
  refine thn (h pins s σ H _ I hw) fun u s1 ⟨x, H1, I1, r1, q1⟩ => ?_
  obtain ⟨i, rfl, q⟩ := q1
  obtain ⟨t, rfl⟩ := r1
  exact ⟨some i, H1, I1, .int i t, q⟩
def SlR (X : Cx) (r : V → Option Int → Option Int → Hp → VK → Prop) : Prop :=
  ∀ (pins : List (Addr × Obj)) (s : Shared) (σ : St) (H : Hp) (x : V) (v vl vu : Value) (lo hi : Option Int) (sl : Addr) (Q : VK), Inv X pins σ H s → RelV x v → s.heap.IsSliceOf sl vl vu .none → IsPart vl lo → IsPart vu hi → r x lo hi H Q →
    ∃ T id, typeLookup (.type T) "__getitem__" = pure (some (.builtin id)) ∧ s.TypeIs v T ∧ wpAny (model X.prog X.w) X.A (getItem v (.ref sl)) (EP X pins σ Q) X.xe s
theorem SlR.or {r r' : V → Option Int → Option Int → Hp → VK → Prop} (h : SlR X r) (h' : SlR X r') : SlR X (fun x lo hi H Q => r x lo hi H Q ∨ r' x lo hi H Q) := by
  intro pins s σ H x v vl vu lo hi sl Q I rx hs pl pu q
  rcases q with q | q
  · exact h pins s σ H x v vl vu lo hi sl Q I rx hs pl pu q
  · exact h' pins s σ H x v vl vu lo hi sl Q I rx hs pl pu q
def tSl (r : V → Option Int → Option Int → Hp → VK → Prop) (te : TE) (tl th : TO) : TE := fun σ H Q => te σ H fun x H1 => tl σ H1 fun l H2 => th σ H2 fun u H3 => r x l u H3 Q
theorem pe_slice {r : V → Option Int → Option Int → Hp → VK → Prop} (hr : SlR X r) (he : PE X e te) (hl : PO X lo tl) (hu : PO X hi th) : PE X (.Subscript e (.Slice lo hi none p2) pos) (tSl r te tl th) := by
  intro pins s σ H Q I h
  refine Subscript_ (thn (he pins s σ H _ I h) fun v s1 ⟨x, H1, I1, r1, q1⟩ => ?_)
  refine wpAny_Slice (thn (hl pins s1 σ H1 _ I1 q1) fun vl s2 ⟨l, H2, I2, pl, q2⟩ => thn (hu pins s2 σ H2 _ I2 q2) fun vu s3 ⟨u, H3, I3, pu, q3⟩ => ?_)
  rw [evalPart_none]
  refine wpAny_pure ?_
  have I4 : Inv X pins σ H3 { s3 with heap := s3.heap.push { cls := .type "slice", data := .fields #[vl, vu, .none] } } := I3.kept (t' := s3.toks) fun b ob q => Heap.get?_push_of_some _ q
  obtain ⟨T, id, hT, ht, hg⟩ := hr pins { s3 with heap := s3.heap.push { cls := .type "slice", data := .fields #[vl, vu, .none] } } σ H3 x v vl vu l u s3.heap.objs.size Q I4 r1 (Heap.IsSliceOf.new ..) pl pu q3
  show wpAny (model X.prog X.w) X.A (subscriptTail e (.Slice lo hi none p2) v (.ref s3.heap.objs.size)) (EP X pins σ Q) X.xe { s3 with heap := s3.heap.push { cls := .type "slice", data := .fields #[vl, vu, .none] } }
  exact tail_any (ops := [.ref s3.heap.objs.size, v]) ht hT hg (by with_unfolding_all rfl)
def cutV (xs : List V) (lo hi : Option Int) : List V := (xs.drop (HT.sIx xs.length 0 lo)).take (HT.sIx xs.length xs.length hi - HT.sIx xs.length 0 lo)
theorem cutV_length (xs : List V) (lo hi : Option Int) : (cutV xs lo hi).length ≤ xs.length := by
  unfold cutV
  rw [List.length_take, List.length_drop]
  omega
def rSlT (K : PySem.W.Frag) : V → Option Int → Option Int → Hp → VK → Prop := fun x lo hi H Q => ∃ a xs, x = .ref a ∧ SqT K H a xs ∧
  ¬ (HT.sIx xs.length 0 lo = 0 ∧ HT.sIx xs.length xs.length hi = xs.length) ∧ ∀ p, H p = none → Q (.ref p) (upd H p (.tup (cutV xs lo hi)))
theorem sl_tup : SlR X (rSlT X.K) := by
  intro pins s σ H x v vl vu lo hi sl Q I rx hs pl pu h
  obtain ⟨a, xs, rfl, hx, hw, q⟩ := h
  cases rx
  obtain ⟨its, r, ht, hz⟩ := I.tuple hx
  have hlen : its.toArray.size = xs.length := by rw [List.size_toArray]; exact r.length.symm
  refine ⟨"tuple", _, PyProof.Rows.slot_tuple_getitem.lookup, ht.typeIs, ?_⟩
  refine HT.getItem_tuple_cut ht hs pl pu (by rw [hlen]; exact hw) ?_ (by rw [hlen]; exact hz)
  rw [hlen]
  refine ⟨.ref s.heap.objs.size, _, I.laid (t' := s.toks) (o := .tup (cutV xs lo hi)) (fun b ob q => Heap.get?_push_of_some _ q) (Nat.le_refl _) ?_, rfl, q _ (I.hok.fresh (Nat.le_refl _))⟩
  exact ⟨Nat.le_trans (cutV_length xs lo hi) hz, _, (r.drop (HT.sIx xs.length 0 lo)).take (HT.sIx xs.length xs.length hi - HT.sIx xs.length 0 lo), IsTup.new _ _⟩
def rLtT (K : PySem.W.Frag) : R2 := fun x y H Q => ∃ a b ns ms, x = .ref a ∧ y = .ref b ∧ SqT K H a (ns.map V.int) ∧ SqT K H b (ms.map V.int) ∧ Q (.bl (HT.lexLt ns ms)) H
theorem op_ltT (hu : X.A.units < cLine) : OpR X (compareOp .Lt) (rLtT X.K) := by
  intro pins s σ H x y v u Q I rx ry h
  obtain ⟨a, b, ns, ms, rfl, rfl, ha, hb, q⟩ := h
  cases rx
  cases ry
  obtain ⟨its, r1, p1, _⟩ := I.tuple ha
  obtain ⟨its2, r2, p2, _⟩ := I.tuple hb
  have i1 : IntsAre its.toArray.toList ns := intsAre_of r1
  have i2 : IntsAre its2.toArray.toList ms := intsAre_of r2
  exact HT.lt_tupInts p1 p2 i1 i2 hu ⟨.bl (HT.lexLt ns ms), H, I, rfl, q⟩
def rCatT (K : PySem.W.Frag) : R2 := fun x y H Q => ∃ a b xs ys, x = .ref a ∧ y = .ref b ∧ SqT K H a xs ∧ SqT K H b ys ∧ xs ≠ [] ∧ xs.length + ys.length ≤ sizeLine ∧
  (ys = [] → Q (.ref a) H) ∧ (ys ≠ [] → ∀ p, H p = none → Q (.ref p) (upd H p (.tup (xs ++ ys))))
theorem Vals.nil_iff {xs : List V} {us : List Value} (r : Vals xs us) : us = [] ↔ xs = [] := by
  cases r with
  | nil => simp
  | cons _ _ => simp
theorem op_catT : OpR X (binaryOp .Add) (rCatT X.K) := by
  intro pins s σ H x y v u Q I rx ry h
  obtain ⟨a, b, xs, ys, rfl, rfl, ha, hb, hx, hz, q1, q2⟩ := h
  cases rx
  cases ry
  obtain ⟨its, r1, p1, _⟩ := I.tuple ha
  obtain ⟨its2, r2, p2, _⟩ := I.tuple hb
  refine HT.cat_tup p1 p2 (fun z => hx (r1.nil_iff.mp z)) (fun z => ⟨.ref a, H, I, rfl, q1 (r2.nil_iff.mp z)⟩) (fun z => ?_) (by rw [← r1.length, ← r2.length]; exact hz)
  refine ⟨.ref s.heap.objs.size, _, I.laid (t' := s.toks) (o := .tup (xs ++ ys)) (fun b ob q => Heap.get?_push_of_some _ q) (Nat.le_refl _) ?_, rfl, q2 (fun w => z (r2.nil_iff.mpr w)) _ (I.hok.fresh (Nat.le_refl _))⟩
  exact ⟨by rw [List.length_append]; exact hz, _, r1.append r2, IsTup.new _ _⟩
theorem call_tupleT : CallR X (.type "tuple") (fun xs H Q => ∃ a ys, xs = [.ref a] ∧ SqT X.K H a ys ∧ Q (.ref a) H) := by
  intro pins s σ H xs us Q I r h
  obtain ⟨a, ys, rfl, ha, q⟩ := h
  obtain ⟨u, rfl, ru⟩ := vals1 r
  cases ru
  obtain ⟨its, _, p1, _⟩ := I.tuple ha
  exact call_tuple_same (items := its.toArray) p1 ⟨.ref a, H, I, rfl, q⟩
end
end L2
namespace L2
open PySem PySem.Spec PyProof.Rows
def ixN (n : Nat) (i : Int) : Option Nat := if 0 ≤ i then (if i < n then some i.toNat else none) else if -(n : Int) ≤ i then some (i + n).toNat else none
def atI {α : Type} (xs : List α) (i : Int) : Option α := (ixN xs.length i).bind fun j => xs[j]?
theorem ixN_seq {n : Nat} {i : Int} {j : Nat} (h : ixN n i = some j) : seqIndex? i n = some j ∧ j < n ∧ -(n : Int) ≤ i ∧ i < n := by
  unfold ixN at h
  by_cases h0 : 0 ≤ i
  · rw [if_pos h0] at h
    by_cases h1 : i < n
    · rw [if_pos h1] at h
      have e : i.toNat = j := Option.some.inj h
      exact ⟨by rw [seqIndex_of h0 h1, e], by omega, by omega, h1⟩
    · rw [if_neg h1] at h; cases h
  · rw [if_neg h0] at h
    by_cases h1 : -(n : Int) ≤ i
    · rw [if_pos h1] at h
      have e : (i + n).toNat = j := Option.some.inj h
      exact ⟨by rw [seqIndex_neg (by omega) h1, e], by omega, h1, by omega⟩
    · rw [if_neg h1] at h; cases h
theorem atI_get {α : Type} {xs : List α} {i : Int} {v : α} (h : atI xs i = some v) : ∃ j, seqIndex? i xs.length = some j ∧ xs[j]? = some v ∧ j < xs.length ∧ -(xs.length : Int) ≤ i ∧ i < xs.length := by
  unfold atI at h
  cases e : ixN xs.length i with
  | none => rw [e] at h; cases h
  | some j =>
    rw [e] at h
    obtain ⟨h1, h2, h3, h4⟩ := ixN_seq e
    exact ⟨j, h1, h, h2, h3, h4⟩
theorem atI_nat {α : Type} {xs : List α} {j : Nat} {v : α} (h : xs[j]? = some v) : atI xs (j : Int) = some v := by
  have hj : j < xs.length := (List.getElem?_eq_some_iff.mp h).1
  have e : ixN xs.length (j : Int) = some j := by
    unfold ixN
    rw [if_pos (by omega), if_pos (by omega)]; simp
  unfold atI; rw [e]; exact h
theorem atI_last {α : Type} (xs : List α) (v : α) : atI (xs ++ [v]) (-1) = some v := by
  have hl : (xs ++ [v]).length = xs.length + 1 := by simp
  have e : ixN (xs ++ [v]).length (-1) = some xs.length := by
    unfold ixN
    rw [hl, if_neg (by decide), if_pos (by omega)]
    congr 1
    omega
  unfold atI
  rw [e]
  show (xs ++ [v])[xs.length]? = some v
  simp
def PlainIx (b : Expr) : Prop := ∀ o i, subscripted b false o i = operate [o, i] (getItem o i)
def IxR (X : Cx) (r : R2) : Prop :=
  ∀ (value slice : Expr) (pins : List (Addr × Obj)) (s : Shared) (σ : St) (H : Hp) (x y : V) (v u : Value) (Q : VK), Inv X pins σ H s → RelV x v → RelV y u → r x y H Q →
    subscripted slice false v u = operate [v, u] (getItem v u) → wpAny (model X.prog X.w) X.A (subscriptTail value slice v u) (EP X pins σ Q) X.xe s
def MtR (X : Cx) (id : String) (r : V → List V → Hp → VK → Prop) : Prop :=
  ∀ (pins : List (Addr × Obj)) (s : Shared) (σ : St) (H : Hp) (x : V) (xs : List V) (v : Value) (us : List Value) (Q : VK), Inv X pins σ H s → RelV x v → Vals xs us → r x xs H Q →
    wpAny (model X.prog X.w) X.A (call (.builtin id) (v :: us)) (EP X pins σ Q) X.xe s
section
variable {X : Cx} {a b : Expr} {ta tb : TE} {pos : Pos}
theorem IxR.or {r r' : R2} (h : IxR X r) (h' : IxR X r') : IxR X (fun x y H Q => r x y H Q ∨ r' x y H Q) := by
  intro value slice pins s σ H x y v u Q I rx ry q hs
  rcases q with q | q
  · exact h value slice pins s σ H x y v u Q I rx ry q hs
  · exact h' value slice pins s σ H x y v u Q I rx ry q hs
theorem MtR.or {id : String} {r r' : V → List V → Hp → VK → Prop} (h : MtR X id r) (h' : MtR X id r') : MtR X id (fun x xs H Q => r x xs H Q ∨ r' x xs H Q) := by
  intro pins s σ H x xs v us Q I rx rs q
  rcases q with q | q
  · exact h pins s σ H x xs v us Q I rx rs q
  · exact h' pins s σ H x xs v us Q I rx rs q
theorem pe_ix {r : R2} (hr : IxR X r) (ha : PE X a ta) (hb : PE X b tb) (hs : PlainIx b) : PE X (.Subscript a b pos) (tOp r ta tb) := by
  intro pins s σ H Q I h
  exact Subscript_ (binT ha hb I h fun v u s2 x y H2 I2 rx ry q => hr a b pins s2 σ H2 x y v u Q I2 rx ry q (hs _ _))
def rIxL (K : PySem.W.Frag) : R2 := fun x y H Q => ∃ p xs i v, x = .ref p ∧ y = .int i ∧ SqL K H p xs ∧ atI xs i = some v ∧ Q v H
def rIxT (K : PySem.W.Frag) : R2 := fun x y H Q => ∃ p xs i v, x = .ref p ∧ y = .int i ∧ SqT K H p xs ∧ atI xs i = some v ∧ Q v H
def rIxS : R2 := fun x y H Q => ∃ z i c, x = .str z ∧ y = .int i ∧ z.length ≤ sizeLine ∧ atI z.cps.toList i = some c ∧ Q (.str ⟨#[c]⟩) H
theorem ix_list : IxR X (rIxL X.K) := by
  intro value slice pins s σ H x y v u Q I rx ry h hs
  obtain ⟨p, xs, i, z, rfl, rfl, hq, he, q⟩ := h
  cases rx
  obtain ⟨t, rfl⟩ := ry
  obtain ⟨its, r, pl, hz⟩ := I.list hq
  obtain ⟨j, h1, h2, h3, h4, h5⟩ := atI_get he
  obtain ⟨w, ew, rw'⟩ := r.get h2
  have hl := r.length
  have hn := line63
  have fin : EP X pins σ Q w s := ⟨z, H, I, rw', q⟩
  by_cases h0 : 0 ≤ i
  · have hj : i.toNat = j := by
      rw [seqIndex_of h0 h5] at h1
      exact Option.some.inj h1
    exact item_listR pl.isList h0 (by omega) (by rw [hj]; simpa using ew) fin hs
  · have hj : (i + (its.toArray.size : Int)).toNat = j := by
      rw [seqIndex_neg (by omega) h4] at h1
      rw [List.size_toArray, ← hl]
      exact Option.some.inj h1
    exact subscriptTail_builtinR (x := w) pl.isList.typeIs slot_list_getitem.lookup
      (wpAny_getItem_list_neg (Q := fun r s' => r = w ∧ EP X pins σ Q r s') pl.isList (by omega) (by rw [List.size_toArray] <;> omega) (by omega) (by rw [hj]; simpa using ew) ⟨rfl, fin⟩) hs
theorem ix_tup : IxR X (rIxT X.K) := by
  intro value slice pins s σ H x y v u Q I rx ry h hs
  obtain ⟨p, xs, i, z, rfl, rfl, hq, he, q⟩ := h
  cases rx
  obtain ⟨t, rfl⟩ := ry
  obtain ⟨its, r, pl, hz⟩ := I.tuple hq
  obtain ⟨j, h1, h2, h3, h4, h5⟩ := atI_get he
  obtain ⟨w, ew, rw'⟩ := r.get h2
  have hl := r.length
  have hn := line63
  have fin : EP X pins σ Q w s := ⟨z, H, I, rw', q⟩
  exact subscriptTail_builtinR (x := w) pl.typeIs slot_tuple_getitem.lookup
    (getItem_tuple (j := j) (Q := fun r s' => r = w ∧ EP X pins σ Q r s') pl (by omega) (by omega) (by rw [List.size_toArray, ← hl]; exact h1) (by simpa using ew) ⟨rfl, fin⟩) hs
theorem ix_str : IxR X rIxS := by
  intro value slice pins s σ H x y v u Q I rx ry h hs
  obtain ⟨z, i, c, rfl, rfl, hz, he, q⟩ := h
  obtain ⟨t, rfl⟩ := rx
  obtain ⟨t', rfl⟩ := ry
  obtain ⟨j, h1, h2, h3, h4, h5⟩ := atI_get he
  have hl : z.cps.toList.length = z.length := by simp [Str.length]
  rw [hl] at h1 h4 h5
  have hn := line63
  exact tail_any (typeIs_str s z t) slot_str_getitem.lookup (getItem_str (c := c) (by
    have e1 : decide (i < -(2 ^ 63 : Int)) = false := decide_eq_false (by omega)
    have e2 : decide (i ≥ 2 ^ 63) = false := decide_eq_false (by omega)
    rw [e1, e2, Bool.or_false]) (by rw [h1]; simpa using h2) ⟨.str ⟨#[c]⟩, H, I.tok _, ⟨_, rfl⟩, q⟩) hs
def rIx (K : PySem.W.Frag) : R2 := fun x y H Q => rIxL K x y H Q ∨ rIxT K x y H Q ∨ rIxS x y H Q
theorem ix_seq : IxR X (rIx X.K) := ix_list.or (ix_tup.or ix_str)
theorem mapSeq_set (its : List Value) (n j : Nat) (u : Value) : Obj.mapSeq (·.setIfInBounds j u) { cls := .type "list", data := .seq its.toArray n } = { cls := .type "list", data := .seq (its.set j u).toArray n } := by
  simp [Obj.mapSeq]
theorem Inv.lst {pins : List (Addr × Obj)} {σ : St} {H : Hp} {s : Shared} {p : Addr} {xs : List V} (I : Inv X pins σ H s) (h : H p = some (.lst xs)) :
    ∃ (its : List Value) (n : Nat), Vals xs its ∧ s.heap.get? p = some { cls := .type "list", data := .seq its.toArray n } ∧ xs.length ≤ sizeLine := by
  obtain ⟨z, its, n, r, e⟩ := I.hok p _ h
  exact ⟨its, n, r, e, z⟩
theorem Inv.lstUpd {pins : List (Addr × Obj)} {σ : St} {H : Hp} {s : Shared} {p : Addr} {xs ys : List V} {its its' : List Value} {n n' : Nat} {f : Obj → Obj} (I : Inv X pins σ H s) (h : H p = some (.lst xs))
    (ho : s.heap.get? p = some { cls := .type "list", data := .seq its.toArray n }) (hf : f { cls := .type "list", data := .seq its.toArray n } = { cls := .type "list", data := .seq its'.toArray n' }) (r : Vals ys its') (hz : ys.length ≤ sizeLine) (t : Nat) :
    Inv X pins σ (upd H p (.lst ys)) { s with heap := s.heap.update p f, toks := t } := by
  have e : (s.heap.update p f).get? p = some { cls := .type "list", data := .seq its'.toArray n' } := by
    rw [Heap.get?_update_self f ho (by rw [hf] <;> rfl), hf]
  refine I.write (x := p) (e := p) (by rw [h]; trivial) (.inl rfl) (fun b u hb q => (Heap.get?_update_other _ _ (Ne.symm hb)).trans q) ⟨_, e⟩ ?_
  exact ⟨hz, its', n', r, e⟩
def rSetL : V → V → V → Hp → (Hp → Prop) → Prop := fun o i v H Q => ∃ p xs k j, o = .ref p ∧ i = .int k ∧ H p = some (.lst xs) ∧ ixN xs.length k = some j ∧ Q (upd H p (.lst (xs.set j v)))
theorem set_list : PSet X rSetL := by
  intro pins s σ H o i v ov iv u Q I ro ri rv h
  obtain ⟨p, xs, k, j, rfl, rfl, hp, hj, q⟩ := h
  cases ro
  obtain ⟨t, rfl⟩ := ri
  obtain ⟨its, n, r, ho, hz⟩ := I.lst hp
  obtain ⟨h1, h2, h3, h4⟩ := ixN_seq hj
  have hl := r.length
  have hn := line63
  have I' : Inv X pins σ (upd H p (.lst (xs.set j v))) { s with heap := s.heap.update p (Obj.mapSeq (·.setIfInBounds j u)) } :=
    I.lstUpd hp ho (mapSeq_set its n j u) (r.set rv j) (by rw [List.length_set]; exact hz) s.toks
  by_cases h0 : 0 ≤ k
  · have hk : k.toNat = j := by
      rw [seqIndex_of h0 h4] at h1
      exact Option.some.inj h1
    exact PySem.W.ki_setAt ho h0 (by omega) (by rw [List.size_toArray, ← hl]; exact h4) (by rw [hk]; exact ⟨_, I', q⟩)
  · have hk : (k + (its.toArray.size : Int)).toNat = j := by
      rw [seqIndex_neg (by omega) h3] at h1
      rw [List.size_toArray, ← hl]
      exact Option.some.inj h1
    exact PySem.W.ki_setBack ho (by omega) (by rw [List.size_toArray, ← hl]; exact h3) (by omega) (by rw [hk]; exact ⟨_, I', q⟩)
theorem slice_bounds (lo hi : Option Int) (n : Nat) : (sliceBounds lo hi none n).1 = ((HT.sIx n 0 lo : Nat) : Int) ∧ (sliceBounds lo hi none n).2.1 = ((HT.sIx n n hi : Nat) : Int) ∧ (sliceBounds lo hi none n).2.2 = 1 := by
  refine ⟨?_, ?_, rfl⟩
  · cases lo with
    | none => simp [sliceBounds, HT.sIx]
    | some i =>
      simp only [sliceBounds, HT.sIx, Option.getD_none, show (1 : Int) > 0 by decide, if_true]
      by_cases h : i < 0
      · simp only [h, if_true] <;> omega
      · simp only [h, if_false] <;> omega
  · cases hi with
    | none => simp [sliceBounds, HT.sIx]
    | some i =>
      simp only [sliceBounds, HT.sIx, Option.getD_none, show (1 : Int) > 0 by decide, if_true]
      by_cases h : i < 0
      · simp only [h, if_true] <;> omega
      · simp only [h, if_false] <;> omega
theorem slicePick_cut (its : List Value) (lo hi : Option Int) : slicePick its.toArray lo hi none = ((its.drop (HT.sIx its.length 0 lo)).take (HT.sIx its.length its.length hi - HT.sIx its.length 0 lo)).toArray := by
  obtain ⟨h1, h2, h3⟩ := slice_bounds lo hi its.toArray.size
  unfold slicePick
  rw [h1, h2, h3]
  simp only [sliceRange_one, pick_run, List.size_toArray] <;> rfl
def rSlL (K : PySem.W.Frag) : V → Option Int → Option Int → Hp → VK → Prop := fun x lo hi H Q => ∃ a xs, x = .ref a ∧ SqL K H a xs ∧ ∀ p, H p = none → Q (.ref p) (upd H p (.lst (cutV xs lo hi)))
theorem sl_list : SlR X (rSlL X.K) := by
  intro pins s σ H x v vl vu lo hi sl Q I rx hs pl pu h
  obtain ⟨a, xs, rfl, hx, q⟩ := h
  cases rx
  obtain ⟨its, r, ht, hz⟩ := I.list hx
  have hlen := r.length
  refine ⟨"list", _, slot_list_getitem.lookup, ht.isList.typeIs, ?_⟩
  refine wpAny_getItem_list_slice ht.isList hs pl pu .none (by simp) ?_ (by rw [List.size_toArray] <;> omega)
  rw [slicePick_cut, ← hlen]
  refine ⟨.ref s.heap.objs.size, _, I.laid (t' := s.toks) (o := .lst (cutV xs lo hi)) (fun b ob q => Heap.get?_push_of_some _ q) (Nat.le_refl _) ?_, rfl, q _ (I.hok.fresh (Nat.le_refl _))⟩
  exact ⟨Nat.le_trans (cutV_length xs lo hi) hz, _, 0, (r.drop (HT.sIx xs.length 0 lo)).take (HT.sIx xs.length xs.length hi - HT.sIx xs.length 0 lo), Heap.get?_push_size _ rfl⟩
def flatV : V → Bool
  | .non => true
  | .bl _ => true
  | .int _ => true
  | .str _ => true
  | _ => false
def eqV : V → V → Bool
  | .non, .non => true
  | .bl a, .bl b => a == b
  | .bl a, .int b => (if a then 1 else 0) == b
  | .int a, .bl b => a == (if b then 1 else 0)
  | .int a, .int b => a == b
  | .str a, .str b => a == b
  | _, _ => false
theorem eqAt_V {A : Around} {s : Shared} {y x : V} {u v : Value} (ry : RelV y u) (rx : RelV x v) (fy : flatV y = true) (fx : flatV x = true) : SeqAt.EqAt A s u v (eqV y x) := by
  cases y with
  | non =>
    cases ry
    cases x with
    | non => cases rx; exact SeqAt.EqAt.same _
    | bl b => cases rx; exact SeqAt.EqAt.none_bool b
    | int b => obtain ⟨t, rfl⟩ := rx; exact SeqAt.EqAt.none_int b t
    | str b => obtain ⟨t, rfl⟩ := rx; exact SeqAt.EqAt.none_str b t
    | _ => exact absurd (show false = true from fx) Bool.false_ne_true
  | bl a =>
    cases ry
    cases x with
    | non => cases rx; exact SeqAt.EqAt.bool_none a
    | bl b => cases rx; exact SeqAt.EqAt.bool_bool a b
    | int b => obtain ⟨t, rfl⟩ := rx; exact SeqAt.EqAt.bool_int a b t
    | str b => obtain ⟨t, rfl⟩ := rx; exact SeqAt.EqAt.bool_str a b t
    | _ => exact absurd (show false = true from fx) Bool.false_ne_true
  | int a =>
    obtain ⟨t', rfl⟩ := ry
    cases x with
    | non => cases rx; exact SeqAt.EqAt.int_none a t'
    | bl b => cases rx; exact SeqAt.EqAt.int_bool a t' b
    | int b => obtain ⟨t, rfl⟩ := rx; exact SeqAt.EqAt.int_int a t' b t
    | str b => obtain ⟨t, rfl⟩ := rx; exact SeqAt.EqAt.int_str a t' b t
    | _ => exact absurd (show false = true from fx) Bool.false_ne_true
  | str a =>
    obtain ⟨t', rfl⟩ := ry
    cases x with
    | non => cases rx; exact SeqAt.EqAt.str_none a t'
    | bl b => cases rx; exact SeqAt.EqAt.str_bool a t' b
    | int b => obtain ⟨t, rfl⟩ := rx; exact SeqAt.EqAt.str_int a t' b t
    | str b => obtain ⟨t, rfl⟩ := rx; exact SeqAt.EqAt.str_str a t' b t
    | _ => exact absurd (show false = true from fx) Bool.false_ne_true
  | _ => exact absurd (show false = true from fy) Bool.false_ne_true
def eqU (x : V) (u : Value) : Bool := match u with
  | .none => eqV .non x
  | .bool b => eqV (.bl b) x
  | .int i _ => eqV (.int i) x
  | .str z _ => eqV (.str z) x
  | _ => false
theorem eqU_of {x y : V} {u : Value} (r : RelV y u) (f : flatV y = true) : eqU x u = eqV y x := by
  cases y with
  | non => cases r; rfl
  | bl b => cases r; rfl
  | int i => obtain ⟨t, rfl⟩ := r; rfl
  | str z => obtain ⟨t, rfl⟩ := r; rfl
  | _ => exact absurd (show false = true from f) Bool.false_ne_true
theorem any_eqU {x : V} : ∀ {xs : List V} {us : List Value}, Vals xs us → xs.all flatV = true → us.any (eqU x) = xs.any fun y => eqV y x
  | _, _, .nil, _ => rfl
  | y :: xs, u :: us, .cons r t, f => by
    rw [List.all_cons, Bool.and_eq_true] at f
    rw [List.any_cons, List.any_cons, eqU_of r f.1, any_eqU t f.2]
theorem mem_eqAt {A : Around} {s : Shared} {x : V} {v : Value} (rx : RelV x v) (fx : flatV x = true) : ∀ {xs : List V} {us : List Value}, Vals xs us → xs.all flatV = true → ∀ u ∈ us, SeqAt.EqAt A s u v (eqU x u)
  | _, _, .nil, _ => fun u hu => by cases hu
  | y :: xs, u :: us, .cons r t, f => fun u' hu => by
    rw [List.all_cons, Bool.and_eq_true] at f
    rcases List.mem_cons.mp hu with rfl | hu
    · rw [eqU_of r f.1]; exact eqAt_V r rx f.1 fx
    · exact mem_eqAt rx fx t f.2 u' hu
def inV (x : V) (xs : List V) : Bool := xs.any fun y => eqV y x
def rIn (K : PySem.W.Frag) (neg : Bool) : R2 := fun x y H Q => ∃ p xs, y = .ref p ∧ (SqL K H p xs ∨ SqT K H p xs) ∧ flatV x = true ∧ xs.all flatV = true ∧ Q (.bl (if neg then !inV x xs else inV x xs)) H
theorem op_in_seq : OpR X (compareOp .In) (rIn X.K false) := by
  intro pins s σ H x y v u Q I rx ry h
  obtain ⟨p, xs, rfl, hq, fx, fs, q⟩ := h
  cases ry
  rcases hq with hq | hq
  · obtain ⟨its, r, pl, hz⟩ := I.list hq
    refine SeqAt.in_listAt (eqU x) pl.isList (fun w hw => mem_eqAt rx fx r fs w (by simpa using hw)) ⟨.bl _, H, I, rfl, ?_⟩
    rw [show its.toArray.any (eqU x) = its.any (eqU x) by simp, any_eqU r fs]
    exact q
  · obtain ⟨its, r, pl, hz⟩ := I.tuple hq
    refine SeqAt.in_tupleAt (eqU x) pl (fun w hw => mem_eqAt rx fx r fs w (by simpa using hw)) ⟨.bl _, H, I, rfl, ?_⟩
    rw [show its.toArray.any (eqU x) = its.any (eqU x) by simp, any_eqU r fs]
    exact q
theorem op_notIn_seq : OpR X (compareOp .NotIn) (rIn X.K true) := by
  intro pins s σ H x y v u Q I rx ry h
  obtain ⟨p, xs, rfl, hq, fx, fs, q⟩ := h
  cases ry
  rcases hq with hq | hq
  · obtain ⟨its, r, pl, hz⟩ := I.list hq
    refine SeqAt.notIn_listAt (eqU x) pl.isList (fun w hw => mem_eqAt rx fx r fs w (by simpa using hw)) ⟨.bl _, H, I, rfl, ?_⟩
    rw [show its.toArray.any (eqU x) = its.any (eqU x) by simp, any_eqU r fs]
    exact q
  · obtain ⟨its, r, pl, hz⟩ := I.tuple hq
    refine SeqAt.notIn_tupleAt (eqU x) pl (fun w hw => mem_eqAt rx fx r fs w (by simpa using hw)) ⟨.bl _, H, I, rfl, ?_⟩
    rw [show its.toArray.any (eqU x) = its.any (eqU x) by simp, any_eqU r fs]
    exact q
theorem op_notIn_str : OpR X (compareOp .NotIn) (fun x y H Q => ∃ i j, x = .str i ∧ y = .str j ∧ Q (.bl (!(!(Builtin.Str.occurrences j i 0 j.length 1).isEmpty))) H) := by
  intro pins s σ H x y v u Q I rx ry h
  obtain ⟨i, j, rfl, rfl, q⟩ := h
  obtain ⟨t, rfl⟩ := rx
  obtain ⟨t', rfl⟩ := ry
  exact notIn_str ⟨.bl _, H, I, rfl, q⟩
theorem call_len_seq : CallR X (.builtin "len") (fun xs H Q => ∃ p ys, xs = [.ref p] ∧ (SqL X.K H p ys ∨ SqT X.K H p ys) ∧ Q (.int ys.length) H) := by
  intro pins s σ H xs us Q I r h
  obtain ⟨p, ys, rfl, hq, q⟩ := h
  obtain ⟨u, rfl, rx⟩ := vals1 r
  cases rx
  have hn := line63
  rcases hq with hq | hq
  · obtain ⟨its, r', pl, hz⟩ := I.list hq
    have hlen := r'.length
    exact Calls.call_len_list pl.isList (by simp only [List.size_toArray] <;> omega) ⟨.int ys.length, H, I.tok _, ⟨s.toks + 1, by rw [List.size_toArray, hlen]⟩, q⟩
  · obtain ⟨its, r', pl, hz⟩ := I.tuple hq
    have hlen := r'.length
    exact len_tuple pl (by simp only [List.size_toArray] <;> omega) ⟨.int ys.length, H, I.tok _, ⟨s.toks + 1, by rw [List.size_toArray, hlen]⟩, q⟩
theorem call_len_str : CallR X (.builtin "len") (fun xs H Q => ∃ z, xs = [.str z] ∧ z.length ≤ sizeLine ∧ Q (.int z.length) H) := by
  intro pins s σ H xs us Q I r h
  obtain ⟨z, rfl, hz, q⟩ := h
  obtain ⟨u, rfl, t, rfl⟩ := vals1 r
  have hn := line63
  exact len_str (by omega) ⟨.int z.length, H, I.tok _, ⟨_, rfl⟩, q⟩
theorem CallR.or {f : Value} {r r' : List V → Hp → VK → Prop} (h : CallR X f r) (h' : CallR X f r') : CallR X f (fun xs H Q => r xs H Q ∨ r' xs H Q) := by
  intro pins s σ H xs us Q I rs q
  rcases q with q | q
  · exact h pins s σ H xs us Q I rs q
  · exact h' pins s σ H xs us Q I rs q
theorem call_list_of : CallR X (.type "list") (fun xs H Q => ∃ p ys, xs = [.ref p] ∧ (SqL X.K H p ys ∨ SqT X.K H p ys) ∧ ∀ l, H l = none → Q (.ref l) (upd H l (.lst ys))) := by
  intro pins s σ H xs us Q I r h
  obtain ⟨p, ys, rfl, hq, q⟩ := h
  obtain ⟨u, rfl, rx⟩ := vals1 r
  cases rx
  have fin : ∀ (its : List Value), Vals ys its → ys.length ≤ sizeLine → ∀ (h' : Heap) (c' : Nat), (∀ b o', s.heap.get? b = some o' → h'.get? b = some o') →
      h'.get? s.heap.objs.size = some { cls := .type "list", dict := none, data := .seq its.toArray c', slots := #[] } → EP X pins σ Q (.ref s.heap.objs.size) { s with heap := h' } := fun its r' hz h' c' kp e =>
    ⟨.ref s.heap.objs.size, _, I.laid (t' := s.toks) kp (Nat.le_refl _) (show ObjOk X.prog X.w _ h' _ (.lst ys) from ⟨hz, its, c', r', e⟩), rfl, q _ (I.hok.fresh (Nat.le_refl _))⟩
  rcases hq with hq | hq
  · obtain ⟨its, r', pl, hz⟩ := I.list hq
    have hlen := r'.length
    obtain ⟨o, ho, hc, n, hd⟩ := pl.isList
    exact call_list_seq p (.inl rfl) ho hc hd (fun h' c' kp e => fin its r' hz h' c' kp e) (by simp only [List.size_toArray] <;> omega)
  · obtain ⟨its, r', pl, hz⟩ := I.tuple hq
    have hlen := r'.length
    obtain ⟨o, ho, hc, n, hd⟩ := pl
    exact call_list_seq p (.inr rfl) ho hc hd (fun h' c' kp e => fin its r' hz h' c' kp e) (by simp only [List.size_toArray] <;> omega)
theorem call_tuple_of : CallR X (.type "tuple") (fun xs H Q => ∃ p ys, xs = [.ref p] ∧ ((SqL X.K H p ys ∧ ∀ l, H l = none → Q (.ref l) (upd H l (.tup ys))) ∨ (SqT X.K H p ys ∧ Q (.ref p) H))) := by
  intro pins s σ H xs us Q I r h
  obtain ⟨p, ys, rfl, h⟩ := h
  obtain ⟨u, rfl, rx⟩ := vals1 r
  cases rx
  rcases h with ⟨hq, q⟩ | ⟨hq, q⟩
  · obtain ⟨its, r', pl, hz⟩ := I.list hq
    have hlen := r'.length
    refine call_tuple_list pl.isList (fun h' kp => ?_) (by simp only [List.size_toArray] <;> omega)
    have I1 : Inv X pins σ H { s with heap := h' } := I.kept (t' := s.toks) kp
    have I2 : Inv X pins σ (upd H h'.objs.size (.tup ys)) { s with heap := h'.push { cls := .type "tuple", data := .seq its.toArray } } :=
      I1.laid (t' := s.toks) (fun b o e => Heap.get?_push_of_some _ e) (Nat.le_refl _) (show ObjOk X.prog X.w _ _ _ (.tup ys) from ⟨hz, its, r', IsTup.new _ _⟩)
    exact ⟨.ref h'.objs.size, _, I2, rfl, q _ (I1.hok.fresh (Nat.le_refl _))⟩
  · obtain ⟨its, r', pl, hz⟩ := I.tuple hq
    exact call_tuple_same pl ⟨.ref p, H, I, rfl, q⟩
def tyV (K : PySem.W.Frag) (T : String) (x : V) (H : Hp) : Prop := match x with
  | .str _ => T = "str"
  | .int _ => T = "int"
  | .ref p => (T = "list" ∧ ∃ xs, SqL K H p xs) ∨ (T = "tuple" ∧ ∃ o, K.lookup p = some o ∧ o.cls = .type "tuple" ∧ o.dict = none) ∨
      (T = "dict" ∧ ((∃ kvs, H p = some (.dK kvs)) ∨ ∃ kvs, H p = some (.dT kvs))) ∨ (T = "set" ∧ ∃ S n, H p = some (.set S n))
  | _ => False
theorem tyV_is {pins : List (Addr × Obj)} {σ : St} {H : Hp} {s : Shared} {T : String} {x : V} {v : Value} (I : Inv X pins σ H s) (r : RelV x v) (ty : tyV X.K T x H) :
    s.TypeIs v T ∧ ∀ a, v = .ref a → ∃ ob, s.heap.get? a = some ob ∧ ob.dict = none := by
  cases x with
  | str z =>
    obtain ⟨t, rfl⟩ := r
    cases (show T = "str" from ty)
    exact ⟨typeIs_str s z t, fun _ e => nomatch e⟩
  | int i =>
    obtain ⟨t, rfl⟩ := r
    cases (show T = "int" from ty)
    exact ⟨typeIs_int s i t, fun _ e => nomatch e⟩
  | ref p =>
    cases r
    rcases ty with ⟨rfl, xs, hq⟩ | ⟨rfl, o, hk, hc, hd⟩ | ⟨rfl, hk⟩ | ⟨rfl, S, n, hk⟩
    · obtain ⟨its, _, pl, _⟩ := I.list hq
      refine ⟨pl.isList.typeIs, fun a e => ?_⟩
      cases e
      obtain ⟨o, n, e, c, hd, _⟩ := pl
      exact ⟨o, e, hd⟩
    · refine ⟨⟨o, I.kIn p o hk, hc⟩, fun a e => ?_⟩
      cases e
      exact ⟨o, I.kIn _ o hk, hd⟩
    · have z : ∃ o, s.heap.get? p = some o ∧ o.ExactDict := by
        rcases hk with ⟨kvs, hk⟩ | ⟨kvs, hk⟩
        · obtain ⟨_, _, _, _, o, _, _, e, ex, _⟩ := I.hok p _ hk
          exact ⟨o, e, ex⟩
        · obtain ⟨_, _, _, _, o, _, _, e, ex, _⟩ := I.hok p _ hk
          exact ⟨o, e, ex⟩
      obtain ⟨o, e, ex⟩ := z
      refine ⟨⟨o, e, ex.1⟩, fun a e2 => ?_⟩
      cases e2
      exact ⟨o, e, ex.2.1⟩
    · obtain ⟨o, _, _, _, e, ex, _⟩ := I.hok p _ hk
      refine ⟨⟨o, e, ex.1⟩, fun a e2 => ?_⟩
      cases e2
      exact ⟨o, e, ex.2.1⟩
  | _ => exact False.elim ty
def tBM0 (K : PySem.W.Frag) (T : String) (r : V → List V → Hp → VK → Prop) (to : TE) : TE := fun σ H Q => to σ H fun x H1 => tyV K T x H1 ∧ r x [] H1 Q
def tBM (K : PySem.W.Frag) (T : String) (r : V → List V → Hp → VK → Prop) (to : TE) (t : TA) : TE := fun σ H Q => to σ H fun x H1 => tyV K T x H1 ∧ t σ H1 fun xs H2 => r x xs H2 Q
variable {o e : Expr} {es : List Expr} {to : TE} {t : TA} {name : Str} {apos cpos : Pos} {T id : String} {r : V → List V → Hp → VK → Prop}
theorem pe_bm0 (pa : PlainAttrs T) (slot : Slot T name id) (hty : typeOf (.builtin id) = pure (.type "method_descriptor")) (hm : MtR X id r) (ho : PE X o to)
    (hbase : attributeBase o name X.env (eval o X.env) = eval o X.env := by rfl) (hline : (apos.endLine == cpos.line) = true := by rfl) : PE X (.Call (.Attribute o name apos) [] [] cpos) (tBM0 X.K T r to) := by
  intro pins s σ H Q I h
  refine wpAny_Call_method0_late hbase hline (thn (ho pins s σ H _ I h) fun v s1 ⟨x, H1, I1, r1, ty, q1⟩ => ?_)
  obtain ⟨h1, h2⟩ := tyV_is I1 r1 ty
  exact ⟨T, id, pa, slot, hty, h1, h2, Calls.callWith_builtin rfl (PySem.evalArgs_none (hm pins s1 σ H1 x [] v [] Q I1 r1 .nil q1))⟩
theorem pe_bm (pa : PlainAttrs T) (slot : Slot T name id) (hty : typeOf (.builtin id) = pure (.type "method_descriptor")) (hm : MtR X id r) (ho : PE X o to) (ha : PA X (e :: es) t)
    (hbase : attributeBase o name X.env (eval o X.env) = eval o X.env := by rfl)
    (hfew : ((backTo cpos (starEach (e :: es) X.env)).all (fun x => !x.1) && (backToKw cpos (keywordEach [] X.env)).all (fun x => x.1.isSome)
      && decide ((e :: es).length + ([] : List Keyword).length + (if ([] : List Keyword).isEmpty then 0 else 1) < 30)) = true := by rfl)
    (hline : (apos.endLine == cpos.line) = true := by rfl) (hs : starEach (e :: es) X.env = (false, eval e X.env) :: starEach es X.env := by rfl) (hplain : (backTo cpos (starEach es X.env)).any (·.1) = false := by rfl) :
    PE X (.Call (.Attribute o name apos) (e :: es) [] cpos) (tBM X.K T r to t) := by
  intro pins s σ H Q I h
  refine wpAny_Call_method_late hbase hfew hline rfl (thn (ho pins s σ H _ I h) fun v s1 ⟨x, H1, I1, r1, ty, q1⟩ => ?_)
  obtain ⟨h1, h2⟩ := tyV_is I1 r1 ty
  refine ⟨T, id, pa, slot, hty, h1, h2, ?_⟩
  have hA := ha cpos pins s1 σ H1 _ I1 q1
  rw [hs] at hA ⊢
  refine Calls.callWith_builtin (by show (false || (backTo cpos (starEach es X.env)).any (·.1)) = false; rw [hplain] <;> rfl) (Calls.evalArgs_plain ?_)
  exact thn hA fun us s2 ⟨vs, H2, I2, r2, q2⟩ => hm pins s2 σ H2 x vs v us Q I2 r1 r2 q2
end
end L2
namespace L2
open PySem PySem.Spec PyProof.Rows
def MtM (X : Cx) (id : String) (r : V → List V → Hp → VK → Prop) : Prop :=
  ∀ (pins : List (Addr × Obj)) (s : Shared) (σ : St) (H : Hp) (x : V) (xs : List V) (v : Value) (us : List Value) (Q : VK), Inv X pins σ H s → RelV x v → Vals xs us → r x xs H Q →
    wpAny (model X.prog X.w) X.A (call (.builtin id) (v :: us)) (EP X pins σ Q) X.xe s
theorem Vals.one : ∀ {x : V} {us : List Value}, Vals [x] us → ∃ u, us = [u] ∧ RelV x u
  | _, _, .cons r .nil => ⟨_, rfl, r⟩
theorem Vals.two : ∀ {x y : V} {us : List Value}, Vals [x, y] us → ∃ u v, us = [u, v] ∧ RelV x u ∧ RelV y v
  | _, _, _, .cons r (.cons q .nil) => ⟨_, _, rfl, r, q⟩
theorem Vals.zero : ∀ {us : List Value}, Vals [] us → us = []
  | _, .nil => rfl
theorem Vals.dropLast {xs : List V} {us : List Value} (h : Vals xs us) : Vals xs.dropLast us.dropLast := by
  induction h with
  | nil => exact .nil
  | cons r t ih =>
    cases t with
    | nil => exact .nil
    | cons q t' => exact .cons r ih
theorem Vals.eraseIdx : ∀ {xs : List V} {us : List Value} (i : Nat), Vals xs us → Vals (xs.eraseIdx i) (us.eraseIdx i)
  | _, _, _, .nil => .nil
  | _, _, 0, .cons _ t => t
  | _, _, i + 1, .cons r t => .cons r (Vals.eraseIdx i t)
theorem Vals.reverse {xs : List V} {us : List Value} (h : Vals xs us) : Vals xs.reverse us.reverse := by
  induction h with
  | nil => exact .nil
  | cons r t ih => rw [List.reverse_cons, List.reverse_cons]; exact Vals.append ih (.cons r .nil)
theorem Vals.rep {xs : List V} {us : List Value} (h : Vals xs us) : ∀ k : Nat, Vals (List.replicate k xs).flatten (List.replicate k us).flatten
  | 0 => .nil
  | k + 1 => by
    rw [List.replicate_succ, List.replicate_succ, List.flatten_cons, List.flatten_cons]
    exact Vals.append h (Vals.rep h k)
theorem erase_last {α : Type} (l : List α) : l.eraseIdx (l.length - 1) = l.dropLast := by
  induction l with
  | nil => rfl
  | cons a r ih =>
    cases r with
    | nil => rfl
    | cons b r =>
      have e : (a :: b :: r).length - 1 = ((b :: r).length - 1) + 1 := by
        have h1 : (a :: b :: r).length = r.length + 2 := rfl
        have h2 : (b :: r).length = r.length + 1 := rfl
        omega
      rw [e, List.eraseIdx_cons_succ, ih]
      all_goals rfl
theorem len_erase {α : Type} : ∀ (l : List α) (i : Nat), (l.eraseIdx i).length ≤ l.length
  | [], _ => Nat.le_refl _
  | _ :: _, 0 => Nat.le_succ _
  | _ :: r, i + 1 => Nat.succ_le_succ (len_erase r i)
theorem foldl_rep (its : List Value) : ∀ (k : Nat) (acc : List Value),
    List.foldl (fun x1 x2 => x1 ++ x2) acc.toArray (List.replicate k its.toArray) = (acc ++ (List.replicate k its).flatten).toArray
  | 0, acc => by simp
  | k + 1, acc => by
    have e : acc.toArray ++ its.toArray = (acc ++ its).toArray := by simp
    have e2 : (acc ++ its) ++ (List.replicate k its).flatten = acc ++ (List.replicate (k + 1) its).flatten := by
      rw [List.replicate_succ, List.flatten_cons, List.append_assoc]
    rw [← e2, ← foldl_rep its k (acc ++ its), ← e, List.replicate_succ, List.foldl_cons]
section
variable {X : Cx} {pins : List (Addr × Obj)} {σ : St} {H : Hp} {s : Shared} {l b : Addr} {xs ys zs : List V}
theorem Inv.lset {its its' : List Value} {n : Nat} {f : Array Value → Array Value} {t' : Nat} (I : Inv X pins σ H s) (hH : H l = some (.lst xs))
    (e : s.heap.get? l = some { cls := .type "list", data := .seq its.toArray n }) (hf : f its.toArray = its'.toArray) (hv : Vals ys its') (hz : ys.length ≤ sizeLine) :
    Inv X pins σ (upd H l (.lst ys)) { s with heap := s.heap.update l (Obj.mapSeq f), toks := t' } := by
  have q := PySem.IsL.update e f
  rw [hf] at q
  refine I.write (x := l) (e := l) (by rw [hH]; exact trivial) (.inl rfl) (fun b' u hb hu => (Heap.get?_update_other s.heap (Obj.mapSeq f) (Ne.symm hb)).trans hu) ⟨_, q⟩ ?_
  exact ⟨hz, its', _, hv, q⟩
theorem Inv.lnew {its : List Value} {t' : Nat} (I : Inv X pins σ H s) (hv : Vals ys its) (hz : ys.length ≤ sizeLine) :
    Inv X pins σ (upd H s.heap.objs.size (.lst ys)) { s with heap := s.heap.push { cls := .type "list", data := .seq its.toArray }, toks := t' } :=
  I.laid (fun _ _ q => Heap.get?_push_of_some _ q) (Nat.le_refl _) ⟨hz, its, 0, hv, Heap.get?_push_size _ rfl⟩
theorem Inv.fresh (I : Inv X pins σ H s) : H s.heap.objs.size = none := I.hok.fresh (Nat.le_refl _)
theorem Inv.lstM (I : Inv X pins σ H s) (hH : H l = some (.lst xs)) : xs.length ≤ sizeLine ∧ ∃ (its : List Value) (n : Nat), Vals xs its ∧ xs.length = its.length ∧ s.heap.get? l = some { cls := .type "list", data := .seq its.toArray n } := by
  obtain ⟨z, its, n, r, e⟩ := I.hok l _ hH
  exact ⟨z, its, n, r, r.length, e⟩
theorem notLongL {n : Nat} (h : n ≤ sizeLine) : Builtin.List.listTooLong n = false := by
  unfold Builtin.List.listTooLong
  exact decide_eq_false (by omega)
end
section
variable {X : Cx}
def rAppend : V → List V → Hp → VK → Prop := fun x vs H Q => ∃ l xs y, x = .ref l ∧ vs = [y] ∧ H l = some (.lst xs) ∧ xs.length < sizeLine ∧ Q .non (upd H l (.lst (xs ++ [y])))
theorem mt_append : MtM X "list.append" rAppend := by
  intro pins s σ H x vs v us Q I rx rv h
  obtain ⟨l, xs, y, rfl, rfl, hH, hz, q⟩ := h
  cases rx
  obtain ⟨u, rfl, ru⟩ := rv.one
  obtain ⟨z, its, n, r, hl, e⟩ := I.lstM hH
  refine call_meets F.slot_list_append ⟨_, e, rfl⟩ F.entry_list_append (F.args_list_append_2 _ _) (PySem.list_append l its.toArray n u (by rw [List.size_toArray]; omega)) ⟨e, ?_⟩
  refine ⟨.non, _, I.lset (its' := its ++ [u]) hH e (by simp) (r.append (.cons ru .nil)) ?_, rfl, q⟩
  rw [List.length_append, List.length_singleton]
  omega
def rExtend : V → List V → Hp → VK → Prop := fun x vs H Q => ∃ l b xs zs, x = .ref l ∧ vs = [.ref b] ∧ H l = some (.lst xs) ∧ H b = some (.lst zs) ∧ xs.length + zs.length ≤ sizeLine ∧ Q .non (upd H l (.lst (xs ++ zs)))
theorem mt_extend : MtM X "list.extend" rExtend := by
  intro pins s σ H x vs v us Q I rx rv h
  obtain ⟨l, b, xs, zs, rfl, rfl, hH, hB, hz, q⟩ := h
  cases rx
  obtain ⟨u, rfl, ru⟩ := rv.one
  cases ru
  obtain ⟨z, its, n, r, hl, e⟩ := I.lstM hH
  obtain ⟨z2, its2, n2, r2, hl2, e2⟩ := I.lstM hB
  have hsz : its.toArray.size + its2.toArray.size ≤ sizeLine := by rw [List.size_toArray, List.size_toArray]; omega
  have hlong : ¬ (!its.toArray.isEmpty && Builtin.List.listTooLong (its.toArray.size + its2.toArray.size)) = true := by
    rw [notLongL hsz, Bool.and_false]
    exact Bool.false_ne_true
  refine call_meets F.slot_list_extend ⟨_, e, rfl⟩ F.entry_list_extend (F.args_list_extend_2 _ _)
    (AutoSeq1.list_extend_list_list_0 l its.toArray n b its2.toArray n2 hlong (by rw [List.size_toArray]; omega) (by omega)) ⟨e, e2, ?_⟩
  refine ⟨.non, _, I.lset (its' := its ++ its2) hH e (by simp) (r.append r2) ?_, rfl, q⟩
  rw [List.length_append]
  omega
def rPop : V → List V → Hp → VK → Prop := fun x vs H Q => ∃ l xs y, x = .ref l ∧ vs = [] ∧ H l = some (.lst xs) ∧ xs[xs.length - 1]? = some y ∧ Q y (upd H l (.lst xs.dropLast))
theorem mt_pop : MtM X "list.pop" rPop := by
  intro pins s σ H x vs v us Q I rx rv h
  obtain ⟨l, xs, y, rfl, rfl, hH, hy, q⟩ := h
  cases rx
  have hus := rv.zero
  subst hus
  obtain ⟨z, its, n, r, hl, e⟩ := I.lstM hH
  obtain ⟨u, hu, ru⟩ := r.get hy
  have hy' : its.toArray[its.toArray.size - 1]? = some u := by
    show its.toArray[its.length - 1]? = some u
    rw [← Array.getElem?_toList, ← hl]
    exact hu
  refine call_meets F.slot_list_pop ⟨_, e, rfl⟩ F.entry_list_pop (F.args_list_pop_1 _) (MeetsSeq.list_pop_last l its.toArray n u hy' (by rw [List.size_toArray]; omega)) ⟨e, ?_⟩
  refine ⟨y, _, I.lset (its' := its.dropLast) hH e ?_ r.dropLast ?_, ru, q⟩
  · show its.toArray.eraseIdxIfInBounds (its.toArray.size - 1) = its.dropLast.toArray
    rw [List.size_toArray, List.eraseIdxIfInBounds_toArray, erase_last]
  · rw [List.length_dropLast]
    omega
def rPopAt : V → List V → Hp → VK → Prop := fun x vs H Q => ∃ l xs i k y, x = .ref l ∧ vs = [.int i] ∧ H l = some (.lst xs) ∧ -(2 ^ 63) ≤ i ∧ i < 2 ^ 63 ∧ seqIndex? i xs.length = some k ∧ xs[k]? = some y ∧ Q y (upd H l (.lst (xs.eraseIdx k)))
theorem mt_popAt : MtM X "list.pop" rPopAt := by
  intro pins s σ H x vs v us Q I rx rv h
  obtain ⟨l, xs, i, k, y, rfl, rfl, hH, h1, h2, hk, hy, q⟩ := h
  cases rx
  obtain ⟨u, rfl, ru⟩ := rv.one
  obtain ⟨t, rfl⟩ := ru
  obtain ⟨z, its, n, r, hl, e⟩ := I.lstM hH
  obtain ⟨w, hw, rw'⟩ := r.get hy
  refine call_meets F.slot_list_pop ⟨_, e, rfl⟩ F.entry_list_pop (F.args_list_pop_2 _ _)
    (MeetsSeq.list_pop_at l its.toArray n i t k w (fitsIndex_both h1 h2) (by rw [List.size_toArray, ← hl]; exact hk) (by rw [← Array.getElem?_toList]; exact hw) (by rw [List.size_toArray]; omega)) ⟨e, ?_⟩
  refine ⟨y, _, I.lset (its' := its.eraseIdx k) hH e ?_ (r.eraseIdx k) ?_, rw', q⟩
  · show its.toArray.eraseIdxIfInBounds k = (its.eraseIdx k).toArray
    rw [List.eraseIdxIfInBounds_toArray]
  · have := len_erase xs k
    omega
def rReverse : V → List V → Hp → VK → Prop := fun x vs H Q => ∃ l xs, x = .ref l ∧ vs = [] ∧ H l = some (.lst xs) ∧ Q .non (upd H l (.lst xs.reverse))
theorem mt_reverse : MtM X "list.reverse" rReverse := by
  intro pins s σ H x vs v us Q I rx rv h
  obtain ⟨l, xs, rfl, rfl, hH, q⟩ := h
  cases rx
  have hus := rv.zero
  subst hus
  obtain ⟨z, its, n, r, hl, e⟩ := I.lstM hH
  refine call_meets F.slot_list_reverse ⟨_, e, rfl⟩ F.entry_list_reverse (F.args_list_reverse_1 _) (AutoSeq1.list_reverse_list_0 l its.toArray n (by rw [List.size_toArray]; omega)) ⟨e, ?_⟩
  refine ⟨.non, _, I.lset (its' := its.reverse) hH e (by simp) r.reverse ?_, rfl, q⟩
  rw [List.length_reverse]
  omega
def rClear : V → List V → Hp → VK → Prop := fun x vs H Q => ∃ l xs, x = .ref l ∧ vs = [] ∧ H l = some (.lst xs) ∧ Q .non (upd H l (.lst []))
theorem mt_clear : MtM X "list.clear" rClear := by
  intro pins s σ H x vs v us Q I rx rv h
  obtain ⟨l, xs, rfl, rfl, hH, q⟩ := h
  cases rx
  have hus := rv.zero
  subst hus
  obtain ⟨z, its, n, r, hl, e⟩ := I.lstM hH
  refine call_meets F.slot_list_clear ⟨_, e, rfl⟩ F.entry_list_clear (F.args_list_clear_1 _) (AutoSeq1.list_clear_list_0 l its.toArray n (by rw [List.size_toArray]; omega)) ⟨e, ?_⟩
  exact ⟨.non, _, I.lset (its' := []) (ys := []) hH e rfl .nil (Nat.zero_le _), rfl, q⟩
def rCat : R2 := fun x y H Q => ∃ l b xs zs, x = .ref l ∧ y = .ref b ∧ H l = some (.lst xs) ∧ H b = some (.lst zs) ∧ xs.length + zs.length ≤ sizeLine ∧ ∀ p, H p = none → Q (.ref p) (upd H p (.lst (xs ++ zs)))
theorem op_cat : OpR X (binaryOp .Add) rCat := by
  intro pins s σ H x y v u Q I rx ry h
  obtain ⟨l, b, xs, zs, rfl, rfl, hH, hB, hz, q⟩ := h
  cases rx
  cases ry
  obtain ⟨z, its, n, r, hl, e⟩ := I.lstM hH
  obtain ⟨z2, its2, n2, r2, hl2, e2⟩ := I.lstM hB
  refine PySem.P.add_list e e2 ?_ (by rw [List.size_toArray, List.size_toArray]; omega)
  have ea : its.toArray ++ its2.toArray = (its ++ its2).toArray := by simp
  rw [ea]
  exact ⟨.ref _, _, I.lnew (t' := s.toks) (r.append r2) (by rw [List.length_append]; omega), rfl, q _ I.fresh⟩
def rRep : R2 := fun x y H Q => ∃ l k xs, x = .ref l ∧ y = .int k ∧ H l = some (.lst xs) ∧ -(2 ^ 63) ≤ k ∧ k < 2 ^ 63 ∧ xs.length * k.toNat ≤ sizeLine ∧
  ∀ p, H p = none → Q (.ref p) (upd H p (.lst (List.replicate k.toNat xs).flatten))
theorem len_rep {α : Type} (xs : List α) (k : Nat) : (List.replicate k xs).flatten.length = k * xs.length := by
  induction k with
  | zero => simp
  | succ k ih => rw [List.replicate_succ, List.flatten_cons, List.length_append, ih, Nat.succ_mul, Nat.add_comm]
theorem op_rep : OpR X (binaryOp .Mult) rRep := by
  intro pins s σ H x y v u Q I rx ry h
  obtain ⟨l, k, xs, rfl, rfl, hH, h1, h2, hz, q⟩ := h
  cases rx
  obtain ⟨t, rfl⟩ := ry
  obtain ⟨z, its, n, r, hl, e⟩ := I.lstM hH
  have hlen : its.toArray.size * k.toNat ≤ sizeLine := by rw [List.size_toArray, ← hl]; exact hz
  have hcap : ¬ its.toArray.size * k.toNat > (2 ^ 63 - 1) / 8 := by
    have : (sizeLine : Nat) ≤ (2 ^ 63 - 1) / 8 := by decide
    omega
  have hfit : ¬ (!Builtin.List.listFitsIndex k) = true := by
    rw [fitsIndex_both h1 h2]
    exact Bool.false_ne_true
  have hlong : ¬ Builtin.List.listTooLong (its.toArray.size * k.toNat) = true := by
    rw [notLongL hlen]
    exact Bool.false_ne_true
  have hnew : List.foldl (fun x1 x2 => x1 ++ x2) #[] (List.replicate (if its.toArray.isEmpty = true then 0 else k.toNat) its.toArray) = (List.replicate k.toNat its).flatten.toArray := by
    have f0 : ∀ m : Nat, List.foldl (fun x1 x2 => x1 ++ x2) #[] (List.replicate m its.toArray) = (List.replicate m its).flatten.toArray := fun m => by
      have := foldl_rep its m []
      rw [List.nil_append] at this
      exact this
    rw [f0]
    cases its with
    | nil => simp
    | cons a r' => rw [if_neg (by simp)]
  refine wpAny_binaryOp_repeat_ref (T := "list") (U := "int") (by decide) ⟨_, e, rfl⟩ (fun s' => typeIs_int s' k t) noFill_list_mul F.fills_int_mul F.slot_int_rmul repeat_list F.slot_int_index.lookup
    (call_meets F.slot_int_rmul (typeIs_int s k t) F.entry_int_rmul (F.args_int_rmul_2 _ _) (int___rmul___int_list k t l its.toArray n)
      ⟨e, rfl, ⟨_, e, rfl⟩, call_meets F.slot_list_mul ⟨_, e, rfl⟩ F.entry_list_mul (F.args_list_mul_2 _ _) (AutoListH.list___mul___list_int_3 l its.toArray n k t hfit hcap hlong) ⟨e, ?_⟩⟩)
  rw [hnew]
  exact ⟨.ref _, _, I.lnew (t' := s.toks) (r.rep k.toNat) (by rw [len_rep, Nat.mul_comm]; exact hz), rfl, q _ I.fresh⟩
theorem del_list {pins : List (Addr × Obj)} {s : Shared} {σ : St} {H : Hp} {l : Addr} {xs : List V} {i : Int} {t : Tok} {k : Nat} {Q : Unit → Shared → Prop} (I : Inv X pins σ H s) (hH : H l = some (.lst xs))
    (h1 : -(2 ^ 63) ≤ i) (h2 : i < 2 ^ 63) (hk : seqIndex? i xs.length = some k) (h : ∀ s', Inv X pins σ (upd H l (.lst (xs.eraseIdx k))) s' → Q () s') :
    wpAny (model X.prog X.w) X.A (delItem (.ref l) (.int i t)) Q X.xe s := by
  obtain ⟨z, its, n, r, hl, e⟩ := I.lstM hH
  refine PySem.P.delItem_list (k := k) e (fitsIndex_both h1 h2) (by rw [List.size_toArray, ← hl]; exact hk) (h _ ?_) (by rw [List.size_toArray]; omega)
  refine I.lset (its' := its.eraseIdx k) (t' := s.toks) hH e ?_ (r.eraseIdx k) ?_
  · show its.toArray.eraseIdxIfInBounds k = (its.eraseIdx k).toArray
    rw [List.eraseIdxIfInBounds_toArray]
  · have := len_erase xs k
    omega
end
section
variable {prog : Program} {w : World} {A : Around} {E : Value → Shared → Prop} {s : Shared}
theorem splice_eq (its its2 : List Value) (a c : Nat) : its.toArray.extract 0 a ++ its2.toArray ++ its.toArray.extract c its.toArray.size = (its.take a ++ its2 ++ its.drop c).toArray := by
  apply Array.toList_inj.mp
  first
    | (simp
       exact List.take_of_length_le (by simp))
    | simp [List.take_of_length_le]
    | simp
theorem bounds_run {a c n : Nat} (hac : a ≤ c) (hc : c ≤ n) : sliceBounds (some (a : Int)) (some (c : Int)) none n = ((a : Int), (c : Int), 1) := by
  simp only [sliceBounds, Option.getD_none]
  have h1 : ¬ ((a : Int) < 0) := by omega
  have h2 : ¬ ((c : Int) < 0) := by omega
  simp only [h1, h2, if_false, show (1 : Int) > 0 by decide, if_true]
  congr 1
  · omega
  · congr 1; omega
set_option maxRecDepth 100000 in
theorem setItem_slice {l b sl : Addr} {items new : Array Value} {n n2 : Nat} {vl vu : Value} {a c : Nat} {Q : Unit → Shared → Prop}
    (e : s.heap.get? l = some { cls := .type "list", data := .seq items n }) (e2 : s.heap.get? b = some { cls := .type "list", data := .seq new n2 }) (hne : l ≠ b)
    (hs : s.heap.IsSliceOf sl vl vu .none) (pl : IsPart vl (some (a : Int))) (pu : IsPart vu (some (c : Int))) (hac : a ≤ c) (hc : c ≤ items.size)
    (hsz : items.size + new.size ≤ sizeLine) (h : Q () { s with heap := s.heap.update l (Obj.mapSeq fun xs => xs.extract 0 a ++ new ++ xs.extract c xs.size) }) :
    wpAny (model prog w) A (setItem (.ref l) (.ref sl) (.ref b)) Q E s := by
  have hl : s.heap.IsList l items := PySem.IsL.isList e
  have hb : s.heap.IsList b new := PySem.IsL.isList e2
  obtain ⟨os, hos, hcs, hds⟩ := id hs
  have hTs : s.TypeIs (.ref sl) "slice" := ⟨os, hos, hcs⟩
  have hstep : ¬ ((rawPart none == rawInt 0) = true) := Bool.false_ne_true
  have hsame : Builtin.List.listSameRef (.ref l) (.ref b) = false := by
    unfold Builtin.List.listSameRef
    exact beq_eq_false_iff_ne.mpr hne
  have hmax : (max (a : Int) (c : Int)).toNat = c := by omega
  have hz' : ((fun xs : Array Value => xs.extract 0 a ++ new ++ xs.extract c xs.size) items).size ≤ sizeLine + 1 := by
    simp only [Array.size_append, Array.size_extract]
    omega
  unfold setItem
  try with_reducible refine wpAny_holding ?_
  first | refine wpAny_bind (wpAny_pure ?_) | skip
  refine wpAny_bind (wpAny_sequenceKey hl.typeIs (by decide) ?_)
  refine wpAny_bind (wpAny_callSpecial?_slot (name := Str.ofString "__setitem__") hl.typeIs slot_list_setitem
    (wpAny_call_entry slot_list_setitem hl.typeIs entry_list_setitem ?_ (args_list_setitem _ _ _)))
  show wpAny _ _ (Builtin.List.listSubscript? (.ref sl) >>= _) _ _ s
  refine wpAny_bind ?_
  unfold Builtin.List.listSubscript?
  refine wpAny_bind (wpAny_specialOf hTs slice_no_index ?_)
  simp only [Option.isNone_none, if_true]
  refine wpAny_pure ?_
  show wpAny _ _ (typeOf (.ref sl) >>= _) _ _ s
  refine wpAny_bind (wpAny_typeOf hTs ?_)
  first
    | rw [if_neg (by decide)]
    | refine PySem.W.KFB.if_not (by decide) ?_
  rw [listSliceParts_eq]
  refine wpAny_bind (wpAny_bind (wpAny_field hos hds (x := .none) rfl (wpAny_bind (wpAny_listPart .none ?_))))
  rw [if_neg hstep]
  refine wpAny_bind (wpAny_field hos hds (x := vl) rfl (wpAny_bind (wpAny_listPart pl ?_)))
  refine wpAny_bind (wpAny_field hos hds (x := vu) rfl (wpAny_bind (wpAny_listPart pu (wpAny_pure ?_))))
  first
    | simp only [hsame, Bool.false_eq_true, if_false]
    | refine PySem.W.KFB.if_not hsame ?_
    | (dsimp only
       rw [if_neg (by rw [hsame]; exact Bool.false_ne_true)])
  refine wpAny_bind (m := Builtin.List.listAllItems (.ref b) "must assign iterable to extended slice") ?_
  unfold Builtin.List.listAllItems
  refine wpAny_bind (wpAny_typeOf hb.typeIs ?_)
  first
    | refine PySem.W.KFB.if_so (by decide) ?_
    | rw [if_pos (by decide)]
    | simp only [beq_self_eq_true, Bool.true_or, if_true]
  unfold Builtin.List.listItems
  refine wpAny_bind (wpAny_seqItems e2 rfl (wpAny_pure ?_))
  refine wpAny_bind (wpAny_bind (wpAny_seqItems e rfl (wpAny_pure ?_)))
  refine wpAny_bind (wpAny_of_eq ((sliceIndices_raw (some (a : Int)) (some (c : Int)) none items.size (by simp)).trans (congrArg (pure : Int × Int × Int → Sem (Int × Int × Int)) (bounds_run hac hc))) ?_)
  show wpAny _ _ (if ((1 : Int) == 1) = true then _ else _) _ _ s
  rw [if_pos (by decide)]
  refine wpAny_bind (wpAny_rule ?_)
  first
    | simp only [notLongL hsz, Bool.false_eq_true, if_false]
    | refine PySem.W.KFB.if_not (notLongL hsz) ?_
  first | refine wpAny_bind (wpAny_pure ?_) | skip
  show wpAny _ _ (updateSeq l (fun xs => xs.extract 0 ((a : Int)).toNat ++ new ++ xs.extract (max (a : Int) (c : Int)).toNat xs.size) >>= _) _ _ s
  rw [hmax, Int.toNat_natCast]
  refine wpAny_bind (wpAny_updateSeq (hz := Nat.le_trans (Nat.le_add_right _ _) hsz) (_hz' := hz') e rfl ?_)
  refine wpAny_bind (wpAny_letGo ?_)
  first
    | exact wpAny_bind (wpAny_pure (wpAny_pure ⟨.none, rfl, wpAny_pure h⟩))
    | exact wpAny_pure ⟨.none, rfl, wpAny_pure h⟩
end
section
variable {X : Cx}
theorem set_slice {pins : List (Addr × Obj)} {s : Shared} {σ : St} {H : Hp} {l b sl : Addr} {xs ys : List V} {a c : Int} {vl vu : Value} {Q : Unit → Shared → Prop} (I : Inv X pins σ H s)
    (hH : H l = some (.lst xs)) (hB : H b = some (.lst ys)) (hne : l ≠ b) (hs : s.heap.IsSliceOf sl vl vu .none) (ra : RelV (.int a) vl) (rc : RelV (.int c) vu) (h0 : 0 ≤ a) (hac : a ≤ c) (hc : c ≤ xs.length)
    (hz : xs.length + ys.length ≤ sizeLine) (h : ∀ s', Inv X pins σ (upd H l (.lst (xs.take a.toNat ++ ys ++ xs.drop c.toNat))) s' → Q () s') :
    wpAny (model X.prog X.w) X.A (setItem (.ref l) (.ref sl) (.ref b)) Q X.xe s := by
  obtain ⟨ta, rfl⟩ := ra
  obtain ⟨tc, rfl⟩ := rc
  obtain ⟨z, its, n, r, hl, e⟩ := I.lstM hH
  obtain ⟨z2, its2, n2, r2, hl2, e2⟩ := I.lstM hB
  obtain ⟨a', rfl⟩ := Int.eq_ofNat_of_zero_le h0
  obtain ⟨c', rfl⟩ := Int.eq_ofNat_of_zero_le (Int.le_trans h0 hac)
  simp only [Int.toNat_natCast] at h
  refine setItem_slice (a := a') (c := c') e e2 hne hs (.int _ _) (.int _ _) (by omega) (by rw [List.size_toArray]; omega) (by rw [List.size_toArray, List.size_toArray]; omega) (h _ ?_)
  refine I.lset (its' := its.take a' ++ its2 ++ its.drop c') (t' := s.toks) hH e ?_ (Vals.append (Vals.append (r.take _) r2) (r.drop _)) ?_
  · exact splice_eq its its2 a' c'
  · rw [List.length_append, List.length_append, List.length_take, List.length_drop]
    omega
end
end L2
namespace L2
open PySem PySem.Spec PyProof.Rows
section
variable {κ : Type} [DecidableEq κ]
def valV (kvs : List (κ × V)) (k : κ) : Option V := (kvs.find? fun kv => decide (kv.1 = k)).map (·.2)
def putK (kvs : List (κ × V)) (k : κ) (v : V) : List (κ × V) :=
  if (kvs.any fun kv => decide (kv.1 = k)) = true then kvs.map (fun kv => if kv.1 = k then (kv.1, v) else kv) else kvs ++ [(k, v)]
def dropK (kvs : List (κ × V)) (k : κ) : List (κ × V) := kvs.filter fun kv => decide (kv.1 ≠ k)
theorem valV_nil {k : κ} : valV ([] : List (κ × V)) k = none := rfl
theorem valV_pos {p : κ × V} {r : List (κ × V)} {k : κ} (e : p.1 = k) : valV (p :: r) k = some p.2 := by simp [valV, List.find?_cons, e]
theorem valV_neg {p : κ × V} {r : List (κ × V)} {k : κ} (e : ¬ p.1 = k) : valV (p :: r) k = valV r k := by simp [valV, List.find?_cons, e]
theorem valV_any (k : κ) : ∀ kvs : List (κ × V), (kvs.any fun kv => decide (kv.1 = k)) = (valV kvs k).isSome
  | [] => rfl
  | p :: r => by
    rw [List.any_cons]
    by_cases e : p.1 = k
    · simp only [valV_pos e, decide_eq_true e, Bool.true_or, Option.isSome_some]
    · rw [valV_neg e, decide_eq_false e, Bool.false_or]; exact valV_any k r
theorem valV_map (k j : κ) (y : V) : ∀ kvs : List (κ × V), valV (kvs.map fun kv => if kv.1 = k then (kv.1, y) else kv) j = (valV kvs j).map fun x => if j = k then y else x
  | [] => rfl
  | p :: r => by
    have ih := valV_map k j y r
    rw [List.map_cons]
    by_cases h : p.1 = k
    · rw [if_pos h]
      by_cases e : p.1 = j
      · rw [valV_pos (p := (p.1, y)) e, valV_pos e, Option.map_some, if_pos (e.symm.trans h)]
      · rw [valV_neg (p := (p.1, y)) e, valV_neg e, ih]
    · rw [if_neg h]
      by_cases e : p.1 = j
      · rw [valV_pos (p := p) e, valV_pos e, Option.map_some, if_neg (fun z => h (e.trans z))]
      · rw [valV_neg (p := p) e, valV_neg e, ih]
theorem valV_snoc (k j : κ) (y : V) : ∀ kvs : List (κ × V), valV kvs k = none → valV (kvs ++ [(k, y)]) j = if j = k then some y else valV kvs j
  | [], _ => by
    by_cases e : k = j
    · rw [if_pos e.symm]; exact valV_pos (p := (k, y)) e
    · rw [if_neg (fun z => e z.symm)]; exact valV_neg (p := (k, y)) e
  | p :: r, hn => by
    rw [List.cons_append]
    have hk : ¬ p.1 = k := fun z => by rw [valV_pos z] at hn; cases hn
    rw [valV_neg hk] at hn
    have ih := valV_snoc k j y r hn
    by_cases e : p.1 = j
    · rw [valV_pos e, valV_pos e, if_neg (fun z => hk (e.trans z))]
    · rw [valV_neg e, valV_neg e, ih]
theorem valV_put (kvs : List (κ × V)) (k j : κ) (y : V) : valV (putK kvs k y) j = if j = k then some y else valV kvs j := by
  unfold putK
  by_cases a : (kvs.any fun kv => decide (kv.1 = k)) = true
  · rw [if_pos a, valV_map]
    rw [valV_any] at a
    by_cases e : j = k
    · obtain ⟨x, hx⟩ := Option.isSome_iff_exists.mp a
      rw [if_pos e, e, hx, Option.map_some, if_pos rfl]
    · rw [if_neg e]
      cases valV kvs j with
      | none => rfl
      | some x => rw [Option.map_some, if_neg e]
  · rw [if_neg a]
    refine valV_snoc k j y kvs ?_
    rw [valV_any] at a
    cases q : valV kvs k with
    | none => rfl
    | some x => rw [q] at a; exact (a rfl).elim
theorem length_putK (kvs : List (κ × V)) (k : κ) (v : V) : (putK kvs k v).length ≤ kvs.length + 1 := by
  unfold putK
  split
  · rw [List.length_map]; omega
  · rw [List.length_append, List.length_cons, List.length_nil]; omega
theorem putK_new {kvs : List (κ × V)} {k : κ} (v : V) (h : valV kvs k = none) : putK kvs k v = kvs ++ [(k, v)] := by
  unfold putK
  rw [valV_any, h]
  exact if_neg (by decide)
theorem RelO.isSome_eq {o : Option V} {u : Option Value} (r : RelO o u) : o.isSome = u.isSome := by
  cases o with
  | none => cases u with
    | none => rfl
    | some _ => exact (show False from r).elim
  | some _ => cases u with
    | none => exact (show False from r).elim
    | some _ => rfl
theorem RelO.getD {o : Option V} {u : Option Value} {d : V} {d' : Value} (r : RelO o u) (rd : RelV d d') : RelV (o.getD d) (u.getD d') := by
  cases o with
  | none => cases u with
    | none => exact rd
    | some _ => exact (show False from r).elim
  | some _ => cases u with
    | none => exact (show False from r).elim
    | some _ => exact r
theorem KV.val {kvs : List (κ × V)} {vs : List (κ × Value)} (r : KV kvs vs) (k : κ) : RelO (valV kvs k) (valueAt vs k) := by
  unfold KV at r
  induction r with
  | nil => exact True.intro
  | @cons p q ps qs h t ih =>
    obtain ⟨h1, h2⟩ := h
    by_cases e : p.1 = k
    · have e' : q.1 = k := h1.symm.trans e
      have b : valueAt (q :: qs) k = some q.2 := by simp [valueAt, List.find?_cons, e']
      rw [valV_pos e, b]; exact h2
    · have e' : ¬ q.1 = k := fun z => e (h1.trans z)
      have b : valueAt (q :: qs) k = valueAt qs k := by simp [valueAt, List.find?_cons, e']
      rw [valV_neg e, b]; exact ih
theorem KV.any {kvs : List (κ × V)} {vs : List (κ × Value)} (r : KV kvs vs) (k : κ) : (kvs.any fun kv => decide (kv.1 = k)) = vs.any fun kv => decide (kv.1 = k) := by
  unfold KV at r
  induction r with
  | nil => rfl
  | cons h t ih => rw [List.any_cons, List.any_cons, ih, h.1]
theorem KV.repl {kvs : List (κ × V)} {vs : List (κ × Value)} (r : KV kvs vs) (k : κ) {y : V} {u : Value} (ry : RelV y u) :
    KV (kvs.map fun kv => if kv.1 = k then (kv.1, y) else kv) (vs.map fun kv => if kv.1 = k then (kv.1, u) else kv) := by
  unfold KV at r ⊢
  induction r with
  | nil => exact .nil
  | @cons p q ps qs h t ih =>
    rw [List.map_cons, List.map_cons]
    refine .cons ?_ ih
    obtain ⟨h1, h2⟩ := h
    by_cases e : p.1 = k
    · rw [if_pos e, if_pos (h1.symm.trans e)]; exact ⟨h1, ry⟩
    · rw [if_neg e, if_neg (fun z => e (h1.trans z))]; exact ⟨h1, h2⟩
theorem KV.put {kvs : List (κ × V)} {vs : List (κ × Value)} (r : KV kvs vs) (k : κ) {y : V} {u : Value} (ry : RelV y u) : KV (putK kvs k y) (stored vs k u) := by
  unfold putK stored
  rw [r.any k]
  by_cases e : (vs.any fun kv => decide (kv.1 = k)) = true
  · rw [if_pos e, if_pos e]; exact r.repl k ry
  · rw [if_neg e, if_neg e]; exact Paired.snoc r ⟨rfl, ry⟩
theorem KV.drop {kvs : List (κ × V)} {vs : List (κ × Value)} (r : KV kvs vs) (k : κ) : KV (dropK kvs k) (without vs k) := by
  unfold KV at r ⊢
  unfold dropK without
  induction r with
  | nil => exact .nil
  | @cons p q ps qs h t ih =>
    obtain ⟨h1, h2⟩ := h
    rw [List.filter_cons, List.filter_cons]
    by_cases e : p.1 = k
    · have a : ¬ decide (p.1 ≠ k) = true := by simp [e]
      have b : ¬ decide (q.1 ≠ k) = true := by simp [h1.symm.trans e]
      rw [if_neg a, if_neg b]; exact ih
    · have e' : ¬ q.1 = k := fun z => e (h1.trans z)
      have a : decide (p.1 ≠ k) = true := by simp [e]
      have b : decide (q.1 ≠ k) = true := by simp [e']
      rw [if_pos a, if_pos b]; exact .cons ⟨h1, h2⟩ ih
theorem KV.keys {kvs : List (κ × V)} {vs : List (κ × Value)} (r : KV kvs vs) : kvs.map (·.1) = vs.map (·.1) := by
  unfold KV at r
  induction r with
  | nil => rfl
  | cons h t ih => rw [List.map_cons, List.map_cons, ih, h.1]
theorem KV.length {kvs : List (κ × V)} {vs : List (κ × Value)} (r : KV kvs vs) : kvs.length = vs.length := Paired.length r
theorem dropK_le (kvs : List (κ × V)) (k : κ) : (dropK kvs k).length ≤ kvs.length := List.length_filter_le _ _
end
theorem kV_is {P : Program} {w : World} {k : Key} {u : Value} (r : RelV (kV k) u) : (mixKind P w).is k u = true := by
  cases k with
  | inl i => obtain ⟨t, e⟩ := (show ∃ t, u = Value.int i t from r); subst e; exact mixKind_int P w i t
  | inr x => obtain ⟨t, e⟩ := (show ∃ t, u = Value.str x t from r); subst e; exact mixKind_str P w x t
theorem kV_inj {a b : Key} (e : kV a = kV b) : a = b := by
  cases a with
  | inl i => cases b with
    | inl j => have e' : V.int i = V.int j := e; injection e' with e'; rw [e']
    | inr y => exact nomatch (show V.int i = V.str y from e)
  | inr x => cases b with
    | inl j => exact nomatch (show V.str x = V.int j from e)
    | inr y => have e' : V.str x = V.str y := e; injection e' with e'; rw [e']
theorem kVs_inj : ∀ {a b : List Key}, a.map kV = b.map kV → a = b
  | [], [], _ => rfl
  | [], _ :: _, e => by simp at e
  | _ :: _, [], e => by simp at e
  | x :: xs, y :: ys, e => by
    rw [List.map_cons, List.map_cons] at e
    injection e with e1 e2
    rw [kV_inj e1, kVs_inj e2]
theorem items_are {P : Program} {w : World} : ∀ {ks : List Key} {us : List Value}, Vals (ks.map kV) us → ItemsAre (mixKind P w) ks us
  | [], _, r => by rw [List.map_nil] at r; cases r; exact .nil
  | k :: ks, _, r => by
    rw [List.map_cons] at r
    cases r with
    | cons h t => exact .cons (kV_is h) (items_are t)
abbrev KT (H : Hp) : List (List Key × V) → List (List Key × Addr × Value) → Prop := Paired fun p q => p.1 = q.1 ∧ H q.2.1 = some (.tup (p.1.map kV)) ∧ RelV p.2 q.2.2
theorem KT.val {H : Hp} {kvs : List (List Key × V)} {xs : List (List Key × Addr × Value)} (r : KT H kvs xs) (k : List Key) : RelO (valV kvs k) ((atKey xs k).map (·.2)) := by
  induction r with
  | nil => exact True.intro
  | @cons p q ps qs h t ih =>
    obtain ⟨h1, _, h2⟩ := h
    by_cases e : p.1 = k
    · have e' : q.1 = k := h1.symm.trans e
      have b : atKey (q :: qs) k = some q.2 := by simp [atKey, List.find?_cons, e']
      rw [valV_pos e, b]; exact h2
    · have e' : ¬ q.1 = k := fun z => e (h1.trans z)
      have b : atKey (q :: qs) k = atKey qs k := by simp [atKey, List.find?_cons, e']
      rw [valV_neg e, b]; exact ih
theorem KT.repl {H : Hp} {kvs : List (List Key × V)} {xs : List (List Key × Addr × Value)} (r : KT H kvs xs) (k : List Key) {y : V} {u : Value} (ry : RelV y u) :
    KT H (kvs.map fun kv => if kv.1 = k then (kv.1, y) else kv) (xs.map (putAt k u)) := by
  induction r with
  | nil => exact .nil
  | @cons p q ps qs h t ih =>
    rw [List.map_cons, List.map_cons]
    refine .cons ?_ ih
    obtain ⟨h1, h2, h3⟩ := h
    unfold putAt
    by_cases e : p.1 = k
    · rw [if_pos e, if_pos (h1.symm.trans e)]; exact ⟨h1, h2, ry⟩
    · rw [if_neg e, if_neg (fun z => e (h1.trans z))]; exact ⟨h1, h2, h3⟩
theorem KT.put {H : Hp} {kvs : List (List Key × V)} {xs : List (List Key × Addr × Value)} (r : KT H kvs xs) (k : List Key) {b : Addr} {y : V} {u : Value} (hb : H b = some (.tup (k.map kV))) (ry : RelV y u) :
    KT H (putK kvs k y) (storedH xs k b u) := by
  have e : (kvs.any fun kv => decide (kv.1 = k)) = (atKey xs k).isSome := by
    rw [valV_any, (r.val k).isSome_eq, Option.isSome_map]
  unfold putK storedH
  rw [e]
  by_cases q : (atKey xs k).isSome = true
  · rw [if_pos q, if_pos q]; exact r.repl k ry
  · rw [if_neg q, if_neg q]; exact Paired.snoc r ⟨rfl, hb, ry⟩
theorem KT.keeps {H H' : Hp} {kvs : List (List Key × V)} {xs : List (List Key × Addr × Value)} (r : KT H kvs xs) (ht : ∀ b ys, H b = some (.tup ys) → H' b = some (.tup ys)) : KT H' kvs xs :=
  Paired.mapP r fun _ _ z => ⟨z.1, ht _ _ z.2.1, z.2.2⟩
section
variable {P : Program} {w : World} {H : Hp} {h : Heap} {a : Addr}
theorem rd_of {u : HO} (ok : HOk P w H h) (e : Rd H a u) : ObjOk P w H h a u := e.ok ok
theorem dk_rd {kvs : List (Key × V)} (ok : HOk P w H h) (e : Rd H a (.dK kvs)) : kvs.length ≤ sizeLine ∧ (a == sysModules) = false ∧ ∃ vs, KV kvs vs ∧ h.DictOf (mixKind P w) a vs :=
  show ObjOk P w H h a (.dK kvs) from rd_of ok e
theorem dk_of {kvs : List (Key × V)} (ok : HOk P w H h) (e : H a = some (.dK kvs)) : kvs.length ≤ sizeLine ∧ (a == sysModules) = false ∧ ∃ vs, KV kvs vs ∧ h.DictOf (mixKind P w) a vs := dk_rd ok (.inl e)
theorem key_of {ks : List Key} (ok : HOk P w H h) (e : H a = some (.tup (ks.map kV))) : (tupleKind (mixKind P w)).is h ks a := by
  obtain ⟨_, its, r, o, h1, h2, n, h3⟩ := (show ObjOk P w H h a (.tup (ks.map kV)) from ok a _ e)
  exact ⟨o, its.toArray, n, h1, h2, h3, by simpa using items_are r⟩
theorem dt_rd {kvs : List (List Key × V)} (ok : HOk P w H h) (e : Rd H a (.dT kvs)) : kvs.length ≤ sizeLine ∧ (a == sysModules) = false ∧
    ∃ xs, KT H kvs xs ∧ h.DictOfH (tupleKind (mixKind P w)) a xs := by
  obtain ⟨z, y, xs, r, o, es, ep, h1, h2, h3, h4, h5⟩ := (show ObjOk P w H h a (.dT kvs) from rd_of ok e)
  refine ⟨z, y, xs, r, o, es, ep, h1, h2, h3, h4, fun x hx => ?_, h5⟩
  have all : ∀ {l : List (List Key × V)} {m : List (List Key × Addr × Value)}, KT H l m → ∀ x ∈ m, (tupleKind (mixKind P w)).is h x.1 x.2.1 := by
    intro l m q
    induction q with
    | nil => intro x hx; exact nomatch hx
    | @cons p q ps qs hq t ih =>
      intro x hx
      rcases List.mem_cons.mp hx with e | hx
      · subst e
        exact key_of ok (by rw [← hq.1]; exact hq.2.1)
      · exact ih x hx
  exact all r x hx
theorem dt_of {kvs : List (List Key × V)} (ok : HOk P w H h) (e : H a = some (.dT kvs)) : kvs.length ≤ sizeLine ∧ (a == sysModules) = false ∧
    ∃ xs, KT H kvs xs ∧ h.DictOfH (tupleKind (mixKind P w)) a xs := dt_rd ok (.inl e)
end
def DGet (H : Hp) (a : Addr) (y : V) (r : Option V) : Prop :=
  (∃ kvs k, Rd H a (.dK kvs) ∧ y = kV k ∧ r = valV kvs k) ∨ ∃ kvs k b, Rd H a (.dT kvs) ∧ y = .ref b ∧ H b = some (.tup (k.map kV)) ∧ r = valV kvs k
def DPut (H : Hp) (a : Addr) (y v : V) (H' : Hp) : Prop :=
  (∃ kvs k, H a = some (.dK kvs) ∧ y = kV k ∧ kvs.length < sizeLine ∧ H' = upd H a (.dK (putK kvs k v))) ∨
  ∃ kvs k b, H a = some (.dT kvs) ∧ y = .ref b ∧ H b = some (.tup (k.map kV)) ∧ kvs.length < sizeLine ∧ H' = upd H a (.dT (putK kvs k v))
theorem DGet.k {H : Hp} {a : Addr} {kvs : List (Key × V)} {k : Key} (e : H a = some (.dK kvs)) : DGet H a (kV k) (valV kvs k) := .inl ⟨kvs, k, .inl e, rfl, rfl⟩
theorem DGet.t {H : Hp} {a b : Addr} {kvs : List (List Key × V)} {k : List Key} (e : H a = some (.dT kvs)) (eb : H b = some (.tup (k.map kV))) : DGet H a (.ref b) (valV kvs k) := .inr ⟨kvs, k, b, .inl e, rfl, eb, rfl⟩
theorem DPut.k {H : Hp} {a : Addr} {kvs : List (Key × V)} {k : Key} {v : V} (e : H a = some (.dK kvs)) (hl : kvs.length < sizeLine) : DPut H a (kV k) v (upd H a (.dK (putK kvs k v))) := .inl ⟨kvs, k, e, rfl, hl, rfl⟩
theorem DPut.t {H : Hp} {a b : Addr} {kvs : List (List Key × V)} {k : List Key} {v : V} (e : H a = some (.dT kvs)) (eb : H b = some (.tup (k.map kV))) (hl : kvs.length < sizeLine) :
    DPut H a (.ref b) v (upd H a (.dT (putK kvs k v))) := .inr ⟨kvs, k, b, e, rfl, eb, hl, rfl⟩
section
variable {X : Cx} {pins : List (Addr × Obj)} {σ : St} {H : Hp} {s : Shared} {a : Addr} {y v : V} {u r : Value} {o : Option V} {A : Around} {E : Value → Shared → Prop}
theorem Inv.big (I : Inv X pins σ H s) : sysModules < s.heap.objs.size := by
  have h : mainGlobals < s.heap.objs.size := (I.mod.glob.keeps I.bk).lt
  exact Nat.lt_trans (by decide) h
theorem d_getItem {Q : Value → Shared → Prop} (hu : A.units + 1 < cLine) (I : Inv X pins σ H s) (g : DGet H a y (some v)) (ry : RelV y u) (h : ∀ w' s', Inv X pins σ H s' → RelV v w' → Q w' s') :
    wpAny (model X.prog X.w) A (getItem (.ref a) u) Q E s := by
  rcases g with ⟨kvs, k, e, ey, l⟩ | ⟨kvs, k, b, e, ey, eb, l⟩
  · subst ey
    obtain ⟨z, hd, vs, rel, dd⟩ := dk_rd I.hok e
    obtain ⟨w', hw, rw'⟩ := RelO.some_of (v := v) (o := valueAt vs k) (by rw [l]; exact rel.val k)
    exact wpAny_getItem_of (kV_is ry) dd.mapOf hw (h w' _ (I.tok _) rw')
  · subst ey
    cases (show u = Value.ref b from ry)
    obtain ⟨z, hd, xs, rel, dd⟩ := dt_rd I.hok e
    obtain ⟨w', hw, rw'⟩ := RelO.some_of (v := v) (o := (atKey xs k).map (·.2)) (by rw [l]; exact rel.val k)
    obtain ⟨p, hp, hp2⟩ := Option.map_eq_some_iff.mp hw
    refine wpAny_getItem_heap (tupleKind_room_in1 hu) (key_of I.hok eb) dd hp ?_
    rw [hp2]
    exact h w' _ (I.tok _) rw'
theorem d_in {Q : Value → Shared → Prop} (hu : A.units + 1 < cLine) (I : Inv X pins σ H s) (g : DGet H a y o) (ry : RelV y u) (h : ∀ s', Inv X pins σ H s' → Q (.bool o.isSome) s') :
    wpAny (model X.prog X.w) A (compareOp .In u (.ref a)) Q E s := by
  rcases g with ⟨kvs, k, e, ey, l⟩ | ⟨kvs, k, b, e, ey, eb, l⟩
  · subst ey
    obtain ⟨z, hd, vs, rel, dd⟩ := dk_rd I.hok e
    refine wpAny_in_of (kV_is ry) hd dd.mapOf ?_
    rw [← (rel.val k).isSome_eq, ← l]
    exact h _ (I.tok _)
  · subst ey
    cases (show u = Value.ref b from ry)
    obtain ⟨z, hd, xs, rel, dd⟩ := dt_rd I.hok e
    refine wpAny_in_heap (tupleKind_room_in1 hu) (key_of I.hok eb) hd dd ?_
    have q := (rel.val k).isSome_eq
    rw [Option.isSome_map] at q
    rw [← q, ← l]
    exact h _ (I.tok _)
theorem d_notIn {Q : Value → Shared → Prop} (hu : A.units + 1 < cLine) (I : Inv X pins σ H s) (g : DGet H a y o) (ry : RelV y u) (h : ∀ s', Inv X pins σ H s' → Q (.bool (!o.isSome)) s') :
    wpAny (model X.prog X.w) A (compareOp .NotIn u (.ref a)) Q E s := by
  rcases g with ⟨kvs, k, e, ey, l⟩ | ⟨kvs, k, b, e, ey, eb, l⟩
  · subst ey
    obtain ⟨z, hd, vs, rel, dd⟩ := dk_rd I.hok e
    refine wpAny_notIn_of (kV_is ry) hd dd.mapOf ?_
    rw [← (rel.val k).isSome_eq, ← l]
    exact h _ (I.tok _)
  · subst ey
    cases (show u = Value.ref b from ry)
    obtain ⟨z, hd, xs, rel, dd⟩ := dt_rd I.hok e
    refine wpAny_notIn_heap (tupleKind_room_in1 hu) (key_of I.hok eb) hd dd ?_
    have q := (rel.val k).isSome_eq
    rw [Option.isSome_map] at q
    rw [← q, ← l]
    exact h _ (I.tok _)
theorem d_write {h' : Heap} {t' : Nat} {ob : HO} (I : Inv X pins σ H s) (mu : Mut (H a)) (hs : Heap.SameBut a s.heap h') (he : ∃ q, h'.get? a = some q) (new : ObjOk X.prog X.w (upd H a ob) h' a ob) :
    Inv X pins σ (upd H a ob) { s with heap := h', toks := t' } :=
  I.write (x := a) (e := a) mu (.inl rfl) (fun b q hb z => (hs.2 b hb).trans z) he new
theorem dk_new {P : Program} {w : World} {H' : Hp} {h' : Heap} {kvs : List (Key × V)} {vs : List (Key × Value)} (z : kvs.length ≤ sizeLine) (hd : (a == sysModules) = false) (rel : KV kvs vs) (dd : h'.DictOf (mixKind P w) a vs) :
    ObjOk P w H' h' a (.dK kvs) := ⟨z, hd, vs, rel, dd⟩
theorem d_setItem {H' : Hp} {Q : Unit → Shared → Prop} (hu : A.units + 1 < cLine) (I : Inv X pins σ H s) (g : DPut H a y v H') (ry : RelV y u) (rv : RelV v r) (h : ∀ s', Inv X pins σ H' s' → Q () s') :
    wpAny (model X.prog X.w) A (setItem (.ref a) u r) Q E s := by
  rcases g with ⟨kvs, k, e, ey, l, eH⟩ | ⟨kvs, k, b, e, ey, eb, l, eH⟩
  · subst ey eH
    obtain ⟨z, hd, vs, rel, dd⟩ := dk_of I.hok e
    have hz : vs.length ≤ sizeLine := by rw [← rel.length]; exact z
    have hl : (putK kvs k v).length ≤ sizeLine := by have := length_putK kvs k v; omega
    refine wpAny_setItem_pairs (hsz := hz) (kV_is ry) dd fun h' dd' hs => h _ ?_
    have he : ∃ q, h'.get? a = some q := let ⟨q, _, _, hq, _⟩ := dd'; ⟨q, hq⟩
    exact d_write I (by rw [e]; exact True.intro) hs he (dk_new hl hd (rel.put k rv) dd')
  · subst ey eH
    cases (show u = Value.ref b from ry)
    obtain ⟨z, hd, xs, rel, dd⟩ := dt_of I.hok e
    have hz : xs.length ≤ sizeLine := by rw [← Paired.length rel]; exact z
    have hl : (putK kvs k v).length ≤ sizeLine := by have := length_putK kvs k v; omega
    refine wpAny_setItem_heap (hsz := hz) (tupleKind_room_in1 hu) (key_of I.hok eb) dd fun h' dd' hs => h _ ?_
    obtain ⟨q, es, ep, hq, h2, h3, h4, _, h5⟩ := dd'
    refine d_write I (by rw [e]; exact True.intro) hs ⟨q, hq⟩ ⟨hl, hd, _, (rel.put k eb rv).keeps fun c ys ec => ?_, q, es, ep, hq, h2, h3, h4, h5⟩
    rw [upd_ne (ne_of ec e (fun z => nomatch z))]
    exact ec
end
section
variable {X : Cx} {pins : List (Addr × Obj)} {σ : St} {H : Hp} {s : Shared} {a : Addr} {kvs : List (Key × V)} {k : Key} {u : Value} {A : Around} {E : Value → Shared → Prop}
theorem d_delItem {Q : Unit → Shared → Prop} (I : Inv X pins σ H s) (e : H a = some (.dK kvs)) (ry : RelV (kV k) u) (l : (valV kvs k).isSome = true) (h : ∀ s', Inv X pins σ (upd H a (.dK (dropK kvs k))) s' → Q () s') :
    wpAny (model X.prog X.w) A (delItem (.ref a) u) Q E s := by
  obtain ⟨z, hd, vs, rel, dd⟩ := dk_of I.hok e
  refine wpAny_delItem_slot dd.typeIs (by decide) PySem.F.slot_dict_delitem
    (call_meetsIn PySem.F.slot_dict_delitem dd.typeIs PySem.F.entry_dict_delitem (PySem.F.args_dict_delitem_2 _ _) (meets_dict_delitem_pairs (mixKind X.prog X.w) a (kV_is ry)) ⟨vs, dd, by rw [← rel.length]; exact z, by rw [← (rel.val k).isSome_eq]; exact l, fun h' dd' hs => h _ ?_⟩)
  have he : ∃ q, h'.get? a = some q := let ⟨q, _, _, hq, _⟩ := dd'; ⟨q, hq⟩
  exact d_write I (by rw [e]; exact True.intro) hs he (dk_new (Nat.le_trans (dropK_le kvs k) z) hd (rel.drop k) dd')
theorem d_pop {v : V} {more : List Value} {Q : Value → Shared → Prop} (I : Inv X pins σ H s) (e : H a = some (.dK kvs)) (ry : RelV (kV k) u) (l : valV kvs k = some v) (hm : more = [] ∨ ∃ x, more = [x])
    (h : ∀ w' s', Inv X pins σ (upd H a (.dK (dropK kvs k))) s' → RelV v w' → Q w' s') : wpAny (model X.prog X.w) A (call (.builtin "dict.pop") (.ref a :: u :: more)) Q E s := by
  obtain ⟨z, hd, vs, rel, dd⟩ := dk_of I.hok e
  obtain ⟨w', hw, rw'⟩ := RelO.some_of (v := v) (o := valueAt vs k) (by rw [← l]; exact rel.val k)
  have hp : (keyPart u).isSome = true := by
    cases k with
    | inl i => obtain ⟨t, q⟩ := (show ∃ t, u = Value.int i t from ry); subst q; rfl
    | inr x => obtain ⟨t, q⟩ := (show ∃ t, u = Value.str x t from ry); subst q; rfl
  have ha : argsOk "dict.pop" ⟨.ref a :: u :: more, []⟩ := by
    rcases hm with q | ⟨x, q⟩
    · subst q; exact PySem.F.args_dict_pop_2 _ _
    · subst q; exact PySem.F.args_dict_pop_3 _ _ _
  refine call_meetsIn PySem.F.slot_dict_pop dd.typeIs PySem.F.entry_dict_pop ha (meets_dict_pop_there (mixKind X.prog X.w) a (kV_is ry) more hm hp)
    ⟨vs, w', dd, by rw [← rel.length]; exact z, hw, fun h' dd' hs => h w' _ ?_ rw'⟩
  have he : ∃ q, h'.get? a = some q := let ⟨q, _, _, hq, _⟩ := dd'; ⟨q, hq⟩
  exact d_write I (by rw [e]; exact True.intro) hs he (dk_new (Nat.le_trans (dropK_le kvs k) z) hd (rel.drop k) dd')
theorem d_popD {r : Value} {Q : Value → Shared → Prop} (I : Inv X pins σ H s) (e : H a = some (.dK kvs)) (ry : RelV (kV k) u) (l : valV kvs k = none) (h : ∀ s', Inv X pins σ H s' → Q r s') :
    wpAny (model X.prog X.w) A (call (.builtin "dict.pop") [.ref a, u, r]) Q E s := by
  obtain ⟨z, hd, vs, rel, dd⟩ := dk_of I.hok e
  have hn : valueAt vs k = none := RelO.none_of (by rw [← l]; exact rel.val k)
  have hp : (keyPart u).isSome = true := by
    cases k with
    | inl i => obtain ⟨t, q⟩ := (show ∃ t, u = Value.int i t from ry); subst q; rfl
    | inr x => obtain ⟨t, q⟩ := (show ∃ t, u = Value.str x t from ry); subst q; rfl
  exact call_meetsIn PySem.F.slot_dict_pop dd.typeIs PySem.F.entry_dict_pop (PySem.F.args_dict_pop_3 _ _ _) (meets_dict_pop_default (mixKind X.prog X.w) a (kV_is ry) hd hp r) ⟨vs, dd, hn, h _ (I.tok _)⟩
theorem d_clear {Q : Value → Shared → Prop} (I : Inv X pins σ H s) (e : H a = some (.dK kvs)) (h : ∀ s', Inv X pins σ (upd H a (.dK [])) s' → Q .none s') : wpAny (model X.prog X.w) A (call (.builtin "dict.clear") [.ref a]) Q E s := by
  obtain ⟨z, hd, vs, rel, dd⟩ := dk_of I.hok e
  refine call_meetsIn PySem.F.slot_dict_clear dd.typeIs PySem.F.entry_dict_clear (PySem.F.args_dict_clear_1 _) (meets_dict_clear (mixKind X.prog X.w) a) ⟨vs, dd, by rw [← rel.length]; exact z, fun h' dd' hs => h _ ?_⟩
  have he : ∃ q, h'.get? a = some q := let ⟨q, _, _, hq, _⟩ := dd'; ⟨q, hq⟩
  exact d_write (t' := s.toks) I (by rw [e]; exact True.intro) hs he (dk_new (Nat.zero_le _) hd .nil dd')
theorem d_len {Q : Value → Shared → Prop} (I : Inv X pins σ H s) (e : Rd H a (.dK kvs)) (h : ∀ t s', Inv X pins σ H s' → Q (.int kvs.length t) s') : wpAny (model X.prog X.w) A (call (.builtin "len") [.ref a]) Q E s := by
  obtain ⟨z, hd, vs, rel, dd⟩ := dk_rd I.hok e
  refine call_len_dict hd dd (by rw [← rel.length]; rw [sizeLine_eq] at z; omega) ?_
  rw [← rel.length]
  exact h _ _ (I.tok _)
theorem d_truth {Q : Bool → Shared → Prop} (I : Inv X pins σ H s) (e : Rd H a (.dK kvs)) (h : ∀ s', Inv X pins σ H s' → Q (!kvs.isEmpty) s') : wpAny (model X.prog X.w) A (truthy (.ref a)) Q E s := by
  obtain ⟨z, hd, vs, rel, dd⟩ := dk_rd I.hok e
  refine wpAny_truthy_dict hd dd (by rw [← rel.length]; rw [sizeLine_eq] at z; omega) ?_
  have q : kvs.isEmpty = vs.isEmpty := by cases rel <;> rfl
  rw [← q]
  exact h _ (I.tok _)
end
def NoSl (i : Expr) : Prop := ∀ ov iv, subscripted i false ov iv = operate [ov, iv] (getItem ov iv)
theorem subD_of {prog : Program} {w : World} {A : Around} {E : Value → Shared → Prop} {s : Shared} {env : Env} {value slice : Expr} {pos : Pos} {T id : String} {Q : Value → Shared → Prop}
    (hl : typeLookup (.type T) "__getitem__" = pure (some (.builtin id))) (hs : NoSl slice)
    (h : wpAny (model prog w) A (eval value env) (fun o s₁ => wpAny (model prog w) A (eval slice env) (fun i s₂ => s₂.TypeIs o T ∧ wpAny (model prog w) A (getItem o i) Q E s₂) E s₁) E s) :
    wpAny (model prog w) A (eval (.Subscript value slice pos) env) Q E s := by
  refine Subscript_ (wpAny_mono h (fun o s₁ h₁ => wpAny_mono h₁ (fun i s₂ h₂ => ?_) fun _ _ x => x) fun _ _ x => x)
  obtain ⟨hT, h₂⟩ := h₂
  unfold subscriptTail
  refine wpAny_bind ?_
  rw [getitemInPython_of_ne hT.not_modules]
  refine wpAny_bind (wpAny_specialOf hT hl ?_)
  have fin : wpAny (model prog w) A (subscripted slice false o i) (fun r s₃ => wpAny (model prog w) A (letTemporaryGo value o r >>= fun _ => pure r) Q E s₃) E s₂ := by
    rw [hs o i]
    exact wpAny_operating (wpAny_mono h₂ (fun r s₃ h₃ => wpAny_bind (wpAny_letTemporaryGo (wpAny_pure h₃))) fun _ _ x => x)
  first
    | exact wpAny_pure (wpAny_bind fin)
    | exact wpAny_bind (wpAny_pure (wpAny_bind fin))
    | exact wpAny_bind fin
theorem dict_typeIs {X : Cx} {pins : List (Addr × Obj)} {σ : St} {H : Hp} {s : Shared} {a : Addr} {y : V} {o : Option V} (I : Inv X pins σ H s) (g : DGet H a y o) : s.TypeIs (.ref a) "dict" := by
  rcases g with ⟨kvs, k, e, _, _⟩ | ⟨kvs, k, b, e, _, _, _⟩
  · obtain ⟨_, _, vs, _, dd⟩ := dk_rd I.hok e
    exact dd.typeIs
  · obtain ⟨_, _, xs, _, dd⟩ := dt_rd I.hok e
    exact dd.typeIs
theorem dict_noDict {X : Cx} {pins : List (Addr × Obj)} {σ : St} {H : Hp} {s : Shared} {a : Addr} {y : V} {o : Option V} (I : Inv X pins σ H s) (g : DGet H a y o) :
    ∀ b, Value.ref a = .ref b → ∃ ob, s.heap.get? b = some ob ∧ ob.dict = none := fun b q => by
  cases q
  rcases g with ⟨kvs, k, e, _, _⟩ | ⟨kvs, k, b, e, _, _, _⟩
  · obtain ⟨_, _, vs, _, ob, _, _, h1, h2, _⟩ := dk_rd I.hok e
    exact ⟨ob, h1, h2.2.1⟩
  · obtain ⟨_, _, xs, _, ob, _, _, h1, h2, _⟩ := dt_rd I.hok e
    exact ⟨ob, h1, h2.2.1⟩
def tDGet (td ty : TE) : TE := fun σ H Q => td σ H fun x H1 => ty σ H1 fun y H2 => ∃ a v, x = .ref a ∧ DGet H2 a y (some v) ∧ Q v H2
def tDIn (ty td : TE) : TE := fun σ H Q => ty σ H fun y H1 => td σ H1 fun x H2 => ∃ a o, x = .ref a ∧ DGet H2 a y o ∧ Q (.bl o.isSome) H2
def tDNotIn (ty td : TE) : TE := fun σ H Q => ty σ H fun y H1 => td σ H1 fun x H2 => ∃ a o, x = .ref a ∧ DGet H2 a y o ∧ Q (.bl (!o.isSome)) H2
def sDPut (td ty tv : TE) : TS := fun D σ H => tv σ H fun v H1 => td σ H1 fun x H2 => ty σ H2 fun y H3 => ∃ a H4, x = .ref a ∧ DPut H3 a y v H4 ∧ D.nx σ H4
def sDAug (td ty tv : TE) (rd : V → V → Hp → VK → Prop) : TS := fun D σ H => td σ H fun x H1 => ty σ H1 fun y H2 => ∃ a v, x = .ref a ∧ DGet H2 a y (some v) ∧
  tv σ H2 fun y2 H3 => rd v y2 H3 fun z H4 => ∃ H5, DPut H4 a y z H5 ∧ D.nx σ H5
def sDDel (td ty : TE) : TS := fun D σ H => td σ H fun x H1 => ty σ H1 fun y H2 => ∃ a kvs k, x = .ref a ∧ H2 a = some (.dK kvs) ∧ y = kV k ∧ (valV kvs k).isSome = true ∧ D.nx σ (upd H2 a (.dK (dropK kvs k)))
section
variable {X : Cx} {o i e value : Expr} {pos pos' tpos : Pos} {td ty tv : TE}
theorem pe_dget (hu : X.A.units + 1 < cLine) (ho : PE X o td) (hi : PE X i ty) (hs : NoSl i) : PE X (.Subscript o i pos) (tDGet td ty) := by
  intro pins s σ H Q I h
  refine subD_of PySem.F.slot_dict_getitem.lookup hs (thn (ho pins s σ H _ I h) fun u s1 ⟨x, H1, I1, rx, q1⟩ => thn (hi pins s1 σ H1 _ I1 q1) fun iv s2 ⟨y, H2, I2, ry, a, v, ex, g, q2⟩ => ?_)
  subst ex
  obtain rfl : u = Value.ref a := rx
  exact ⟨dict_typeIs I2 g, d_getItem hu I2 g ry fun w' s3 I3 rw' => ⟨v, H2, I3, rw', q2⟩⟩
theorem pc_din (hu : X.A.units + 1 < cLine) (hi : PE X i ty) (ho : PE X o td) : PC X .In i o (tDIn ty td) := by
  intro pins s σ H Q I h
  refine thn (hi pins s σ H _ I h) fun iv s1 ⟨y, H1, I1, ry, q1⟩ => thn (ho pins s1 σ H1 _ I1 q1) fun u s2 ⟨x, H2, I2, rx, a, ov, ex, g, q2⟩ => ?_
  subst ex
  obtain rfl : u = Value.ref a := rx
  exact d_in hu I2 g ry fun s3 I3 => ⟨.bl ov.isSome, H2, I3, rfl, q2⟩
theorem pc_dnotin (hu : X.A.units + 1 < cLine) (hi : PE X i ty) (ho : PE X o td) : PC X .NotIn i o (tDNotIn ty td) := by
  intro pins s σ H Q I h
  refine thn (hi pins s σ H _ I h) fun iv s1 ⟨y, H1, I1, ry, q1⟩ => thn (ho pins s1 σ H1 _ I1 q1) fun u s2 ⟨x, H2, I2, rx, a, ov, ex, g, q2⟩ => ?_
  subst ex
  obtain rfl : u = Value.ref a := rx
  exact d_notIn hu I2 g ry fun s3 I3 => ⟨.bl (!ov.isSome), H2, I3, rfl, q2⟩
theorem ps_dput (hu : X.A.units + 1 < cLine) (ho : PE X o td) (hi : PE X i ty) (hv : PE X value tv) (hs : swapsWith value (some (.Subscript o i pos')) pos.line X.env = pure false) :
    PS X (.Assign [.Subscript o i pos'] value pos) (sDPut td ty tv) := by
  intro pins s σ H D I h
  refine wpAny_Assign_Subscript (thn (hv pins s σ H _ I h) fun r s1 ⟨v, H1, I1, rv, q1⟩ => thn (ho pins s1 σ H1 _ I1 q1) fun u s2 ⟨x, H2, I2, rx, q2⟩ => thn (hi pins s2 σ H2 _ I2 q2) fun iv s3 ⟨y, H3, I3, ry, a, H4, ex, g, q3⟩ => ?_) hs
  subst ex
  obtain rfl : u = Value.ref a := rx
  exact d_setItem hu I3 g ry rv fun s4 I4 => ⟨σ, H4, I4, q3⟩
theorem ps_daug {op : Operator} {rd : V → V → Hp → VK → Prop} (hu : X.A.units + 1 < cLine) (ho : PE X o td) (hi : PE X i ty) (hv : PE X value tv) (hop : InOp X op rd)
    (ha : ∀ ov iv new, augStore i ov iv new = (do holding [new, ov, iv] (setItem ov iv new); release [new, ov, iv] []; pure .next)) : PS X (.AugAssign (.Subscript o i tpos) op value pos) (sDAug td ty tv rd) := by
  intro pins s σ H D I h
  refine wpAny_AugAssign_SubscriptAny (thn (ho pins s σ H _ I h) fun u s1 ⟨x, H1, I1, rx, q1⟩ => thn (hi pins s1 σ H1 _ I1 q1) fun iv s2 ⟨y, H2, I2, ry, a, v, ex, g, q2⟩ => ?_) ha
  subst ex
  obtain rfl : u = Value.ref a := rx
  refine d_getItem hu I2 g ry fun w' s3 I3 rw' => thn (hv pins s3 σ H2 _ I3 q2) fun w2 s4 ⟨y2, H3, I4, ry2, q3⟩ => thn (hop pins s4 σ H3 v y2 w' w2 _ I4 rw' ry2 q3) fun w3 s5 ⟨z, H4, I5, rz, H5, g5, q4⟩ => ?_
  exact d_setItem hu I5 g5 ry rz fun s6 I6 => ⟨σ, H5, I6, q4⟩
theorem ps_ddel (ho : PE X o td) (hi : PE X i ty) : PS X (.Delete [.Subscript o i tpos] pos) (sDDel td ty) := by
  intro pins s σ H D I h
  refine wpAny_Delete (wpAny_deleteEach_cons (wpAny_delete_Subscript (thn (ho pins s σ H _ I h) fun u s1 ⟨x, H1, I1, rx, q1⟩ => thn (hi pins s1 σ H1 _ I1 q1) fun iv s2 ⟨y, H2, I2, ry, a, kvs, k, ex, e, ey, l, q2⟩ => ?_)))
  subst ex ey
  obtain rfl : u = Value.ref a := rx
  exact d_delItem I2 e ry l fun s3 I3 => wpAny_deleteEach_nil ⟨σ, _, I3, q2⟩
end
theorem dk_empty {P : Program} {w : World} {H : Hp} (h : Heap) (hb : sysModules < h.objs.size) : ObjOk P w H (h.push { cls := .type "dict", data := .dict #[] }) h.objs.size (.dK []) :=
  ⟨Nat.zero_le _, beq_eq_false_iff_ne.mpr (Ne.symm (Nat.ne_of_lt hb)), [], .nil, Heap.DictOf.new h⟩
theorem dt_empty {P : Program} {w : World} {H : Hp} (h : Heap) (hb : sysModules < h.objs.size) : ObjOk P w H (h.push { cls := .type "dict", data := .dict #[] }) h.objs.size (.dT []) :=
  ⟨Nat.zero_le _, beq_eq_false_iff_ne.mpr (Ne.symm (Nat.ne_of_lt hb)), [], .nil, _, #[], 0, Heap.get?_push_size _ rfl, ⟨rfl, rfl, rfl⟩, rfl, rfl, List.nodup_nil⟩
def tDNewK : TE := fun _ H Q => ∀ p, H p = none → Q (.ref p) (upd H p (.dK []))
def tDNewT : TE := fun _ H Q => ∀ p, H p = none → Q (.ref p) (upd H p (.dT []))
section
variable {X : Cx} {pos : Pos}
theorem pe_dnewK : PE X (.Dict [] [] pos) tDNewK := fun pins s σ H Q I h =>
  wpAny_Dict_empty ⟨.ref s.heap.objs.size, _, I.laid (a := s.heap.objs.size) (o := .dK []) (t' := s.toks) (fun _ _ q => Heap.get?_push_of_some _ q) (Nat.le_refl _) (dk_empty s.heap I.big), rfl, h _ (I.hok.fresh (Nat.le_refl _))⟩
theorem pe_dnewT : PE X (.Dict [] [] pos) tDNewT := fun pins s σ H Q I h =>
  wpAny_Dict_empty ⟨.ref s.heap.objs.size, _, I.laid (a := s.heap.objs.size) (o := .dT []) (t' := s.toks) (fun _ _ q => Heap.get?_push_of_some _ q) (Nat.le_refl _) (dt_empty s.heap I.big), rfl, h _ (I.hok.fresh (Nat.le_refl _))⟩
end
def tPairs : List (TE × TE) → St → Hp → (List (V × V) → Hp → Prop) → Prop
  | [], _, H, Q => Q [] H
  | (tk, tv) :: r, σ, H, Q => tk σ H fun x H1 => tv σ H1 fun y H2 => tPairs r σ H2 fun ps H3 => Q ((x, y) :: ps) H3
abbrev VV : List (V × V) → List (Value × Value) → Prop := Paired fun p q => RelV p.1 q.1 ∧ RelV p.2 q.2
def PPs (X : Cx) (pos : Pos) (keys : List (Option Expr)) (values : List Expr) (trs : List (TE × TE)) : Prop :=
  ∀ (pins : List (Addr × Obj)) (s : Shared) (σ : St) (H : Hp) (Q : List (V × V) → Hp → Prop), Inv X pins σ H s → tPairs trs σ H Q →
    wpAny (model X.prog X.w) X.A (evalPairs (pairTrees keys values X.env pos)) (fun vs s' => ∃ ps H', Inv X pins σ H' s' ∧ VV ps vs ∧ Q ps H') X.xe s
theorem pps_nil {X : Cx} {pos : Pos} : PPs X pos [] [] [] := fun pins s σ H Q I h => pairTrees_nil_walk ⟨[], H, I, .nil, h⟩
theorem pps_cons {X : Cx} {pos : Pos} {k v : Expr} {ks : List (Option Expr)} {vs : List Expr} {tk tv : TE} {trs : List (TE × TE)} (hk : PE X k tk) (hv : PE X v tv) (hr : PPs X pos ks vs trs) :
    PPs X pos (some k :: ks) (v :: vs) ((tk, tv) :: trs) := fun pins s σ H Q I h =>
  pairTrees_cons_walk (thn (hk pins s σ H _ I h) fun u s1 ⟨x, H1, I1, rx, q1⟩ => thn (hv pins s1 σ H1 _ I1 q1) fun w2 s2 ⟨y, H2, I2, ry, q2⟩ =>
    thn (hr pins s2 σ H2 _ I2 q2) fun ws s3 ⟨ps, H3, I3, rel, q3⟩ => ⟨(x, y) :: ps, H3, I3, .cons ⟨rx, ry⟩ rel, q3⟩)
def mergeK (kvs more : List (Key × V)) : List (Key × V) := more.foldl (fun acc kv => putK acc kv.1 kv.2) kvs
theorem KV.merge : ∀ {more : List (Key × V)} {rs : List (Key × Value)} {kvs : List (Key × V)} {vs : List (Key × Value)}, KV more rs → KV kvs vs → KV (mergeK kvs more) (merged vs rs) := by
  intro more rs kvs vs r
  unfold KV at r
  induction r generalizing kvs vs with
  | nil => intro q; exact q
  | @cons p q ps qs h t ih =>
    intro r0
    have e : KV (putK kvs p.1 p.2) (stored vs q.1 q.2) := by
      have := r0.put p.1 h.2
      rw [← h.1]; exact this
    exact ih e
theorem length_mergeK : ∀ (more kvs : List (Key × V)), (mergeK kvs more).length ≤ kvs.length + more.length
  | [], kvs => by show kvs.length ≤ kvs.length + 0; omega
  | p :: r, kvs => by
    have h1 := length_mergeK r (putK kvs p.1 p.2)
    have h2 := length_putK kvs p.1 p.2
    show (mergeK (putK kvs p.1 p.2) r).length ≤ _
    rw [List.length_cons]; omega
theorem carries_of {P : Program} {w : World} : ∀ {kvs : List (Key × V)} {ws : List (Value × Value)}, VV (kvs.map fun kv => (kV kv.1, kv.2)) ws → ∃ rs, Carries (mixKind P w) ws rs ∧ KV kvs rs
  | [], _, r => by rw [List.map_nil] at r; cases r; exact ⟨[], True.intro, .nil⟩
  | p :: kvs, _, r => by
    rw [List.map_cons] at r
    cases r with
    | @cons a b as bs h t =>
      obtain ⟨rs, c, q⟩ := carries_of (P := P) (w := w) t
      obtain ⟨b1, b2⟩ := b
      exact ⟨(p.1, b2) :: rs, ⟨kV_is h.1, rfl, c⟩, .cons ⟨rfl, h.2⟩ q⟩
def tDisp (trs : List (TE × TE)) : TE := fun σ H Q => ∀ p, H p = none → tPairs trs σ (upd H p (.dK [])) fun ps H2 => H2 p = some (.dK []) ∧ ∃ kvs : List (Key × V), ps = kvs.map (fun kv => (kV kv.1, kv.2)) ∧ kvs.length ≤ 15 ∧ Q (.ref p) (upd H2 p (.dK (mergeK [] kvs)))
theorem pe_disp {X : Cx} {pos : Pos} {keys : List (Option Expr)} {values : List Expr} {trs : List (TE × TE)} (h : PPs X pos keys values trs) (hall : keys.all (·.isSome) = true) (hl : keys.length = values.length) (h0 : keys ≠ [])
    (h15 : keys.length ≤ 15) : PE X (.Dict keys values pos) (tDisp trs) := by
  intro pins s σ H Q I q
  have hn := I.hok.fresh (Nat.le_refl s.heap.objs.size)
  have I1 := I.laid (a := s.heap.objs.size) (o := .dK []) (h' := s.heap.push { cls := .type "dict", data := .dict #[] }) (t' := s.toks) (fun _ _ q => Heap.get?_push_of_some _ q) (Nat.le_refl _) (dk_empty s.heap I.big)
  refine wpAny_Dict_walk (knd := mixKind X.prog X.w) hall hl h0 h15 (thn (h pins _ σ _ _ I1 (q _ hn)) fun ws s2 ⟨ps, H2, I2, rel, e, kvs, ep, lk, q2⟩ => ?_)
  subst ep
  obtain ⟨rs, c, rk⟩ := carries_of (P := X.prog) (w := X.w) rel
  obtain ⟨z, hd, vs0, r0, dd⟩ := dk_of I2.hok e
  cases r0
  refine ⟨rs, c, dd, fun h' dd' hs => ⟨.ref s.heap.objs.size, _, ?_, rfl, q2⟩⟩
  have hz : (mergeK [] kvs).length ≤ sizeLine := by
    have h1 := length_mergeK kvs []
    rw [List.length_nil] at h1
    rw [sizeLine_eq]; omega
  have he : ∃ q, h'.get? s.heap.objs.size = some q := let ⟨q, _, _, hq, _⟩ := dd'; ⟨q, hq⟩
  exact d_write I2 (by rw [e]; exact True.intro) hs he (dk_new hz hd (rk.merge .nil) dd')
structure M1 (X : Cx) (o : Expr) (m : Str) (apos : Pos) (e : Expr) (cpos : Pos) : Prop where
  base : attributeBase o m X.env (eval o X.env) = eval o X.env
  few : ((backTo cpos (starEach [e] X.env)).all (fun x => !x.1) && (backToKw cpos (keywordEach [] X.env)).all (fun x => x.1.isSome)
    && decide (([e] : List Expr).length + ([] : List Keyword).length + (if ([] : List Keyword).isEmpty then 0 else 1) < 30)) = true
  line : (apos.endLine == cpos.line) = true
  trees : backTo cpos (starEach [e] X.env) = [(false, eval e X.env)]
structure M2 (X : Cx) (o : Expr) (m : Str) (apos : Pos) (e f : Expr) (cpos : Pos) : Prop where
  base : attributeBase o m X.env (eval o X.env) = eval o X.env
  few : ((backTo cpos (starEach [e, f] X.env)).all (fun x => !x.1) && (backToKw cpos (keywordEach [] X.env)).all (fun x => x.1.isSome)
    && decide (([e, f] : List Expr).length + ([] : List Keyword).length + (if ([] : List Keyword).isEmpty then 0 else 1) < 30)) = true
  line : (apos.endLine == cpos.line) = true
  trees : backTo cpos (starEach [e, f] X.env) = [(false, eval e X.env), (false, eval f X.env)]
def IsD (H : Hp) (a : Addr) : Prop := (∃ kvs, Rd H a (.dK kvs)) ∨ ∃ kvs, Rd H a (.dT kvs)
theorem isD_at {X : Cx} {pins : List (Addr × Obj)} {σ : St} {H : Hp} {s : Shared} {a : Addr} (I : Inv X pins σ H s) (d : IsD H a) :
    s.TypeIs (.ref a) "dict" ∧ (∀ b, Value.ref a = .ref b → ∃ ob, s.heap.get? b = some ob ∧ ob.dict = none) ∧ (a == sysModules) = false := by
  rcases d with ⟨kvs, e⟩ | ⟨kvs, e⟩
  · obtain ⟨_, hd, vs, _, dd⟩ := dk_rd I.hok e
    refine ⟨dd.typeIs, fun b q => ?_, hd⟩
    cases q
    obtain ⟨ob, _, _, h1, h2, _⟩ := dd
    exact ⟨ob, h1, h2.2.1⟩
  · obtain ⟨_, hd, xs, _, dd⟩ := dt_rd I.hok e
    refine ⟨dd.typeIs, fun b q => ?_, hd⟩
    cases q
    obtain ⟨ob, _, _, h1, h2, _⟩ := dd
    exact ⟨ob, h1, h2.2.1⟩
section
variable {X : Cx} {pins : List (Addr × Obj)} {σ : St} {H : Hp} {s : Shared} {a : Addr} {y d : V} {u r : Value} {o : Option V} {A : Around} {E : Value → Shared → Prop}
theorem d_get1 {Q : Value → Shared → Prop} (hu : A.units + 1 < cLine) (I : Inv X pins σ H s) (g : DGet H a y o) (ry : RelV y u) (h : ∀ w' s', Inv X pins σ H s' → RelV (o.getD .non) w' → Q w' s') :
    wpAny (model X.prog X.w) A (call (.builtin "dict.get") [.ref a, u]) Q E s := by
  rcases g with ⟨kvs, k, e, ey, l⟩ | ⟨kvs, k, b, e, ey, eb, l⟩
  · subst ey
    obtain ⟨z, hd, vs, rel, dd⟩ := dk_rd I.hok e
    refine call_meetsIn PySem.F.slot_dict_get dd.typeIs PySem.F.entry_dict_get (PySem.F.args_dict_get_2 _ _) (meets_dict_get (mixKind X.prog X.w) a (kV_is ry) hd) ⟨_, dd.mapOf, h _ _ (I.tok _) ?_⟩
    rw [l]
    exact (rel.val k).getD rfl
  · subst ey
    cases (show u = Value.ref b from ry)
    obtain ⟨z, hd, xs, rel, dd⟩ := dt_rd I.hok e
    refine call_meetsIn PySem.F.slot_dict_get dd.typeIs PySem.F.entry_dict_get (PySem.F.args_dict_get_2 _ _) (meetsH_dict_get (tupleKind (mixKind X.prog X.w)) a b hd) ⟨tupleKind_room_in1 hu, k, xs, key_of I.hok eb, dd, h _ _ (I.tok _) ?_⟩
    rw [l]
    exact (rel.val k).getD rfl
theorem d_get2 {Q : Value → Shared → Prop} (hu : A.units + 1 < cLine) (I : Inv X pins σ H s) (g : DGet H a y o) (ry : RelV y u) (rd : RelV d r) (h : ∀ w' s', Inv X pins σ H s' → RelV (o.getD d) w' → Q w' s') :
    wpAny (model X.prog X.w) A (call (.builtin "dict.get") [.ref a, u, r]) Q E s := by
  rcases g with ⟨kvs, k, e, ey, l⟩ | ⟨kvs, k, b, e, ey, eb, l⟩
  · subst ey
    obtain ⟨z, hd, vs, rel, dd⟩ := dk_rd I.hok e
    refine call_meetsIn PySem.F.slot_dict_get dd.typeIs PySem.F.entry_dict_get (PySem.F.args_dict_get_3 _ _ _) (meets_dict_get_default (mixKind X.prog X.w) a (kV_is ry) hd r) ⟨_, dd.mapOf, h _ _ (I.tok _) ?_⟩
    rw [l]
    exact (rel.val k).getD rd
  · subst ey
    cases (show u = Value.ref b from ry)
    obtain ⟨z, hd, xs, rel, dd⟩ := dt_rd I.hok e
    refine call_meetsIn PySem.F.slot_dict_get dd.typeIs PySem.F.entry_dict_get (PySem.F.args_dict_get_3 _ _ _) (meetsH_dict_get_default (tupleKind (mixKind X.prog X.w)) a b hd r) ⟨tupleKind_room_in1 hu, k, xs, key_of I.hok eb, dd, h _ _ (I.tok _) ?_⟩
    rw [l]
    exact (rel.val k).getD rd
end
def tDGet1 (td ty : TE) : TE := fun σ H Q => td σ H fun x H1 => ∃ a, x = .ref a ∧ IsD H1 a ∧ ty σ H1 fun y H2 => ∃ o, DGet H2 a y o ∧ Q (o.getD .non) H2
def tDGet2 (td ty tx : TE) : TE := fun σ H Q => td σ H fun x H1 => ∃ a, x = .ref a ∧ IsD H1 a ∧ ty σ H1 fun y H2 => tx σ H2 fun z H3 => ∃ o, DGet H3 a y o ∧ Q (o.getD z) H3
def tDPop1 (td ty : TE) : TE := fun σ H Q => td σ H fun x H1 => ∃ a, x = .ref a ∧ IsD H1 a ∧ ty σ H1 fun y H2 => ∃ kvs k v, H2 a = some (.dK kvs) ∧ y = kV k ∧ valV kvs k = some v ∧ Q v (upd H2 a (.dK (dropK kvs k)))
def tDPop2 (td ty tx : TE) : TE := fun σ H Q => td σ H fun x H1 => ∃ a, x = .ref a ∧ IsD H1 a ∧ ty σ H1 fun y H2 => tx σ H2 fun z H3 => ∃ kvs k, H3 a = some (.dK kvs) ∧ y = kV k ∧
  (∀ v, valV kvs k = some v → Q v (upd H3 a (.dK (dropK kvs k)))) ∧ (valV kvs k = none → Q z H3)
section
variable {X : Cx} {o e f : Expr} {apos cpos : Pos} {td ty tx : TE}
theorem pe_dget1 (hu : X.A.units + 1 < cLine) (ho : PE X o td) (he : PE X e ty) (m : M1 X o "get" apos e cpos) : PE X (.Call (.Attribute o "get" apos) [e] [] cpos) (tDGet1 td ty) := by
  intro pins s σ H Q I h
  refine wpAny_Call_method m.base m.few m.line PySem.F.plainAttrs_dict PySem.F.slot_dict_get PySem.F.type_dict_get (thn (ho pins s σ H _ I h) fun u s1 ⟨x, H1, I1, rx, a, ex, d, q1⟩ => ?_)
  subst ex
  obtain rfl : u = Value.ref a := rx
  obtain ⟨t1, t2, _⟩ := isD_at I1 d
  refine ⟨t1, t2, ?_⟩
  rw [m.trees]
  refine Calls.callWith_builtin rfl (Calls.evalArgs_plain (Calls.spliced_cons (thn (he pins s1 σ H1 _ I1 q1) fun iv s2 ⟨y, H2, I2, ry, ov, g, q2⟩ => Calls.spliced_nil ?_)))
  exact d_get1 hu I2 g ry fun w' s3 I3 rw' => ⟨_, H2, I3, rw', q2⟩
theorem pe_dget2 (hu : X.A.units + 1 < cLine) (ho : PE X o td) (he : PE X e ty) (hf : PE X f tx) (m : M2 X o "get" apos e f cpos) : PE X (.Call (.Attribute o "get" apos) [e, f] [] cpos) (tDGet2 td ty tx) := by
  intro pins s σ H Q I h
  refine wpAny_Call_method m.base m.few m.line PySem.F.plainAttrs_dict PySem.F.slot_dict_get PySem.F.type_dict_get (thn (ho pins s σ H _ I h) fun u s1 ⟨x, H1, I1, rx, a, ex, d, q1⟩ => ?_)
  subst ex
  obtain rfl : u = Value.ref a := rx
  obtain ⟨t1, t2, _⟩ := isD_at I1 d
  refine ⟨t1, t2, ?_⟩
  rw [m.trees]
  refine Calls.callWith_builtin rfl (Calls.evalArgs_plain (Calls.spliced_cons (thn (he pins s1 σ H1 _ I1 q1) fun iv s2 ⟨y, H2, I2, ry, q2⟩ =>
    Calls.spliced_cons (thn (hf pins s2 σ H2 _ I2 q2) fun fv s3 ⟨z, H3, I3, rz, ov, g, q3⟩ => Calls.spliced_nil ?_))))
  exact d_get2 hu I3 g ry rz fun w' s4 I4 rw' => ⟨_, H3, I4, rw', q3⟩
theorem pe_dpop1 (ho : PE X o td) (he : PE X e ty) (m : M1 X o "pop" apos e cpos) : PE X (.Call (.Attribute o "pop" apos) [e] [] cpos) (tDPop1 td ty) := by
  intro pins s σ H Q I h
  refine wpAny_Call_method m.base m.few m.line PySem.F.plainAttrs_dict PySem.F.slot_dict_pop PySem.F.type_dict_pop (thn (ho pins s σ H _ I h) fun u s1 ⟨x, H1, I1, rx, a, ex, d, q1⟩ => ?_)
  subst ex
  obtain rfl : u = Value.ref a := rx
  obtain ⟨t1, t2, _⟩ := isD_at I1 d
  refine ⟨t1, t2, ?_⟩
  rw [m.trees]
  refine Calls.callWith_builtin rfl (Calls.evalArgs_plain (Calls.spliced_cons (thn (he pins s1 σ H1 _ I1 q1) fun iv s2 ⟨y, H2, I2, ry, kvs, k, v, ea, ey, l, q2⟩ => Calls.spliced_nil ?_)))
  subst ey
  exact d_pop I2 ea ry l (.inl rfl) fun w' s3 I3 rw' => ⟨v, _, I3, rw', q2⟩
theorem pe_dpop2 (ho : PE X o td) (he : PE X e ty) (hf : PE X f tx) (m : M2 X o "pop" apos e f cpos) : PE X (.Call (.Attribute o "pop" apos) [e, f] [] cpos) (tDPop2 td ty tx) := by
  intro pins s σ H Q I h
  refine wpAny_Call_method m.base m.few m.line PySem.F.plainAttrs_dict PySem.F.slot_dict_pop PySem.F.type_dict_pop (thn (ho pins s σ H _ I h) fun u s1 ⟨x, H1, I1, rx, a, ex, d, q1⟩ => ?_)
  subst ex
  obtain rfl : u = Value.ref a := rx
  obtain ⟨t1, t2, _⟩ := isD_at I1 d
  refine ⟨t1, t2, ?_⟩
  rw [m.trees]
  refine Calls.callWith_builtin rfl (Calls.evalArgs_plain (Calls.spliced_cons (thn (he pins s1 σ H1 _ I1 q1) fun iv s2 ⟨y, H2, I2, ry, q2⟩ =>
    Calls.spliced_cons (thn (hf pins s2 σ H2 _ I2 q2) fun fv s3 ⟨z, H3, I3, rz, kvs, k, ea, ey, q3, q4⟩ => Calls.spliced_nil ?_))))
  subst ey
  cases l : valV kvs k with
  | some v => exact d_pop I3 ea ry l (.inr ⟨fv, rfl⟩) fun w' s4 I4 rw' => ⟨v, _, I4, rw', q3 v l⟩
  | none => exact d_popD I3 ea ry l fun s4 I4 => ⟨z, H3, I4, rz, q4 l⟩
end
section
variable {X : Cx} {pins : List (Addr × Obj)} {σ : St} {H : Hp} {s : Shared} {a : Addr} {kvs : List (Key × V)} {A : Around} {E : Value → Shared → Prop}
theorem d_copyOf {Q : Value → Shared → Prop} (I : Inv X pins σ H s) (e : Rd H a (.dK kvs)) (h : ∀ p s', H p = none → Inv X pins σ (upd H p (.dK kvs)) s' → Q (.ref p) s') : wpAny (model X.prog X.w) A (call (.type "dict") [.ref a]) Q E s := by
  obtain ⟨z, hd, vs, rel, dd⟩ := dk_rd I.hok e
  refine kt_call_dict hd dd (by rw [← rel.length]; exact z) fun h' dd' hs => ?_
  refine h _ _ (I.hok.fresh (Nat.le_refl _)) (I.laid (a := s.heap.objs.size) (o := .dK kvs) (t' := s.toks) (fun b q hq => ?_) (Nat.le_refl _) (dk_new z (beq_eq_false_iff_ne.mpr (Ne.symm (Nat.ne_of_lt I.big))) rel dd'))
  exact (hs.2 b (Nat.ne_of_lt (Heap.lt_size hq))).trans (Heap.get?_push_of_some _ hq)
end
section
variable {X : Cx} {pins : List (Addr × Obj)} {σ : St} {H : Hp} {s : Shared} {a : Addr} {y : V} {u : Value} {A : Around} {E : Value → Shared → Prop}
theorem d_missing {Q : Value → Shared → Prop} (hu : A.units + 1 < cLine) (hh : A.handled = none) (I : Inv X pins σ H s) (g : DGet H a y none) (ry : RelV y u)
    (h : ∀ h' e t', Heap.NewExc s.heap h' e "KeyError" → E (.ref e) { s with heap := h', toks := t' }) : wpAny (model X.prog X.w) A (getItem (.ref a) u) Q E s := by
  rcases g with ⟨kvs, k, e, ey, l⟩ | ⟨kvs, k, b, e, ey, eb, l⟩
  · subst ey
    obtain ⟨z, hd, vs, rel, dd⟩ := dk_rd I.hok e
    have hn : valueAt vs k = none := RelO.none_of (by rw [l]; exact rel.val k)
    exact wpAny_getItem_missing_of (kV_is ry) hd hh dd.mapOf hn fun h' ex ne => h h' ex _ ne
  · subst ey
    cases (show u = Value.ref b from ry)
    obtain ⟨z, hd, xs, rel, dd⟩ := dt_rd I.hok e
    have hn : (atKey xs k).map (·.2) = none := RelO.none_of (by rw [l]; exact rel.val k)
    exact wpAny_getItem_missing_heap (tupleKind_room_in1 hu) (key_of I.hok eb) hd hh dd (Option.map_eq_none_iff.mp hn) fun h' ex ne => h h' ex _ ne
end
end L2
namespace Att
open PySem PySem.W PySem.Calls PyProof.Rows
theorem ints_of_wellAll {P : Params} {h : Heap} : ∀ (ns : List Int) (vs : List Value), WellAll P h vs (ns.map WData.int) → IntsAre vs ns := by
  intro ns
  induction ns with
  | nil =>
    intro vs w
    rw [List.map_nil] at w
    cases w
    exact .nil
  | cons n ns ih =>
    intro vs w
    rw [List.map_cons] at w
    cases w with
    | cons a b =>
      cases a
      exact .cons _ _ (ih _ b)
theorem script_of {l : OpenLaw} {n : Nat} (hn : l.most = some n) {P : Params} {h : Heap} {args : List WData} {vals : List Value}
    (hpre : l.row.toRowW.claim.pre args = true) (hwl : WellAll P h vals args) :
    ∃ a vs ns, vals = [Value.ref a] ∧ args = [WData.list (ns.map WData.int)] ∧ h.get? a = some { cls := .type "list", data := .seq vs.toArray } ∧ IntsAre vs ns ∧ ns.length ≤ n := by
  have hsh : WShape.hasAll [] args [.list .int] = true := (pre_splitW hpre).1
  have hc : l.pre.holds [] { args := args } = true := (pre_splitW hpre).2
  obtain ⟨d, r, rfl, h1, h2⟩ := hasAllW_cons hsh
  obtain rfl := hasAllW_nil h2
  obtain ⟨xs, rfl, h3⟩ := hasW_list h1
  obtain ⟨ns, rfl⟩ := items_int h3
  have hlen : ns.length ≤ n := by
    unfold OpenLaw.pre at hc
    have h4 : (WTm.not (.lt (.lit (.int (n : Int))) (.len (.arg 0)))).holds [] { args := [.list (ns.map .int)] } = true := by
      have h4 := (holds_andW hc).1
      rw [hn] at h4
      exact h4
    have h5 := condW_of h4 (w_not (w_lt w_lit (w_len_list (w_arg rfl))))
    rw [List.length_map] at h5
    refine Nat.le_of_not_lt fun q => ?_
    have q' : (n : Int) < ((ns.length : Nat) : Int) := by omega
    first
      | (rw [decide_eq_true q'] at h5; exact absurd h5 (by decide))
      | (simp at h5; omega)
  cases hwl with
  | cons w1 w2 =>
    cases w2
    cases w1 with
    | list ho hall => exact ⟨_, _, ns, rfl, rfl, ho, ints_of_wellAll ns _ hall, hlen⟩
theorem post_true (l : OpenLaw) (args : List WData) : l.row.toRowW.claim.post args (.bool true) args = true :=
  postW_of (r := l.row.toRowW) (X := (true == true))
    (show WShape.has [] (.bool true) .bool = true by first | rfl | decide | simp [WShape.has, WShape.arms, WShape.armsAll])
    (show (WTm.eq .res (.lit (.bool true))).value [] { args := args, res := some (.bool true), after := args } = some (.bool (true == true)) from w_eq_bool (w_res rfl) w_lit) rfl
theorem attach {l : OpenLaw} {n : Nat} {q : Program} {loose : List Str} {XP : (Str → Option Value) → Heap → Prop} {YP : World → Heap → Prop} {d : DefRec} {x : Str}
    (hn : l.most = some n) (hdf : d.params.defaults = [])
    (hbind : ∀ pm cd doc v : Value, bindArgs (docDef d.name d.params d.body d.scope pm cd doc) ⟨[v], []⟩ = pure [(x, v)])
    (hx : d.scope.names.lookup x = some .local ∨ d.scope.names.lookup x = some .cell)
    (hk : d.scope.kind = .function) (hco : d.scope.isCoroutine = false) (hgen : d.scope.isGenerator = false)
    (body : ∀ (w : World) (s₀ s₁ s : Shared) (mg mb : Str → Option Value) (fa : Addr) (o : Obj) (pm cd doc : Value) (a : Addr) (vs : List Value) (ns : List Int),
      Ground q loose [] XP w s₀ mg mb s₁.heap → YP w s₁.heap →
      s₁.heap.get? fa = some o → o.data = .func (docDef d.name d.params d.body d.scope pm cd doc) → s₁.heap.CodeRec cd d.name → mg d.name = some (.ref fa) →
      s₁.heap.get? a = some { cls := .type "list", data := .seq vs.toArray } → IntsAre vs ns → ns.length ≤ n →
      s.gens = #[] → s.os = s₁.os →
      Fr s₁.heap s₁.heap.objs.size s.heap (bindL (envOfC d.name d.scope s₁.heap.objs.size fa cd).kindOf [(x, .ref a)] fun _ => none) →
      Cl s₁.heap.objs.size (cellsFrom (s₁.heap.objs.size + 1) d.scope.names []) s.heap (bindC (envOfC d.name d.scope s₁.heap.objs.size fa cd).kindOf [(x, .ref a)] fun _ => none) →
      wpAny (model l.prog w) (callerA.deeper (envOfC d.name d.scope s₁.heap.objs.size fa cd)) (execs d.body (envOfC d.name d.scope s₁.heap.objs.size fa cd))
        (fun f s' => f = .ret (.bool true) ∧ OldK s₁.heap s'.heap ∧ s'.os = s₁.os ∧ AllBare s'.gens) (fun _ _ => False) s) :
    WalkO q loose XP YP l.row.toRowW d [] (fun f vs => PySem.call f vs) := by
  intro w s₀ s₁ mg mb G Y fa o pm cd doc dV kV ho hd hcd hD hmg hg args vals as hpre hlay hrd hwl hlo
  obtain rfl : dV = .none := Dflts.none hD hdf
  obtain rfl : kV = .none := Dflts.noKw hD
  obtain ⟨a, vs, ns, rfl, rfl, hobj, hints, hlen⟩ := script_of hn hpre hwl
  refine enter_call ?_
  refine call_cells_ret (o := o) (by rw [depth_caller]; decide) ho (fd_plain hd) G.T.nolimit hcd (hbind pm cd doc (.ref a)) (fun y hy => ?_) (fun h₁ tk F X => ?_) hco hgen hk
  · obtain rfl : y = (x, Value.ref a) := List.mem_singleton.mp hy
    rcases hx with e | e
    · exact .inl e
    · exact .inr ⟨e, cellsFrom_some _ _ _ (.inl e)⟩
  · refine wpAny_mono (body w s₀ s₁ { s₁ with heap := h₁, toks := tk } mg mb fa o pm cd doc a vs ns G Y ho (fd_plain hd) hcd hmg hobj hints hlen hg rfl F X) (fun f s' hq => ?_) (fun _ _ hq => hq)
    obtain ⟨rfl, h2, h3, h4⟩ := hq
    exact ⟨.inl ⟨.bool true, .bool true, [], rfl, fun _ => rfl, .bool true, post_true l _, fun _ => ⟨List.Pairwise.nil, fun _ hm => (nomatch hm)⟩⟩, h2, h3, h4⟩
theorem attach_call {l : OpenLaw} {n : Nat} {q : Program} {loose : List Str} {XP : (Str → Option Value) → Heap → Prop} {YP : World → Heap → Prop} {d : DefRec}
    (hn : l.most = some n) (hdf : d.params.defaults = [])
    (call : ∀ (w : World) (s₀ s₁ : Shared) (mg mb : Str → Option Value) (fa : Addr) (o : Obj) (pm cd doc : Value) (a : Addr) (vs : List Value) (ns : List Int),
      Ground q loose [] XP w s₀ mg mb s₁.heap → YP w s₁.heap →
      s₁.heap.get? fa = some o → o.data = .func (docDef d.name d.params d.body d.scope pm cd doc) → s₁.heap.CodeRec cd d.name → mg d.name = some (.ref fa) →
      s₁.heap.get? a = some { cls := .type "list", data := .seq vs.toArray } → IntsAre vs ns → ns.length ≤ n → s₁.gens = #[] →
      codeAny (model l.prog w) callerA (.call (.ref fa) ⟨[.ref a], []⟩) (fun r s' => r = .ok (.ret (.bool true)) ∧ OldK s₁.heap s'.heap ∧ s'.os = s₁.os ∧ AllBare s'.gens) s₁) :
    WalkO q loose XP YP l.row.toRowW d [] (fun f vs => PySem.call f vs) := by
  intro w s₀ s₁ mg mb G Y fa o pm cd doc dV kV ho hd hcd hD hmg hg args vals as hpre hlay hrd hwl hlo
  obtain rfl : dV = .none := Dflts.none hD hdf
  obtain rfl : kV = .none := Dflts.noKw hD
  obtain ⟨a, vs, ns, rfl, rfl, hobj, hints, hlen⟩ := script_of hn hpre hwl
  refine enter_call (codeAny_mono (call w s₀ s₁ mg mb fa o pm cd doc a vs ns G Y ho (fd_plain hd) hcd hmg hobj hints hlen hg) fun r s' hq => ?_)
  obtain ⟨rfl, h2, h3, h4⟩ := hq
  exact ⟨.inl ⟨.bool true, .bool true, [], rfl, fun _ => rfl, .bool true, post_true l _, fun _ => ⟨List.Pairwise.nil, fun _ hm => (nomatch hm)⟩⟩, h2, h3, h4⟩
theorem attachN {l : OpenLaw} {n : Nat} {q : Program} {loose : List Str} {XP : (Str → Option Value) → Heap → Prop} {YP : World → Heap → Prop} {d : DefRec} {x : Str}
    (hn : l.most = some n) (hdf : d.params.defaults = [])
    (hbind : ∀ pm cd doc v : Value, bindArgs (docDef d.name d.params d.body d.scope pm cd doc) ⟨[v], []⟩ = pure [(x, v)])
    (hx : d.scope.names.lookup x = some .local ∨ d.scope.names.lookup x = some .cell)
    (hk : d.scope.kind = .function) (hco : d.scope.isCoroutine = false) (hgen : d.scope.isGenerator = false)
    (body : ∀ (w : World) (s₀ s₁ s : Shared) (mg mb : Str → Option Value) (fa : Addr) (o : Obj) (pm cd doc : Value) (a : Addr) (vs : List Value) (ns : List Int),
      Ground q loose [] XP w s₀ mg mb s₁.heap → YP w s₁.heap →
      s₁.heap.get? fa = some o → o.data = .func (docDef d.name d.params d.body d.scope pm cd doc) → s₁.heap.CodeRec cd d.name → mg d.name = some (.ref fa) →
      s₁.heap.get? a = some { cls := .type "list", data := .seq vs.toArray } → IntsAre vs ns → ns.length ≤ n →
      s.gens = #[] → s.os = s₁.os →
      Fr s₁.heap s₁.heap.objs.size s.heap (bindL (envOfC d.name d.scope s₁.heap.objs.size fa cd).kindOf [(x, .ref a)] fun _ => none) →
      Cl s₁.heap.objs.size (cellsFrom (s₁.heap.objs.size + 1) d.scope.names []) s.heap (bindC (envOfC d.name d.scope s₁.heap.objs.size fa cd).kindOf [(x, .ref a)] fun _ => none) →
      wpAny (model l.prog w) (callerA.deeper (envOfC d.name d.scope s₁.heap.objs.size fa cd)) (execs d.body (envOfC d.name d.scope s₁.heap.objs.size fa cd))
        (fun f s' => f = .ret (.bool true) ∧ (∀ b o, s₁.heap.get? b = some o → s'.heap.get? b = some o) ∧ s'.os = s₁.os ∧ s'.gens = #[]) (fun _ _ => False) s) :
    WalkN q loose XP YP l.row.toRowW d [] (fun f vs => PySem.call f vs) := by
  intro w s₀ s₁ mg mb G Y fa o pm cd doc dV kV ho hd hcd hD hmg hg args vals as hpre hlay hrd hwl hlo
  obtain rfl : dV = .none := Dflts.none hD hdf
  obtain rfl : kV = .none := Dflts.noKw hD
  obtain ⟨a, vs, ns, rfl, rfl, hobj, hints, hlen⟩ := script_of hn hpre hwl
  refine enter_callW ?_
  refine call_cells_ret (o := o) (by rw [depth_caller]; decide) ho (fd_plain hd) G.T.nolimit hcd (hbind pm cd doc (.ref a)) (fun y hy => ?_) (fun h₁ tk F X => ?_) hco hgen hk
  · obtain rfl : y = (x, Value.ref a) := List.mem_singleton.mp hy
    rcases hx with e | e
    · exact .inl e
    · exact .inr ⟨e, cellsFrom_some _ _ _ (.inl e)⟩
  · refine wpAny_mono (body w s₀ s₁ { s₁ with heap := h₁, toks := tk } mg mb fa o pm cd doc a vs ns G Y ho (fd_plain hd) hcd hmg hobj hints hlen hg rfl F X) (fun f s' hq => ?_) (fun _ _ hq => hq)
    obtain ⟨rfl, h2, h3, h4⟩ := hq
    exact ⟨.inl ⟨.bool true, .bool true, [], rfl, fun _ => rfl, .bool true, post_true l _, fun _ => ⟨List.Pairwise.nil, fun _ hm => (nomatch hm)⟩⟩, h2, h3, h4⟩
section
variable {prog : Program} {w : World} {A : Around} {E : Value → Shared → Prop} {s : Shared} {K : Frag}
theorem call_fn {R : Result → Shared → Prop} {name qual : Str} {params : Arguments} {body : List Stmt} {scope : Scope} {dV kV doc pm cdv ct oc : Value} {an od : Option Addr} {osl : Array (Option Value)} {f : Addr} {args : Args} {binds : List (Str × Value)}
    (X : K.In s.heap) (hlim : s.heap.NoLimit) (ho : K.lookup f = some ⟨oc, od, .func (fnOf name qual params body scope dV kV doc pm an cdv ct), osl⟩) (hcd : codeIn K cdv qual = true) (hroom : A.depth < recursionLimit)
    (hbind : BindsTo s (fnOf name qual params body scope dV kV doc pm an cdv ct) args binds)
    (hkind : (binds.all fun y => scope.names.lookup y.1 == some .local || scope.names.lookup y.1 == some .cell) = true)
    (h : ∀ s₁, InCallC s s.heap.objs.size (bindL (envOfC qual scope s.heap.objs.size f cdv).kindOf binds fun _ => none) (cellsFrom (s.heap.objs.size + 1) scope.names [])
        (bindC (envOfC qual scope s.heap.objs.size f cdv).kindOf binds fun _ => none) s₁ →
      wpAny (model prog w) (A.deeper (envOfC qual scope s.heap.objs.size f cdv)) (execs body (envOfC qual scope s.heap.objs.size f cdv))
        (fun fl s' => R (.ok (.ret (match fl with | .ret v => v | _ => .none))) s')
        (fun e s' => wpAny (model prog w) (A.deeper (envOfC qual scope s.heap.objs.size f cdv)) (leaving (envOfC qual scope s.heap.objs.size f cdv) e) (fun _ s'' => R (.error e) s'') (fun e' s'' => R (.error e') s'') s') s₁)
    (hco : scope.isCoroutine = false) (hgen : scope.isGenerator = false) (hk : scope.kind = .function) : codeAny (model prog w) A (.call (.ref f) args) R s := by
  refine codeAny_call_function hroom (X _ _ ho) rfl hco hgen rfl (codeRec_of X hcd) (hbind _ _ _ _ ?_)
  refine wpAny_newFunctionEnv_cells hk (kindsX hkind _) fun env he s₁ x => ?_
  subst he
  exact ⟨hlim.keeps x.toInCall.keep, codeAny_func (h s₁ x)⟩
theorem make_obj {R : Result → Shared → Prop} {C fI : Addr} {rest : List Value} {kw : List (Str × Value)}
    (X : K.In s.heap) (hm : makesIn K C = true) (hi : findIn K (.ref C) "__init__" = some (some (.ref fI))) (hf : isFn K (.ref fI) = true)
    (h : codeAny (model prog w) (A.under (.builtin "type.__call__" ⟨.ref C :: rest, kw⟩)) (.call (.ref fI) ⟨.ref (s.heap.objs.size + 1) :: rest, kw⟩) (InitBack (s.heap.objs.size + 1) R)
      { s with heap := (s.heap.push emptyDict).push (instObj C s.heap.objs.size) }) : codeAny (model prog w) A (.call (.ref C) ⟨rest, kw⟩) R s := by
  obtain ⟨hh, g, d, t, os⟩ := s
  exact make_core (makes_of X hm) (looks_findIn X hi) (fun self => bind_fn X self (beq_iff_eq.mp hf)) (.inl rfl) h
theorem get_field {x C : Addr} {ox : Obj} {es : List DictEntry} {n : Nat} {name : Str} {expr : Bool} {v : Value} {Q : Value → Shared → Prop}
    (X : K.In s.heap) (I : PySem.W.InstAt s.heap x ox C (some (dictOf es n))) (hg : plainGet K C name = true) (hh : hasDictIn K C = true) (ha : findIn K (.ref C) name = some none)
    (hl : getL name es = some (some v)) (hv : handedIn v = true) (h : Q v { s with toks := s.toks + 1 }) : wpAny (model prog w) A (getAttr (.ref x) name expr) Q E s :=
  get_value X I (plainGet_of hg).1 (findObj_own hh ha rfl hl) hv h
theorem get_method {x C f : Addr} {ox : Obj} {es : List DictEntry} {n : Nat} {name : Str} {pl : Sem Bool} {Q : Value × List Value → Shared → Prop}
    (X : K.In s.heap) (I : PySem.W.InstAt s.heap x ox C (some (dictOf es n))) (hg : plainGet K C name = true) (hf : findIn K (.ref C) name = some (some (.ref f))) (ht : isFn K (.ref f) = true)
    (hl : getL name es = some none) (h : Q (.ref f, [.ref x]) s) : wpAny (model prog w) A (getMethod (.ref x) name pl) Q E s :=
  method_fn X I (plainGet_of hg).1 (plainGet_of hg).2 hf (beq_iff_eq.mp ht) (by show (lookIn name (dictOf es n)).map _ = _; rw [lookIn_dict, hl]; rfl) h
def noObjs (h : Heap) : Heap := { h with objs := #[] }
theorem noObjs_get (h : Heap) (b : Addr) : (noObjs h).get? b = none := by
  cases e : (noObjs h).get? b with
  | none => rfl
  | some o => exact absurd (Heap.lt_size e) (Nat.not_lt_zero _)
def ledger (h : Heap) (L d : Addr) : List (Addr × Obj) := (List.range h.objs.size).filterMap fun a => if a = L ∨ a = d then none else (h.get? a).map fun o => (a, o)
theorem mem_ledger {h : Heap} {L d a : Addr} {o : Obj} : (a, o) ∈ ledger h L d ↔ a ≠ L ∧ a ≠ d ∧ h.get? a = some o := by
  unfold ledger
  rw [List.mem_filterMap]
  constructor
  · rintro ⟨b, _, e⟩
    split at e
    · cases e
    · rename_i hb
      obtain ⟨o', ho, e'⟩ := Option.map_eq_some_iff.mp e
      cases e'
      exact ⟨fun q => hb (.inl q), fun q => hb (.inr q), ho⟩
  · rintro ⟨n1, n2, ho⟩
    refine ⟨a, List.mem_range.mpr (Heap.lt_size ho), ?_⟩
    rw [if_neg (show ¬ (a = L ∨ a = d) from fun q => q.elim n1 n2), ho] <;> rfl
theorem news_ledger {h : Heap} {L d : Addr} {od : Obj} (hne : d ≠ L) (ho : h.get? d = some od) : News (noObjs h) L h ([] ++ (d, od) :: ledger h L d) := by
  rintro ⟨a, o⟩ hp
  rcases List.mem_cons.mp hp with e | hp
  · cases e
    exact ⟨ho, hne, noObjs_get _ _⟩
  · obtain ⟨n1, n2, e⟩ := mem_ledger.mp hp
    exact ⟨e, n1, noObjs_get _ _⟩
theorem fr_all {h : Heap} {L : Addr} {m : Str → Option Value} (n : h.Ns L m) : Fr (noObjs h) L h m :=
  ⟨n, fun b o e => (by rw [noObjs_get] at e; cases e), Nat.zero_le _⟩
theorem upd_ledger {h : Heap} {L d : Addr} {o o' : Obj} : Upd d o o' ((d, o) :: ledger h L d) ((d, o') :: ledger h L d) :=
  .head fun ⟨_, _⟩ hp => (mem_ledger.mp hp).2.1
theorem set_field {x C dx L : Addr} {ox : Obj} {m : Str → Option Value} {es es' : List DictEntry} {n n' : Nat} {name : Str} {v : Value} {Q : Unit → Shared → Prop}
    (X : K.In s.heap) (I : PySem.W.InstAt s.heap x ox C (some (dictOf es n))) (hd : ox.dict = some dx) (hL : s.heap.Ns L m) (hne : dx ≠ L)
    (hs : findIn K (.ref C) "__setattr__" = some (some (.builtin "object.__setattr__"))) (hp : plainOver K C = true) (ht : takerIn K C name = some none) (hh : hasDictIn K C = true) (hl : (getL name es).isSome = true)
    (e : (putL name (PyData.keyHash w.params name) (.str name (s.toks + 1)) v es, putN name es n) = (es', n')) (hz : es'.length ≤ 1000)
    (h : ∀ h' : Heap, h'.Ns L m → h'.get? dx = some (dictOf es' n') → (∀ b o, b ≠ dx → b ≠ L → s.heap.get? b = some o → h'.get? b = some o) → Q () { s with heap := h', toks := s.toks + 2 }) :
    wpAny (model prog w) A (setAttr (.ref x) name v) Q E s := by
  obtain ⟨e1, e2⟩ := Prod.mk.inj e
  have hdx : s.heap.get? dx = some (dictOf es n) := by
    have := I.dict
    rw [hd] at this
    exact this
  refine set_plain X I hs (osa_dict (s := { s with toks := s.toks + 1 }) (h₀ := noObjs s.heap) (L := L) (m := m) (od := dictOf es n) (od' := dictOf es' n') (es := es') (n := n') (pre := []) (post := ledger s.heap L dx)
    (fr_all hL) (news_ledger hne hdx) X I hd hp ht hh hl (fun _ q => nomatch q) (fun ⟨_, _⟩ q => (mem_ledger.mp q).2.1) (by rw [putName_dict, e1, e2]) rfl hz fun h' F' N' => ?_)
  exact h h' F'.ns (N'.get (List.Mem.head _)) fun b o n1 n2 ho => N'.get (List.Mem.tail _ (mem_ledger.mpr ⟨n2, n1, ho⟩))
end
end Att
namespace L2
open PySem PySem.Spec PyProof.Rows
theorem vals_ints : ∀ {vs : List Value} {ns : List Int}, IntsAre vs ns → Vals (ns.map V.int) vs
  | _, _, .nil => .nil
  | _, _, .cons n t h => .cons ⟨t, rfl⟩ (vals_ints h)
def Only (H : Hp) : Prop := ∀ b, H b = none ∨ ∃ o xs, H b = some (.frz o (.lst xs))
theorem law_call {P : Program} {w : World} {K : PySem.W.Frag} {mg mb : Str → Option Value} {CX : CXT} {k : Nat} {fa a : Addr} {fd : FuncData} {x : Str} {sp : Sp} {s₁ : Shared} {vs : List Value} {ns : List Int}
    (KX : K.In s₁.heap) (hns : s₁.heap.Ns mainGlobals mg) (hb : s₁.heap.Ns builtinsNs mb) (hbb : ∀ x : Str, x ≠ "__name__" → mb x = bootBuiltins x) (hlim : s₁.heap.NoLimit) (hg : s₁.gens = #[])
    (ha : s₁.heap.get? a = some { cls := .type "list", data := .seq vs.toArray }) (hi : IntsAre vs ns) (hl : ns.length ≤ sizeLine) (hr : Room k callerA)
    (F : ∀ base : Heap, K.In base → base.Ns mainGlobals mg → FnOk P w K mg base CX k fa fd [x] sp) (hbind : ∀ (s : Shared) (u : Value), BindsTo s fd ⟨[u], []⟩ [(x, u)])
    (hsp : ∀ H : Hp, Only H → SqL K H a (ns.map V.int) → sp [.ref a] H (fun v _ => v = .bl true) fun _ _ _ => False)
    (hCX : ∀ H e s', CX [] H s₁ (fun _ _ _ => False) e s' → False) :
    codeAny (model P w) callerA (.call (.ref fa) ⟨[.ref a], []⟩) (fun r s' => r = .ok (.ret (.bool true)) ∧ OldK s₁.heap s'.heap ∧ s'.os = s₁.os ∧ AllBare s'.gens) s₁ := by
  have rv := vals_ints hi
  have lenV := hi.length
  have core : ∀ H : Hp, Only H → SqL K H a (ns.map V.int) → HOk P w H s₁.heap → (∀ b, H b ≠ none → b = a) → (H a ≠ none → K.lookup a = none) →
      codeAny (model P w) callerA (.call (.ref fa) ⟨[.ref a], []⟩) (fun r s' => r = .ok (.ret (.bool true)) ∧ OldK s₁.heap s'.heap ∧ s'.os = s₁.os ∧ AllBare s'.gens) s₁ := by
    intro H hO hS hok hA hK
    have base_of : ∀ {b : Addr} {o : Obj}, s₁.heap.get? b = some o → H b = none → (hidT s₁.heap H).get? b = some o := fun e n => hidT_get e n
    have noA : ∀ {b : Addr} {o : Obj} {es : Array DictEntry} {ep : Nat}, s₁.heap.get? b = some o → o.data = .dict es ep → H b = none := fun {b o es ep} e d => by
      cases q : H b with
      | none => rfl
      | some u =>
        have e' : b = a := hA b (by rw [q]; simp)
        subst e'
        rw [ha] at e; cases e
        have d' : Data.seq vs.toArray _ = Data.dict es ep := d
        cases d'
    have nsK : ∀ {b : Addr} {m : Str → Option Value}, s₁.heap.Ns b m → (hidT s₁.heap H).Ns b m := fun {b m} ⟨o, es, ep, e, d, r⟩ => ⟨o, es, ep, base_of e (noA e d), d, r⟩
    have hKb : K.In (hidT s₁.heap H) := fun b o e => base_of (KX b o e) (by
      cases q : H b with
      | none => rfl
      | some u =>
        have e' : b = a := hA b (by rw [q]; simp)
        subst e'
        rw [hK (by rw [q]; simp)] at e; cases e)
    have hM : Mod K mg (hidT s₁.heap H) := ⟨hKb, nsK hns, ⟨mb, nsK hb, hbb⟩, let ⟨mc, h1, h2⟩ := hlim; ⟨mc, nsK h1, h2⟩⟩
    have e0 : Env0 P w K mg (hidT s₁.heap H) callerA [] s₁ H := ⟨rfl, hM, fun b o e => of_hidT e, Nat.le_of_eq (hidT_size _ _), trivial, fun b hb => absurd (show b ∈ ([] : List Addr) from hb) (by simp), hok, .of_eq hg⟩
    refine codeAny_mono ((F _ hKb (nsK hns)).run callerA [] s₁ H ⟨[.ref a], []⟩ [.ref a] [.ref a] _ _ hr e0 (hbind s₁ (.ref a)) (.cons rfl .nil) (hsp H hO hS)) fun r s' h => ?_
    cases r with
    | error e => exact (hCX H e s' h).elim
    | ok fl =>
      cases fl with
      | next => exact False.elim h
      | brk => exact False.elim h
      | cont => exact False.elim h
      | ret u =>
        obtain ⟨v, H', os, bare, un, hok', r', q⟩ := h
        have q' : v = .bl true := q
        subst q'
        obtain rfl : u = Value.bool true := r'
        refine ⟨rfl, OldK.of_keep fun b o e => ?_, os, bare⟩
        cases q : H b with
        | none => exact un.keep b o e q (by intro z; exact absurd (show b ∈ ([] : List Addr) from z) (by simp)) (by simp)
        | some u =>
          rcases hO b with z | ⟨ob, xs, z⟩
          · rw [q] at z; cases z
          · have z2 := un.frzs b ob _ z
            obtain ⟨e1, _⟩ := hok b _ z
            obtain ⟨e2, _⟩ := hok' b _ z2
            rw [e] at e1; cases e1
            exact e2
  cases hk : K.lookup a with
  | some o =>
    have e := KX a o hk
    rw [ha] at e
    cases e
    refine core (fun _ => none) (fun _ => .inl rfl) (.inr ⟨_, vs.toArray, _, hk, rfl, rfl, rfl, by rw [List.size_toArray, lenV]; exact hl, by simpa using rv⟩) (fun b u z => by have z' : (none : Option HO) = some u := z; cases z') (fun b z => absurd rfl z) fun z => absurd rfl z
  | none =>
    refine core (fun b => if b = a then some (.frz { cls := .type "list", data := .seq vs.toArray } (.lst (ns.map V.int))) else none) (fun b => ?_) (.inl (.inr ⟨{ cls := .type "list", data := .seq vs.toArray }, if_pos rfl⟩)) (fun b u z => ?_) (fun b z => ?_) fun _ => hk
    · by_cases hb : b = a
      · exact .inr ⟨_, _, if_pos hb⟩
      · exact .inl (if_neg hb)
    · by_cases hb : b = a
      · have z' := (if_pos hb).symm.trans z
        cases z'
        subst hb
        exact ⟨ha, by rw [List.length_map]; exact hl, vs, _, rv, ha⟩
      · have z' := (if_neg hb).symm.trans z
        cases z'
    · by_cases hb : b = a
      · exact hb
      · exact absurd (if_neg hb) z
end L2
namespace L2
open PySem PySem.Spec PyProof.Rows
abbrev KOf {K : PySem.W.Frag} {h : Heap} (_ : K.In h) : PySem.W.Frag := K
theorem walk_of {l : PySem.W.OpenLaw} {n k : Nat} {q : Program} {loose : List Str} {XP : (Str → Option Value) → Heap → Prop} {YP : World → Heap → Prop} {d : DefRec} {K : Params → PySem.W.Frag} {CX : World → CXT} {sp : World → Sp} {x : Str}
    (hn : l.most = some n) (hn2 : n ≤ sizeLine) (hdf : d.params.defaults = []) (hr : Room k callerA)
    (hY : ∀ (w : World) (h : Heap), YP w h → (K w.params).In h)
    (F : ∀ (w : World) (mg : Str → Option Value) (fa : Addr) (h : Heap), (K w.params).In h → h.Ns mainGlobals mg → mg d.name = some (.ref fa) →
      ∃ fd : FuncData, (∀ (s : Shared) (u : Value), BindsTo s fd ⟨[u], []⟩ [(x, u)]) ∧
        ∀ base : Heap, (K w.params).In base → base.Ns mainGlobals mg → FnOk l.prog w (K w.params) mg base (CX w) k fa fd [x] (sp w))
    (hsp : ∀ (w : World) (H : Hp) (a : Addr) (ns : List Int), ns.length ≤ n → Only H → SqL (K w.params) H a (ns.map V.int) → sp w [.ref a] H (fun v _ => v = .bl true) fun _ _ _ => False)
    (hCX : ∀ (w : World) (H : Hp) (s : Shared) (e : Value) (s' : Shared), CX w [] H s (fun _ _ _ => False) e s' → False) :
    PySem.W.WalkO q loose XP YP l.row.toRowW d [] (fun f vs => PySem.call f vs) := by
  refine Att.attach_call hn hdf fun w s₀ s₁ mg mb fa o pm cd doc a vs ns G Y ho hd hcd hmg hobj hints hlen hg => ?_
  have KX := hY w _ Y
  obtain ⟨fd, hb, hF⟩ := F w mg fa _ KX G.T.g hmg
  exact law_call KX G.T.g G.T.b G.T.builtins G.T.nolimit hg hobj hints (Nat.le_trans hlen hn2) hr hF hb (fun H hO hS => hsp w H a ns hlen hO hS) fun H e s' => hCX w H s₁ e s'
theorem walk_ofK {l : PySem.W.OpenLaw} {n k : Nat} {q : Program} {loose : List Str} {XP : (Str → Option Value) → Heap → Prop} {YP : World → Heap → Prop} {d : DefRec} {K : Params → PySem.W.Frag} {CX : CXT} {sp : PySem.W.Frag → Sp} {x : Str}
    (hn : l.most = some n) (hn2 : n ≤ sizeLine) (hdf : d.params.defaults = []) (hr : Room k callerA)
    (hY : ∀ (w : World) (h : Heap), YP w h → (K w.params).In h)
    (F : ∀ (w : World) (mg : Str → Option Value) (fa : Addr) (h : Heap), (K w.params).In h → h.Ns mainGlobals mg → mg d.name = some (.ref fa) →
      ∃ fd : FuncData, (∀ (s : Shared) (u : Value), BindsTo s fd ⟨[u], []⟩ [(x, u)]) ∧
        ∀ base : Heap, (K w.params).In base → base.Ns mainGlobals mg → FnOk l.prog w (K w.params) mg base CX k fa fd [x] (sp (K w.params)))
    (hsp : ∀ (K : PySem.W.Frag) (H : Hp) (a : Addr) (ns : List Int), ns.length ≤ n → Only H → SqL K H a (ns.map V.int) → sp K [.ref a] H (fun v _ => v = .bl true) fun _ _ _ => False)
    (hCX : ∀ (H : Hp) (s : Shared) (e : Value) (s' : Shared), CX [] H s (fun _ _ _ => False) e s' → False) :
    PySem.W.WalkO q loose XP YP l.row.toRowW d [] (fun f vs => PySem.call f vs) :=
  walk_of (K := K) (CX := fun _ => CX) (sp := fun w => sp (K w.params)) hn hn2 hdf hr hY F (fun w H a ns h1 h2 h3 => hsp (K w.params) H a ns h1 h2 h3) fun _ H s e s' => hCX H s e s'
end L2
namespace L2
open PySem PySem.Spec PyProof.Rows
def inClass (s : Stmt) (j : Nat) : Stmt := match s with
  | .ClassDef _ _ _ body _ _ _ _ _ _ _ => body.getD j (.Pass ⟨0, 0, 0, 0⟩)
  | _ => .Pass ⟨0, 0, 0, 0⟩
def defArgs (s : Stmt) : Arguments := match s with
  | .FunctionDef _ a _ _ _ _ _ _ _ _ => a
  | _ => { posonlyargs := [], args := [], vararg := none, kwonlyargs := [], kw_defaults := [], kwarg := none, defaults := [] }
def defBody (s : Stmt) : List Stmt := match s with
  | .FunctionDef _ _ b _ _ _ _ _ _ _ => b
  | _ => []
def defScope (s : Stmt) : Scope := match s with
  | .FunctionDef _ _ _ _ _ _ sc _ _ _ => sc
  | _ => { kind := .function, names := [], isGenerator := false, isCoroutine := false }
abbrev CX0 : CXT := fun _ _ _ _ _ _ => False
abbrev E0 : XK := fun _ _ _ => False
theorem pass0 {X : Cx} : Passes CX0 X E0 := fun _ _ _ _ _ _ _ h => h.elim
structure Fun (K : PySem.W.Frag) (x qual : Str) (st : Stmt) (f : Addr) (fd : FuncData) : Prop where
  ex : ∃ (oc : Value) (od : Option Addr) (kV doc pm : Value) (an : Option Addr) (cdv ct : Value) (osl : Array (Option Value)),
    fd = PySem.W.fnOf x qual (defArgs st) (defBody st) (defScope st) .none kV doc pm an cdv ct ∧ K.lookup f = some ⟨oc, od, .func fd, osl⟩ ∧ PySem.W.codeIn K cdv qual = true
  kp : PySem.W.keepIn K (.ref f) = true
section
variable {P : Program} {w : World} {K : PySem.W.Frag} {mg : Str → Option Value} {base : Heap}
theorem Fun.ok {x qual : Str} {st : Stmt} {f : Addr} {fd : FuncData} {N ps : List Str} {k : Nat} {sp : Sp} (F : Fun K x qual st f fd) (S : FnScope N ps (defScope st)) (len : ∀ vs H Q E, sp vs H Q E → vs.length = ps.length)
    (hbody : ∀ (cdv : Value) (A : Around) (outer : List Env) (s : Shared) (H : Hp) (vs : List V) (Q : VK) (E : XK), Room k (A.deeper (envOfC qual (defScope st) s.heap.objs.size f cdv)) → sp vs H Q E →
      ∃ t, PSs (cxOf CX0 P w K mg base N qual (defScope st) f cdv A outer s H E).nox (defBody st) t ∧ t { nx := fun _ H' => Q .non H', rt := Q } (start N vs) H) : FnOk P w K mg base CX0 (k + 1) f fd ps sp := by
  obtain ⟨oc, od, kV, doc, pm, an, cdv, ct, osl, rfl, lk, hcd⟩ := F.ex
  refine fn_of lk hcd S len fun A outer s H vs Q E hr hsp => ?_
  obtain ⟨t, h, q⟩ := hbody cdv A outer s H vs Q E hr hsp
  exact ⟨t, h.nox, q⟩
theorem Fun.binds {x qual : Str} {st : Stmt} {f : Addr} {fd : FuncData} {ps : List Str} (F : Fun K x qual st f fd)
    (h : ∀ (kV doc pm : Value) (an : Option Addr) (cdv ct : Value) (us : List Value), us.length = ps.length → bindArgs (PySem.W.fnOf x qual (defArgs st) (defBody st) (defScope st) .none kV doc pm an cdv ct) ⟨us, []⟩ = pure (ps.zip us)) : Binds K fd ps [] := by
  obtain ⟨oc, od, kV, doc, pm, an, cdv, ct, osl, rfl, lk, hcd⟩ := F.ex
  exact .all (h kV doc pm an cdv ct)
theorem fun_mk {x qual : Str} {st : Stmt} {f : Addr} {oc : Value} {od an : Option Addr} {osl : Array (Option Value)} {kV doc pm cdv ct : Value} (l : K.lookup f = some ⟨oc, od, .func (PySem.W.fnOf x qual (defArgs st) (defBody st) (defScope st) .none kV doc pm an cdv ct), osl⟩)
    (c : PySem.W.codeIn K cdv qual = true) (k : PySem.W.keepIn K (.ref f) = true) : Fun K x qual st f (PySem.W.fnOf x qual (defArgs st) (defBody st) (defScope st) .none kV doc pm an cdv ct) := ⟨⟨oc, od, kV, doc, pm, an, cdv, ct, osl, rfl, l, c⟩, k⟩
end
theorem hu_of {A : Around} {k : Nat} (hr : Room k A) : A.units + 1 < cLine := Nat.lt_of_le_of_lt (Nat.add_le_add_left (by decide : 1 ≤ 64) _) hr.units
theorem small1000 {n : Nat} (h : n ≤ 1000) : n < sizeLine := Nat.lt_of_le_of_lt h (by decide)
section
variable {X : Cx}
theorem pv (i : Nat) {x : Str} {pos : Pos} (hN : X.N[i]? = some x := by rfl) (hv : Vis X.env.scope x := by first | exact Or.inl rfl | exact Or.inr (Or.inl rfl) | exact Or.inr (Or.inr rfl)) (hd : (x == ("__debug__" : Str)) = false := by decide)
    (hcd : (x == ("__classdict__" : Str)) = false := by decide) : PE X (.Name x pos) (tVar i) := pe_var hN hv hd hcd
theorem call_lenD : CallR X (.builtin "len") (fun xs H Q => ∃ a kvs, xs = [V.ref a] ∧ H a = some (.dK kvs) ∧ Q (.int kvs.length) H) := by
  intro pins s σ H xs us Q I r h
  obtain ⟨a, kvs, rfl, ha, q⟩ := h
  obtain ⟨u, rfl, ru⟩ := vals1 r
  cases ru
  exact d_len I (.inl ha) fun t s' I' => ⟨.int kvs.length, H, I', ⟨t, rfl⟩, q⟩
end
theorem iteF {A B : Prop} (h : B) : if false = true then A else B := by
  rw [if_neg Bool.false_ne_true]
  exact h
theorem iteT {A B : Prop} (h : A) : if true = true then A else B := by
  rw [if_pos rfl]
  exact h
theorem ite2 {c A B : Prop} [Decidable c] (h1 : c → A) (h2 : ¬ c → B) : if c then A else B := by
  by_cases h : c
  · rw [if_pos h]
    exact h1 h
  · rw [if_neg h]
    exact h2 h
theorem iteNS {c A B : Prop} [Decidable c] (hc : c) (h : B) : if (!decide c) = true then A else B := by
  rw [decide_eq_true hc]
  exact iteF h
def Same (H H' : Hp) : Prop := ∀ b o, H b = some o → H' b = some o
theorem Same.refl (H : Hp) : Same H H := fun _ _ h => h
theorem Same.trans {H H1 H2 : Hp} (a : Same H H1) (b : Same H1 H2) : Same H H2 := fun c o h => b c o (a c o h)
theorem Same.free {H H' : Hp} (e : Same H H') {l : Addr} (h : H' l = Option.none) : H l = Option.none := by
  cases q : H l with
  | none => rfl
  | some o =>
    rw [e l o q] at h
    cases h
theorem Same.seq {K : PySem.W.Frag} {H H' : Hp} {a : Addr} {xs : List V} (e : Same H H') (h : SqL K H a xs) : SqL K H' a xs := by
  rcases h with (h | ⟨o, h⟩) | h
  · exact .inl (.inl (e _ _ h))
  · exact .inl (.inr ⟨o, e _ _ h⟩)
  · exact .inr h
section
variable {κ : Type} [DecidableEq κ]
theorem valV_not {kvs : List (κ × V)} {k : κ} (h : valV kvs k = none) : ¬ k ∈ kvs.map (·.1) := by
  intro m
  obtain ⟨p, hp, e⟩ := List.mem_map.mp m
  have q : (kvs.any fun kv => decide (kv.1 = k)) = true := List.any_eq_true.mpr ⟨p, hp, decide_eq_true e⟩
  rw [valV_any, h] at q
  exact absurd q (by simp)
theorem valV_in {kvs : List (κ × V)} {k : κ} {v : V} (h : valV kvs k = some v) : k ∈ kvs.map (·.1) := by
  have q : (kvs.any fun kv => decide (kv.1 = k)) = true := by
    rw [valV_any, h]
    all_goals rfl
  obtain ⟨p, hp, e⟩ := List.any_eq_true.mp q
  exact List.mem_map.mpr ⟨p, hp, of_decide_eq_true e⟩
theorem nd_snoc : ∀ {l : List κ} {k : κ}, l.Nodup → ¬ k ∈ l → (l ++ [k]).Nodup
  | [], k, _, _ => by simp
  | a :: r, k, h, hk => by
    obtain ⟨h1, h2⟩ := List.nodup_cons.mp h
    show (a :: (r ++ [k])).Nodup
    refine List.nodup_cons.mpr ⟨fun m => ?_, nd_snoc h2 fun m => hk (List.mem_cons.mpr (Or.inr m))⟩
    rcases List.mem_append.mp m with q | q
    · exact h1 q
    · exact hk (List.mem_cons.mpr (Or.inl (List.mem_singleton.mp q).symm))
theorem nd_putK {kvs : List (κ × V)} {k : κ} (v : V) (hn : (kvs.map (·.1)).Nodup) (h : valV kvs k = none) : ((putK kvs k v).map (·.1)).Nodup := by
  rw [putK_new v h, List.map_append]
  exact nd_snoc hn (valV_not h)
theorem dropK_pos {p : κ × V} {r : List (κ × V)} {k : κ} (e : p.1 = k) : dropK (p :: r) k = dropK r k := by
  unfold dropK
  rw [List.filter_cons, if_neg (by simp [e])]
theorem dropK_neg {p : κ × V} {r : List (κ × V)} {k : κ} (e : ¬ p.1 = k) : dropK (p :: r) k = p :: dropK r k := by
  unfold dropK
  rw [List.filter_cons, if_pos (by simp [e])]
theorem dropK_no : ∀ {kvs : List (κ × V)} {k : κ}, ¬ k ∈ kvs.map (·.1) → dropK kvs k = kvs
  | [], _, _ => rfl
  | p :: r, k, h => by
    have h' : ¬ k ∈ r.map (·.1) := fun m => by
      obtain ⟨q, hq, e⟩ := List.mem_map.mp m
      exact h (List.mem_map.mpr ⟨q, List.mem_cons.mpr (Or.inr hq), e⟩)
    rw [dropK_neg fun e => h (List.mem_map.mpr ⟨p, List.mem_cons.mpr (Or.inl rfl), e⟩), dropK_no h']
theorem dropK_mem {kvs : List (κ × V)} {k : κ} {p : κ × V} (h : p ∈ dropK kvs k) : p ∈ kvs := (List.mem_filter.mp h).1
theorem nd_dropK : ∀ {kvs : List (κ × V)} {k : κ}, (kvs.map (·.1)).Nodup → ((dropK kvs k).map (·.1)).Nodup
  | [], _, _ => List.nodup_nil
  | p :: r, k, h => by
    have h : (p.1 :: r.map (·.1)).Nodup := h
    obtain ⟨h1, h2⟩ := List.nodup_cons.mp h
    by_cases e : p.1 = k
    · rw [dropK_pos e]
      exact nd_dropK h2
    · rw [dropK_neg e]
      show (p.1 :: (dropK r k).map (·.1)).Nodup
      refine List.nodup_cons.mpr ⟨fun m => h1 ?_, nd_dropK h2⟩
      obtain ⟨q, hq, eq⟩ := List.mem_map.mp m
      exact List.mem_map.mpr ⟨q, dropK_mem hq, eq⟩
theorem dropK_len : ∀ {kvs : List (κ × V)} {k : κ}, (kvs.map (·.1)).Nodup → k ∈ kvs.map (·.1) → (dropK kvs k).length + 1 = kvs.length
  | [], _, _, m => by simp at m
  | p :: r, k, h, m => by
    have h : (p.1 :: r.map (·.1)).Nodup := h
    have m : k = p.1 ∨ k ∈ r.map (·.1) := List.mem_cons.mp m
    obtain ⟨h1, h2⟩ := List.nodup_cons.mp h
    by_cases e : p.1 = k
    · subst e
      rw [dropK_pos rfl, dropK_no h1]
      all_goals rfl
    · have m' : k ∈ r.map (·.1) := m.resolve_left fun z => e z.symm
      have q := dropK_len h2 m'
      rw [dropK_neg e, List.length_cons, List.length_cons]
      omega
end
end L2
namespace L2
open PySem PySem.Spec PyProof.Rows
section
variable {prog : Program} {w : World} {A : Around} {R : Result → Shared → Prop} {s : Shared}
theorem comp_loop {elt tg iter : Expr} {ifs : List Expr} {sc : Scope} {pos : Pos} {it acc : Value} {ce : Env} (J : Nat → Shared → Prop)
    (turn : ∀ n s, J n s → wpAny (model prog w) A (pyNext it) (fun r s1 => match r with
      | none => R (.ok .next) s1
      | some v => wpAny (model prog w) A (letOwnedTupleGo tg it v) (fun _ s2 => wpAny (model prog w) A (assign tg ce v) (fun _ s3 =>
          wpAny (model prog w) A (forIn ifs true fun c r => if r = true then do let ok ← isTrue c ce (eval c ce); pure (ForInStep.yield ok) else pure (ForInStep.yield r)) (fun ok s4 =>
            if ok = true then
              wpAny (model prog w) A (eval elt ce) (fun x s5 => wpAny (model prog w) A (call (.builtin "list.append") [acc, x]) (fun _ s6 => ∃ m, m < n ∧ J m s6) (fun _ _ => False) s5) (fun _ _ => False) s4
            else ∃ m, m < n ∧ J m s4) (fun _ _ => False) s3) (fun _ _ => False) s2) (fun _ _ => False) s1) (fun _ _ => False) s)
    (n : Nat) (h : J n s) : codeAny (model prog w) A (.compLoop (.ListComp elt [⟨tg, iter, ifs, 0⟩] sc pos) 0 it acc ce) R s := by
  refine codeAny_loop rfl J (fun n s hJ => ?_) n h
  show wpAny _ A ((compTurn (.ListComp elt [⟨tg, iter, ifs, 0⟩] sc pos) 0 it acc ce).onRaise (fun x => do noteFrame x ce; theTreesLotGoes x)) _ _ s
  refine wpAny_noted ?_
  rw [compTurn_list]
  refine wpAny_bind (wpAny_standAt (wpAny_bind (wpAny_mono (turn n s hJ) (fun r s1 h1 => ?_) fun _ _ f => f.elim)))
  cases r with
  | none => exact wpAny_pure h1
  | some v =>
    refine wpAny_bind (wpAny_mono h1 (fun _ s2 h2 => ?_) fun _ _ f => f.elim)
    refine wpAny_bind (wpAny_mono h2 (fun _ s3 h3 => ?_) fun _ _ f => f.elim)
    refine wpAny_bind (wpAny_mono h3 (fun ok s4 h4 => ?_) fun _ _ f => f.elim)
    cases ok with
    | false => exact wpAny_pure ⟨rfl, h4⟩
    | true =>
      refine wpAny_bind (wpAny_bind (wpAny_mono h4 (fun x s5 h5 => ?_) fun _ _ f => f.elim))
      exact wpAny_bind (wpAny_mono h5 (fun _ s6 h6 => wpAny_pure (wpAny_pure ⟨rfl, h6⟩)) fun _ _ f => f.elim)
end
def compCx (X : Cx) (N : List Str) (sc : Scope) (cl : List (Str × Addr)) (s : Shared) (H : Hp) (fp : List Addr) : Cx where
  prog := X.prog
  w := X.w
  K := X.K
  mg := X.mg
  base := X.base
  A := X.A
  N := N
  s₀ := s
  H₀ := H
  env := compEnvC sc cl (s.heap.objs.size + 1) X.env
  outer := X.stack
  stack := X.stack
  ex := fp
  fn := fun _ => false
  calm := X.calm
  pn := []
  xe := fun _ _ => False
def compSt (own : List Str) (fr : List (Str × Nat)) (σ : St) : St := own.map (fun _ => none) ++ fr.map fun p => (σ[p.2]?).join
def KeepS (σ σ' : St) : Prop := σ.length = σ'.length ∧ ∀ (i : Nat) v, σ[i]? = some (some v) → σ'[i]? = some (some v)
def Fresh (g : TG) (σ : St) : Prop := ∀ x H (Q : St → Hp → Prop), g x σ H Q → g x σ H fun σ' H' => KeepS σ σ' ∧ Q σ' H'
theorem KeepS.refl (σ : St) : KeepS σ σ := ⟨rfl, fun _ _ h => h⟩
theorem KeepS.set {σ : St} {i : Nat} (h : σ[i]? = some none) (v : V) : KeepS σ (σ.set i (some v)) := by
  refine ⟨by simp, fun j u e => ?_⟩
  by_cases hj : i = j
  · subst hj; rw [h] at e; cases e
  · rw [List.getElem?_set_ne hj]; exact e
theorem fresh_name {σ : St} {i : Nat} (h : σ[i]? = some none) : Fresh (gName i) σ := fun x H Q q => ⟨KeepS.set h x, q⟩
theorem fresh_pair {K : PySem.W.Frag} {σ : St} {i j n : Nat} (hi : σ[i]? = some none) (hj : σ[j]? = some none) (hij : i ≠ j) : Fresh (gTup K n (gCons (gName i) (gCons (gName j) gNil))) σ := by
  intro x H Q q
  obtain ⟨a, xs, e1, e2, e3, v, r, e4, w, r', e5, e6, q⟩ := q
  refine ⟨a, xs, e1, e2, e3, v, r, e4, w, r', e5, e6, ?_, q⟩
  have h1 := KeepS.set hi v
  have h2 := KeepS.set (σ := σ.set i (some v)) (i := j) (by rw [List.getElem?_set_ne hij]; exact hj) w
  exact ⟨h1.1.trans h2.1, fun k u e => h2.2 k u (h1.2 k u e)⟩
def PTs (X : Cx) (ifs : List Expr) (t : TT) : Prop :=
  ∀ (pins : List (Addr × Obj)) (s : Shared) (σ : St) (H : Hp) (Q : Bool → Hp → Prop), Inv X pins σ H s → t σ H Q →
    wpAny (model X.prog X.w) X.A (forIn ifs true fun c r => if r = true then do let ok ← isTrue c X.env (eval c X.env); pure (ForInStep.yield ok) else pure (ForInStep.yield r)) (TP X pins σ Q) X.xe s
theorem pts_nil {X : Cx} : PTs X [] (fun _ H Q => Q true H) := fun _ _ _ H _ I h => wpAny_tests_nil ⟨H, I, h⟩
theorem pts_one {X : Cx} {c : Expr} {t : TT} (h : PT X c t) : PTs X [c] t := fun pins s σ H Q I q => wpAny_tests_one (h pins s σ H Q I q)
def LCb (own : List Str) (fr : List (Str × Nat)) (g : TG) (tt : TT) (te : TE) (σ : St) (Q : VK) (J : It) (H1 : Hp) : Prop := ∃ W : Nat → Nat → List V → Hp → Prop, (∃ m, W 0 m [] H1) ∧ ∀ i m ys H, W i m ys H →
  (J.stop i H ∧ ∀ p, H p = none → Q (.ref p) (upd H p (.lst ys))) ∨ (J.go i H ∧ ys.length < sizeLine ∧ ∀ x H', J.yld i H x H' → g x (compSt own fr σ) H' fun σ2 H2 => tt σ2 H2 fun b H3 =>
    if b = true then te σ2 H3 fun y H4 => ∃ m', m' < m ∧ W (i + 1) m' (ys ++ [y]) H4 else ∃ m', m' < m ∧ W (i + 1) m' ys H3)
def tLC (own : List Str) (fr : List (Str × Nat)) (wi : TI) (g : TG) (tt : TT) (te : TE) : TE := fun σ H Q => wi σ H fun J H1 => LCb own fr g tt te σ Q J H1
abbrev accObj (us : List Value) : Obj := { cls := .type "list", data := .seq us.toArray us.length }
theorem acc_snoc (us : List Value) (u : Value) : ({ cls := .type "list", data := .seq (us.toArray.push u) (us.length + 1) } : Obj) = accObj (us ++ [u]) := by
  unfold accObj
  rw [List.length_append, List.length_singleton, List.push_toArray]
structure Caps (X : Cx) (sc : Scope) (cl : List (Str × Addr)) (fr : List (Str × Nat)) : Prop where
  clos : closureFor sc X.env = pure cl
  sub : ∀ x c, cl.lookup x = some c → X.env.cells.lookup x = some c
  has : ∀ x, ((relabel sc X.env).names.lookup x = some .cell ∨ (relabel sc X.env).names.lookup x = some .free) → ∃ c, cl.lookup x = some c
  cap : ∀ p ∈ fr, X.N[p.2]? = some p.1 ∧ X.env.kindOf p.1 ≠ some .local ∧ Vis X.env.scope p.1 ∧ ((relabel sc X.env).names.lookup p.1 = some .cell ∨ (relabel sc X.env).names.lookup p.1 = some .free)
structure CompSc (sc : Scope) : Prop where
  kind : sc.kind = .function
  cell : ∀ y ∈ sc.names, y.2 ≠ .cell
  nms : ∀ y ∈ sc.names, y.2 = .local → sc.names.lookup y.1 = some .local
section
variable {X : Cx}
theorem Inv.stkNot {pins : List (Addr × Obj)} {σ : St} {H : Hp} {s : Shared} (I : Inv X pins σ H s) {b : Addr} (h1 : b ≠ X.env.locals) (h2 : b ∉ X.fs) : b ∉ frs X.stack := fun z => by
  rcases List.mem_cons.mp (I.stkSub b z) with e | e
  · exact h1 e
  · exact h2 e
theorem compSt_get {own : List Str} {fr : List (Str × Nat)} {σ : St} {N : List Str} (hN : N = own ++ fr.map (·.1)) {i : Nat} {x : Str} {v : V} (h1 : N[i]? = some x) (h2 : (compSt own fr σ)[i]? = some (some v)) :
    ∃ p ∈ fr, p.1 = x ∧ σ[p.2]? = some (some v) := by
  unfold compSt at h2
  subst hN
  by_cases hi : i < own.length
  · rw [List.getElem?_append_left (by simpa using hi), List.getElem?_map] at h2
    rw [List.getElem?_eq_getElem hi] at h2
    cases h2
  · rw [List.getElem?_append_right (by simpa using hi), List.length_map, List.getElem?_map] at h2
    rw [List.getElem?_append_right (by simpa using hi), List.getElem?_map] at h1
    cases e : fr[i - own.length]? with
    | none => rw [e] at h1; cases h1
    | some p =>
      rw [e] at h1 h2
      refine ⟨p, List.mem_of_getElem? e, Option.some.inj h1, ?_⟩
      have h2' : (σ[p.2]?).join = some v := Option.some.inj h2
      cases e3 : σ[p.2]? with
      | none => rw [e3] at h2'; cases h2'
      | some o => rw [e3] at h2'; rw [show o = some v from h2']
theorem Inv.block {pins : List (Addr × Obj)} {σ : St} {H : Hp} {s : Shared} {own : List Str} {fr : List (Str × Nat)} {sc : Scope} {cl : List (Str × Addr)} {fp : List Addr} {h1 : Heap} {m : Str → Option Value} {tk : Nat}
    (I : Inv X pins σ H s) (hf : ∀ b ∈ fp, FpOk X pins H b) (hfl : ∀ b ∈ fp, b < s.heap.objs.size) (S : CompSc sc) (C : Caps X sc cl fr)
    (old : ∀ b o, s.heap.get? b = some o → h1.get? b = some o) (hn : h1.Ns (s.heap.objs.size + 1) m) (hD : h1.get? s.heap.objs.size = some (accObj [])) :
    Inv (compCx X (own ++ fr.map (·.1)) sc cl s H fp) [(s.heap.objs.size, accObj [])] (compSt own fr σ) H { s with heap := h1, toks := tk } := by
  have cellLt : ∀ x c, cl.lookup x = some c → c < s.heap.objs.size := fun x c e => by
    obtain ⟨v, z⟩ := I.cell x c (C.sub x c e)
    exact z.lt
  have sizeC : s.heap.objs.size ≤ s.heap.objs.size + 1 := Nat.le_succ _
  refine ⟨⟨I.ok.mod, S.kind, I.ok.glob, I.ok.blt, sizeC, fun x y c e1 e2 => I.ok.inj x y c (C.sub x c e1) (C.sub y c e2), fun x hx => C.has x hx, fun _ _ z => (by cases z), I.ok.hd, I.ok.frames, .inl rfl, fun b hb => ⟨?_, fun x c e z => ?_⟩,
    I.bs, Nat.le_trans I.ok.bsz I.sz, fun b o e hb => ?_, fun b hb z => ?_, I.stack, I.stkFree⟩, rfl, I.bare, Un.kept old, ⟨m, hn, fun i x v e1 e2 e3 => ?_⟩, fun x c e => ?_, I.hok.fresh sizeC, fun x c e => I.freeC x c (C.sub x c e), fun p hp => ?_, I.hok.kept old, ?_⟩
  · exact Nat.ne_of_lt (Nat.lt_succ_of_lt (hfl b hb))
  · exact (hf b hb).2.2.2.2.1 x c (C.sub x c e) z
  · rcases (hf b hb).2.2.2.1 with z | z
    · exact I.ok.noex b o e z
    · exact absurd (Nat.lt_of_lt_of_le (Heap.lt_size e) (Nat.le_trans I.ok.bsz z)) (Nat.lt_irrefl _)
  · exact I.stkNot (hf b hb).2.1 (hf b hb).2.2.1 z
  · obtain ⟨p, hp, rfl, e4⟩ := compSt_get rfl e1 e2
    obtain ⟨c1, c2, c3, c4⟩ := C.cap p hp
    obtain ⟨m0, hn0, hl⟩ := I.loc
    obtain ⟨u, r, l⟩ := hl p.2 p.1 v c1 e4 c3
    refine ⟨u, r, .inr ⟨c4, ?_⟩⟩
    rcases l with ⟨k, _⟩ | ⟨_, c, hc, ho, hoe, hod⟩
    · exact absurd k c2
    · obtain ⟨c', hc'⟩ := C.has p.1 c4
      have := C.sub p.1 c' hc'
      rw [hc] at this
      cases this
      exact ⟨c, hc', ho, old _ _ hoe, hod⟩
  · obtain ⟨v, o, ho, hd⟩ := I.cell x c (C.sub x c e)
    exact ⟨v, o, old _ _ ho, hd⟩
  · have hp' : p = (s.heap.objs.size, accObj []) := by simpa [compCx] using hp
    subst hp'
    refine ⟨hD, I.hok.fresh (Nat.le_refl _), ?_, ?_, fun v z => by cases z⟩
    · exact Nat.ne_of_lt (Nat.lt_succ_self _)
    · exact I.stkNot (Nat.ne_of_gt I.lt) (I.nofs (Nat.le_refl _))
  · show (compSt own fr σ).length = (own ++ fr.map (·.1)).length
    unfold compSt
    rw [List.length_append, List.length_append, List.length_map, List.length_map, List.length_map]
theorem HOk.track {P : Program} {w : World} {H : Hp} {h : Heap} {a : Addr} {o : HO} (x : HOk P w H h) (hn : H a = none) (new : ObjOk P w (upd H a o) h a o) : HOk P w (upd H a o) h := fun b u e => by
  by_cases hb : b = a
  · subst hb; rw [upd_same] at e; cases e; exact new
  · rw [upd_ne hb] at e
    exact (x b u e).stay (fun c v _ q => q) (fun c q => by rw [upd_ne (ne_of_none q hn)]; exact q) fun c xs q => by rw [upd_ne (ne_of_none q hn)]; exact q
theorem Inv.unblock {pins : List (Addr × Obj)} {σ : St} {H H3 : Hp} {s s4 : Shared} {N : List Str} {σ3 : St} {sc : Scope} {cl : List (Str × Addr)} {fp : List Addr} {h' : Heap} {ys : List V} {us : List Value}
    (I : Inv X pins σ H s) (hf : ∀ b ∈ fp, FpOk X pins H b) (I4 : Inv (compCx X N sc cl s H fp) [(s.heap.objs.size, accObj us)] σ3 H3 s4) (hv : Vals ys us) (hz : ys.length ≤ sizeLine)
    (hs : Heap.SameBut (s.heap.objs.size + 1) s4.heap h') : Inv X pins σ (upd H3 s.heap.objs.size (.lst ys)) { s4 with heap := h' } := by
  obtain ⟨eD, nD, neD, _, _⟩ := I4.pin (s.heap.objs.size, accObj us) (List.mem_append_right _ (by simp))
  have eD : s4.heap.get? s.heap.objs.size = some (accObj us) := eD
  have nD : H3 s.heap.objs.size = none := nD
  have b4 : Un (frs X.stack) fp H H3 s.heap s4.heap := I4.base
  have nC : H3 (s.heap.objs.size + 1) = none := I4.free
  have neC : ∀ b o, s.heap.get? b = some o → b ≠ s.heap.objs.size + 1 := fun b o e => Nat.ne_of_lt (Nat.lt_succ_of_lt (Heap.lt_size e))
  have neD' : ∀ b o, s.heap.get? b = some o → b ≠ s.heap.objs.size := fun b o e => Nat.ne_of_lt (Heap.lt_size e)
  have k4 : ∀ b o, b ≠ s.heap.objs.size + 1 → s4.heap.get? b = some o → h'.get? b = some o := fun b o hb e => hs.extBut b o hb e
  refine I.call' (s' := { s4 with heap := h' }) (ch := fp) I4.os ⟨fun b o e n h1 h2 => k4 b o (neC b o e) (b4.keep b o e n h1 h2), fun b o e n h1 h2 => ?_, fun b o e n h2 => ?_, fun b o e h2 => ?_,
    fun b xs e => ?_, fun b o u e => ?_, fun b ps e => ?_⟩ ?_ I4.bare fun b hb => ⟨(hf b hb).2.2.2.1, (hf b hb).2.1, (hf b hb).2.2.2.2.1, (hf b hb).2.2.2.2.2⟩
  · obtain ⟨sl, q⟩ := b4.slot b o e n h1 h2
    exact ⟨sl, k4 b _ (neC b o e) q⟩
  · rw [upd_ne (neD' b o e)]; exact b4.free b o e n h2
  · obtain ⟨o', q⟩ := b4.there b o e h2
    exact ⟨o', k4 b _ (neC b o e) q⟩
  · have q := b4.tups b xs e
    rw [upd_ne (ne_of_none q nD)]; exact q
  · have q := b4.frzs b o u e
    rw [upd_ne (ne_of_none q nD)]; exact q
  · obtain ⟨more, q⟩ := b4.tbls b ps e
    exact ⟨more, by rw [upd_ne (ne_of_none q nD)]; exact q⟩
  · have hk : HOk X.prog X.w H3 h' := fun b u e => (I4.hok b u e).stay (fun c v hc q => k4 c v (fun z => by
      subst z
      rcases hc with hc | hc
      · subst hc; rw [nC] at e; cases e
      · rw [nC] at hc; cases hc) q) (fun _ q => q) fun _ _ q => q
    refine hk.track nD ⟨hz, us, us.length, hv, k4 _ _ (Nat.ne_of_lt (Nat.lt_succ_self _)) eD⟩
theorem comp_core {elt tg iter : Expr} {ifs : List Expr} {sc : Scope} {pos : Pos} {own : List Str} {fr : List (Str × Nat)} {cl : List (Str × Addr)} {g : TG} {tt : TT} {te : TE} {RR : Value → Addr → Result → Shared → Prop} {E : Value → Shared → Prop}
    {pins : List (Addr × Obj)} {σ : St} {H2 : Hp} {s2 : Shared} {Q : VK} {it : Addr} {fp : List Addr} {tn : Nat → Heap → Prop} {J : It} (hc : X.calm = true) (S : CompSc sc) (C : Caps X sc cl fr)
    (hg : ∀ s H fp, PG (compCx X (own ++ fr.map (·.1)) sc cl s H fp) tg g) (hfr : ∀ σ, Fresh g (compSt own fr σ)) (ht : ∀ s H fp, PTs (compCx X (own ++ fr.map (·.1)) sc cl s H fp) ifs tt)
    (he : ∀ s H fp, PE (compCx X (own ++ fr.map (·.1)) sc cl s H fp) elt te) (I2 : Inv X pins σ H2 s2) (T : Turn X.prog X.w X.K tg J fp it tn) (st2 : tn 0 s2.heap) (f2 : ∀ b ∈ fp, FpOk X pins H2 b) (hW : LCb own fr g tt te σ Q J H2)
    (hRR : ∀ s5 H4 ys us, Inv (compCx X (own ++ fr.map (·.1)) sc cl s2 H2 fp) [(s2.heap.objs.size, accObj us)] (compSt own fr σ) H4 s5 → Vals ys us → ys.length ≤ sizeLine → (∀ p, H4 p = none → Q (.ref p) (upd H4 p (.lst ys))) →
      RR (.ref s2.heap.objs.size) (s2.heap.objs.size + 1) (.ok .next) s5) :
    wpAny (model X.prog X.w) X.A (newList []) (fun acc s3 => wpAny (model X.prog X.w) X.A (newFunctionEnv sc X.env.globals cl [] X.env.qual none .none (some X.env)) (fun ce s4 =>
      codeAny (model X.prog X.w) X.A (.compStart (.ListComp elt [⟨tg, iter, ifs, 0⟩] sc pos) 0 (.ref it) acc { ce with scope := relabel sc X.env }) (RR acc ce.locals) s4) E s3) E s2 := by
  obtain ⟨W, ⟨m0, w0⟩, turn⟩ := hW
  have fpl : ∀ b ∈ fp, b < s2.heap.objs.size := fun b hb => by
    obtain ⟨o, e, _⟩ := T.obj _ _ st2 b hb
    exact Heap.lt_size e
  refine wpAny_newObj_type (wpAny_newFunctionEnv S.cell (by intro y hy; simp at hy) (fun h₁ hns₁ hsb₁ => ?_) S.kind)
  dsimp only at hns₁ hsb₁ ⊢
  generalize hH2 : s2.heap.push { cls := .type "list", dict := none, data := .seq ([] : List Value).toArray } = G at hns₁ hsb₁ ⊢
  have hC : G.objs.size = s2.heap.objs.size + 1 := by rw [← hH2, Heap.size_push]
  rw [hC] at hns₁ hsb₁ ⊢
  have old : ∀ b o, s2.heap.get? b = some o → h₁.get? b = some o := fun b o e => by
    exact hsb₁.extBut b o (Nat.ne_of_lt (Nat.lt_succ_of_lt (Heap.lt_size e))) (Heap.get?_push_of_some _ (hH2 ▸ Heap.get?_push_of_some _ e))
  have hacc : h₁.get? s2.heap.objs.size = some (accObj []) := hsb₁.extBut _ _ (Nat.ne_of_lt (Nat.lt_succ_self _)) (Heap.get?_push_of_some _ (hH2 ▸ Heap.get?_push_size _ rfl))
  have I3 := I2.block (own := own) (tk := s2.toks + ([] : List (Str × Value)).length) f2 fpl S C old hns₁ hacc
  have stat : ∀ {H' : Hp} {us : List Value}, (∀ b ∈ fp, H' b = none) → ∀ b ∈ fp, FpOk (compCx X (own ++ fr.map (·.1)) sc cl s2 H2 fp) [(s2.heap.objs.size, accObj us)] H' b := fun {H' us} hn b hb => by
    obtain ⟨_, g1, g2, g3, g4, g5⟩ := f2 b hb
    have hbl := fpl b hb
    refine ⟨hn b hb, ?_, I2.stkNot g1 g2, .inl hb, fun x c e => g4 x c (C.sub x c e), fun p hp => ?_⟩
    · exact Nat.ne_of_lt (Nat.lt_succ_of_lt hbl)
    · have hp' : p = (s2.heap.objs.size, accObj us) := by simpa [compCx] using hp
      subst hp'
      exact Nat.ne_of_gt hbl
  have loop : ∀ s3 : Shared, s3 = { s2 with heap := h₁, toks := s2.toks + ([] : List (Str × Value)).length } →
      codeAny (model X.prog X.w) X.A (.compLoop (.ListComp elt [⟨tg, iter, ifs, 0⟩] sc pos) 0 (.ref it) (.ref s2.heap.objs.size) (compEnvC sc cl (s2.heap.objs.size + 1) X.env))
        (RR (.ref s2.heap.objs.size) (s2.heap.objs.size + 1)) s3 := by
    rintro s3 rfl
    refine comp_loop (fun n s' => ∃ i ys us H', Vals ys us ∧ Inv (compCx X (own ++ fr.map (·.1)) sc cl s2 H2 fp) [(s2.heap.objs.size, accObj us)] (compSt own fr σ) H' s' ∧ tn i s'.heap ∧ (∀ b ∈ fp, H' b = none) ∧ ys.length ≤ sizeLine ∧ W i n ys H') ?_ m0
      ⟨0, [], [], H2, .nil, I3, T.keep _ _ _ st2 fun b _ o e => old b o e, fun b hb => (f2 b hb).1, Nat.zero_le _, w0⟩
    rintro n s4 ⟨i, ys, us, H4, hv, I4, st4, fr4, hz, w4⟩
    rcases turn i n ys H4 w4 with ⟨stop, fin⟩ | ⟨go, hlt, step⟩
    · refine thn (T.done (compCx X (own ++ fr.map (·.1)) sc cl s2 H2 fp) rfl rfl rfl hc i _ s4 _ H4 _ I4 (stat fr4) st4 stop) fun r s5 ⟨hr, I5⟩ => ?_
      subst hr
      exact hRR s5 H4 ys us I5 hv hz fin
    · refine thn (T.item (compCx X (own ++ fr.map (·.1)) sc cl s2 H2 fp) rfl rfl rfl hc i _ s4 _ H4 _ I4 (stat fr4) st4 go) fun r s5 ⟨u, hr, h5⟩ => ?_
      subst hr
      refine thn h5 fun _ s6 ⟨x, H6, I6, r6, y6, st6, fr6⟩ => ?_
      have I6' := I6.pinned (stat fr6) (T.obj _ _ st6)
      refine thn (hg s2 H2 fp _ s6 _ H6 x u _ I6' r6 (hfr σ x H6 _ (step x H6 y6))) fun _ s7 ⟨σ7, H7, I7, k7, q7⟩ => ?_
      refine thn (ht s2 H2 fp _ s7 σ7 H7 _ I7 q7) fun ok s8 ⟨H8, I8, q8⟩ => ?_
      have fps : ∀ {pins' : List (Addr × Obj)} {σ' : St} {H' : Hp} {s' : Shared}, Inv (compCx X (own ++ fr.map (·.1)) sc cl s2 H2 fp) ([(s2.heap.objs.size, accObj us)] ++ pinsAt fp s6.heap) σ' H' s' → ∀ b ∈ fp, (∀ o, s6.heap.get? b = some o → s'.heap.get? b = some o) ∧ H' b = none := fun {pins' σ' H' s'} I' b hb => by
        obtain ⟨o, e, _⟩ := T.obj _ _ st6 b hb
        have z := I'.pin (b, o) (List.mem_append_right _ (List.mem_append_right _ (mem_pinsAt hb e)))
        exact ⟨fun o' e' => by rw [e] at e'; cases e'; exact z.1, z.2.1⟩
      cases ok with
      | false =>
        rw [if_neg Bool.false_ne_true] at q8
        obtain ⟨m', hm, w8⟩ := q8
        rw [if_neg Bool.false_ne_true]
        exact ⟨m', hm, i + 1, ys, us, H8, hv, (I8.unpinned).weak k7.1 k7.2, T.keep _ _ _ st6 fun b hb o e => (fps (pins' := []) I8 b hb).1 o e, fun b hb => (fps (pins' := []) I8 b hb).2, hz, w8⟩
      | true =>
        rw [if_pos rfl] at q8
        rw [if_pos rfl]
        refine thn (he s2 H2 fp _ s8 σ7 H8 _ I8 q8) fun y s9 ⟨v, H9, I9, r9, m', hm, w9⟩ => ?_
        have pD := I9.pin (s2.heap.objs.size, accObj us) (List.mem_append_right _ (List.mem_append_left _ (by simp)))
        have zD : s9.heap.get? s2.heap.objs.size = some (accObj us) := pD.1
        have nD : H9 s2.heap.objs.size = none := pD.2.1
        refine append_at (hsz := by show us.toArray.size ≤ sizeLine; rw [List.size_toArray, ← hv.length]; exact hz) zD fun h5 hs5 hD5 => ?_
        have Ia : Inv (compCx X (own ++ fr.map (·.1)) sc cl s2 H2 fp) (pinsAt fp s6.heap) σ7 H9 s9 := I9.pins_of fun p hp => I9.pin p (List.mem_append_right _ (List.mem_append_right _ hp))
        have neD : s2.heap.objs.size ≠ s2.heap.objs.size + 1 := Nat.ne_of_lt (Nat.lt_succ_self _)
        have Ib : Inv (compCx X (own ++ fr.map (·.1)) sc cl s2 H2 fp) (pinsAt fp s6.heap) σ7 H9 { s9 with heap := h5, toks := s9.toks } := Ia.turned (it := s2.heap.objs.size) (fun b o hb e => hs5.extBut b o hb e) nD neD (.inr (Nat.le_refl _)) (fun x c e z => by
            obtain ⟨v', q⟩ := I2.cell x c (C.sub x c e)
            have q' := q.lt
            rw [z] at q'
            exact Nat.lt_irrefl _ q') fun p hp z => by
            have hp' : p ∈ pinsAt fp s6.heap := by simpa [compCx] using hp
            have q' := fpl p.1 (of_pinsAt hp').1
            rw [z] at q'
            exact Nat.lt_irrefl _ q'
        have Ic : Inv (compCx X (own ++ fr.map (·.1)) sc cl s2 H2 fp) [(s2.heap.objs.size, accObj (us ++ [y]))] σ7 H9 { s9 with heap := h5, toks := s9.toks } := Ib.pins_of fun p hp => by
          have hp' : p = (s2.heap.objs.size, accObj (us ++ [y])) := by simpa using hp
          subst hp'
          exact ⟨hD5.trans (congrArg some (acc_snoc us y)), nD, neD, pD.2.2.2.1, fun v z => by cases z⟩
        refine ⟨m', hm, i + 1, ys ++ [v], us ++ [y], H9, hv.append (.cons r9 .nil), Ic.weak k7.1 k7.2, T.keep _ _ _ st6 fun b hb o e => ?_, fun b hb => (fps (pins' := []) I9 b hb).2, ?_, w9⟩
        · exact hs5.extBut b o (Nat.ne_of_lt (fpl b hb)) ((fps (pins' := []) I9 b hb).1 o e)
        · rw [List.length_append]; exact hlt
  exact codeAny_compStart_list (loop _ rfl) (T.self _ 0 _ _ _ (T.keep _ _ _ st2 fun b _ o e => old b o e) (loop _ rfl))
theorem pe_lcomp {elt tg iter : Expr} {ifs : List Expr} {sc : Scope} {pos : Pos} {own : List Str} {fr : List (Str × Nat)} {cl : List (Str × Addr)} {wi : TI} {g : TG} {tt : TT} {te : TE} (hc : X.calm = true) (hi : PI X tg iter wi) (S : CompSc sc) (C : Caps X sc cl fr)
    (hg : ∀ s H fp, PG (compCx X (own ++ fr.map (·.1)) sc cl s H fp) tg g) (hfr : ∀ σ, Fresh g (compSt own fr σ)) (ht : ∀ s H fp, PTs (compCx X (own ++ fr.map (·.1)) sc cl s H fp) ifs tt)
    (he : ∀ s H fp, PE (compCx X (own ++ fr.map (·.1)) sc cl s H fp) elt te) (hs : ∀ x, foldedSetIterable iter X.env x = pure x := by intro _; rfl) :
    PE X (.ListComp elt [⟨tg, iter, ifs, 0⟩] sc pos) (tLC own fr wi g tt te) := by
  intro pins s σ H Q I h
  rw [eval_ListComp]
  refine wpAny_comprehension_free (use := none) rfl hs C.clos S.kind S.nms (thn (hi pins s σ H _ I h) fun xv s1 h1 => thn h1 fun itv s2 h2 => ?_)
  obtain ⟨it, fp, tn, J, H2, e, I2, T, st2, f2, hW⟩ := h2
  subst e
  refine comp_core (RR := fun acc A => compPost (model X.prog X.w) X.A X.xe none (EP X pins σ Q) acc A) hc S C hg hfr ht he I2 T st2 f2 hW fun s5 H4 ys us I5 hv hz fin => ?_
  obtain ⟨m5, hn5, _⟩ := id I5.loc
  have nD : H4 s2.heap.objs.size = none := (I5.pin (s2.heap.objs.size, accObj us) (List.mem_append_right _ (by simp))).2.1
  exact ⟨m5, hn5, fun h' hs' => ⟨.ref s2.heap.objs.size, upd H4 s2.heap.objs.size (.lst ys), I2.unblock f2 I5 hv hz hs', rfl, fin _ nD⟩⟩
theorem ps_setC {i : Nat} {y : Str} {py spos : Pos} {elt tg iter : Expr} {ifs : List Expr} {sc : Scope} {pos : Pos} {own : List Str} {fr : List (Str × Nat)} {cl : List (Str × Addr)} {wi : TI} {g : TG} {tt : TT} {te : TE} (hN : X.N.Nodup) (hy : X.N[i]? = some y)
    (hx : Loc X.env.scope y) (hc : X.calm = true) (hi : PI X tg iter wi) (S : CompSc sc) (C : Caps X sc cl fr)
    (hg : ∀ s H fp, PG (compCx X (own ++ fr.map (·.1)) sc cl s H fp) tg g) (hfr : ∀ σ, Fresh g (compSt own fr σ)) (ht : ∀ s H fp, PTs (compCx X (own ++ fr.map (·.1)) sc cl s H fp) ifs tt)
    (he : ∀ s H fp, PE (compCx X (own ++ fr.map (·.1)) sc cl s H fp) elt te) (hs : ∀ x, foldedSetIterable iter X.env x = pure x := by intro _; rfl)
    (hsw : swapsWith (.ListComp elt [⟨tg, iter, ifs, 0⟩] sc pos) (some (.Name y py)) spos.line X.env = pure true := by rfl) (hf : X.fn y = true ∨ X.env.scope.names.lookup y = some .local := by first | exact .inl rfl | exact .inr rfl | assumption) :
    PS X (.Assign [.Name y py] (.ListComp elt [⟨tg, iter, ifs, 0⟩] sc pos) spos) (tAsg (tLC own fr wi g tt te) (gName i)) := by
  intro pins s σ H D I h
  rw [exec_Assign_Name_used _ _ _ _ hsw]
  refine wpAny_bind (wpAny_standAt (wpAny_bind ?_))
  show wpAny _ X.A (do let _ ← comprehension (.ListComp elt [⟨tg, iter, ifs, 0⟩] sc pos) sc X.env _ (newList []) false (eval iter X.env) (some (assign (.Name y py) X.env))) _ _ s
  refine wpAny_bind (thn (wpAny_comprehension_free (use := some (assign (.Name y py) X.env)) (Q := fun _ s' => SP X pins D .next s') rfl hs C.clos S.kind S.nms
    (thn (hi pins s σ H _ I h) fun xv s1 h1 => thn h1 fun itv s2 h2 => ?_)) fun _ s' hq => wpAny_pure (wpAny_pure hq))
  obtain ⟨it, fp, tn, J, H2, e, I2, T, st2, f2, hW⟩ := h2
  subst e
  refine comp_core (RR := fun acc A => compPost (model X.prog X.w) X.A X.xe (some (assign (.Name y py) X.env)) (fun _ s' => SP X pins D .next s') acc A) hc S C hg hfr ht he I2 T st2 f2 hW fun s5 H4 ys us I5 hv hz fin => ?_
  obtain ⟨m5, hn5, _⟩ := id I5.loc
  have nD : H4 s2.heap.objs.size = none := (I5.pin (s2.heap.objs.size, accObj us) (List.mem_append_right _ (by simp))).2.1
  have nC : H4 (s2.heap.objs.size + 1) = none := I5.free
  have I6 : Inv X pins σ (upd H4 s2.heap.objs.size (.lst ys)) s5 := I2.unblock f2 I5 hv hz (Heap.SameBut.refl _ _)
  show wpAny _ X.A (assign (.Name y py) X.env (.ref s2.heap.objs.size)) _ _ s5
  refine wpAny_assign_Name (store_ok2 (v := .ref s2.heap.objs.size) I6 hN hy hx rfl (fun s7 I7 ⟨a, hsb, ha⟩ => ?_) hf)
  have Clt : s2.heap.objs.size < s2.heap.objs.size + 1 := Nat.lt_succ_self _
  have neL : s2.heap.objs.size + 1 ≠ X.env.locals := Nat.ne_of_gt (Nat.lt_trans I2.lt Clt)
  have neCell : ∀ x c, X.env.cells.lookup x = some c → c ≠ s2.heap.objs.size + 1 := fun x c e => by
    obtain ⟨v', q⟩ := I2.cell x c e
    exact Nat.ne_of_lt (Nat.lt_trans q.lt Clt)
  have neA : s2.heap.objs.size + 1 ≠ a := by
    rcases ha with rfl | ha
    · exact neL
    · exact Ne.symm (neCell _ _ ha)
  refine ⟨m5, hn5.sameBut hsb neA, fun h' hs' => ⟨_, _, ?_, fin _ nD⟩⟩
  exact I7.turned (it := s2.heap.objs.size + 1) (t' := s7.toks) (fun b o hb e => hs'.extBut b o hb e) (by rw [upd_ne (Nat.ne_of_gt Clt)]; exact nC) neL (.inr (Nat.le_trans I2.sz (Nat.le_of_lt Clt))) neCell fun p hp z => by
    have q := Heap.lt_size (I2.pin p hp).1
    rw [z] at q
    exact absurd (Nat.lt_trans Clt q) (Nat.lt_irrefl _)
end
end L2
namespace L2
open PySem PySem.Spec PyProof.Rows
def Its (z : Str) : It := ⟨fun i _ => i < z.cps.size, fun i H x H' => H' = H ∧ ∃ c, z.cps[i]? = some c ∧ x = .str ⟨#[c]⟩, fun i _ => z.cps.size ≤ i⟩
theorem striter_obj {h : Heap} {it : Addr} {ty : String} {z : Str} {t : Tok} {i : Nat} (st : h.IsStrIter it ty z t i) : ∀ b ∈ [it], ∃ o, h.get? b = some o ∧ ∀ v, o.data ≠ .cell v := fun b hb => by
  have e : b = it := by simpa using hb
  subst e
  obtain ⟨o, e, c, d⟩ := st
  exact ⟨o, e, fun v z => by rw [d] at z; cases z⟩
theorem turn_strA {P : Program} {w : World} {K : PySem.W.Frag} {tg : Expr} (z : Str) (t : Tok) (it : Addr) : Turn P w K tg (Its z) [it] it (fun i h => h.IsStrIter it "str_ascii_iterator" z t i) where
  mem := by simp
  obj := fun i h st => striter_obj st
  keep := fun i h h' st k => let ⟨o, ho, r⟩ := st; ⟨o, k it (by simp) o ho, r⟩
  item := by
    intro X hP hw hK hc i pins s σ H E I hf st hg
    subst hP hw hK
    obtain ⟨f0, f1, f2, f3, f4, f5⟩ := hf it (by simp)
    have hg : i < z.cps.size := hg
    refine wpAny_pyNext_ascii_item st (c := z.cps[i]) (by simp [hg]) fun h' st' sb => ?_
    have I1 : Inv X pins σ H { s with heap := h', toks := s.toks + 1 } := I.turned (fun b o hb e => (sb.2 b hb).trans e) f0 f1 f3 f4 f5
    obtain ⟨o, e, c, d⟩ := id st'
    exact ⟨_, rfl, go_of (s := { s with heap := h', toks := s.toks + 1 }) e c d (by decide) ⟨.str ⟨#[z.cps[i]]⟩, H, I1, ⟨_, rfl⟩, ⟨rfl, _, by simp [hg], rfl⟩, st', fun b hb => (hf b hb).1⟩⟩
  done := by
    intro X hP hw hK hc i pins s σ H E I hf st hg
    subst hP hw hK
    obtain ⟨f0, f1, f2, f3, f4, f5⟩ := hf it (by simp)
    have hg : z.cps.size ≤ i := hg
    exact wpAny_pyNext_ascii_end (I.ok.hd hc) st (by simp [hg]) fun h' eb => ⟨rfl, I.turned (t' := s.toks) (fun b o hb e => eb b o hb e) f0 f1 f3 f4 f5⟩
  self := fun _ _ _ _ _ st h => wpAny_pyIter_striter_ascii st h
theorem turn_strW {P : Program} {w : World} {K : PySem.W.Frag} {tg : Expr} (z : Str) (t : Tok) (it : Addr) : Turn P w K tg (Its z) [it] it (fun i h => h.IsStrIter it "str_iterator" z t i) where
  mem := by simp
  obj := fun i h st => striter_obj st
  keep := fun i h h' st k => let ⟨o, ho, r⟩ := st; ⟨o, k it (by simp) o ho, r⟩
  item := by
    intro X hP hw hK hc i pins s σ H E I hf st hg
    subst hP hw hK
    obtain ⟨f0, f1, f2, f3, f4, f5⟩ := hf it (by simp)
    have hg : i < z.cps.size := hg
    refine wpAny_pyNext_wide_item st (c := z.cps[i]) (by simp [hg]) fun h' st' sb => ?_
    have I1 : Inv X pins σ H { s with heap := h', toks := s.toks + 1 } := I.turned (fun b o hb e => (sb.2 b hb).trans e) f0 f1 f3 f4 f5
    obtain ⟨o, e, c, d⟩ := id st'
    exact ⟨_, rfl, go_of (s := { s with heap := h', toks := s.toks + 1 }) e c d (by decide) ⟨.str ⟨#[z.cps[i]]⟩, H, I1, ⟨_, rfl⟩, ⟨rfl, _, by simp [hg], rfl⟩, st', fun b hb => (hf b hb).1⟩⟩
  done := by
    intro X hP hw hK hc i pins s σ H E I hf st hg
    subst hP hw hK
    obtain ⟨f0, f1, f2, f3, f4, f5⟩ := hf it (by simp)
    have hg : z.cps.size ≤ i := hg
    exact wpAny_pyNext_wide_end (I.ok.hd hc) st (by simp [hg]) fun h' eb => ⟨rfl, I.turned (t' := s.toks) (fun b o hb e => eb b o hb e) f0 f1 f3 f4 f5⟩
  self := fun _ _ _ _ _ st h => wpAny_pyIter_striter_wide st h
section
variable {X : Cx} {tg : Expr}
def iStr (tl : TE) : TI := fun σ H R => tl σ H fun x H1 => ∃ z, x = .str z ∧ R (Its z) H1
theorem pi_str {l : Expr} {tl : TE} (hl : PE X l tl) : PI X tg l (iStr tl) := by
  intro pins s σ H R I h
  refine thn (hl pins s σ H _ I h) fun v s1 ⟨x, H1, I1, r1, q1⟩ => ?_
  obtain ⟨z, e, q⟩ := q1
  subst e
  obtain ⟨t, rfl⟩ := r1
  have fin : ∀ b ∈ [s1.heap.objs.size], FpOk X pins H1 b := fun b hb => by
    have e : b = s1.heap.objs.size := by simpa using hb
    subst e
    exact I1.fpOk (Nat.le_refl _) (I1.hok.fresh (Nat.le_refl _))
  cases ha : z.cps.all (· < 128)
  · exact wpAny_pyIter_wide ha ⟨s1.heap.objs.size, [s1.heap.objs.size], _, _, H1, rfl, I1.kept (t' := s1.toks) fun b o e => Heap.get?_push_of_some _ e, turn_strW z t _, ⟨_, Heap.get?_push_size _ rfl, rfl, rfl⟩, fin, q⟩
  · exact wpAny_pyIter_ascii ha ⟨s1.heap.objs.size, [s1.heap.objs.size], _, _, H1, rfl, I1.kept (t' := s1.toks) fun b o e => Heap.get?_push_of_some _ e, turn_strA z t _, ⟨_, Heap.get?_push_size _ rfl, rfl, rfl⟩, fin, q⟩
end
theorem fm_some {α : Type} (f : α → V) (l : List α) : (l.filterMap fun c => some (f c)) = l.map f := by
  induction l with
  | nil => rfl
  | cons c l ih => rw [List.filterMap_cons, ih]; rfl
theorem lc_str {own : List Str} {fr : List (Str × Nat)} {z : Str} {g : TG} {tt : TT} {te : TE} {σ : St} {H : Hp} {Q : VK} (hz : z.cps.size ≤ sizeLine) (F : Nat → Option V) (Pv : Hp → Prop) (h0 : Pv H)
    (hs : ∀ c H' (K1 : V → Hp → Prop) (K0 : Hp → Prop), c ∈ z.cps.toList → Pv H' → (∀ y H4, F c = some y → Pv H4 → K1 y H4) → (F c = none → ∀ H3, Pv H3 → K0 H3) →
      g (.str ⟨#[c]⟩) (compSt own fr σ) H' fun σ2 H2 => tt σ2 H2 fun b H3 => if b = true then te σ2 H3 K1 else K0 H3)
    (hd : ∀ H' p, Pv H' → H' p = none → Q (.ref p) (upd H' p (.lst (z.cps.toList.filterMap F)))) :
    LCb own fr g tt te σ Q (Its z) H := by
  refine ⟨fun i m ys H => m = z.cps.size - i ∧ i ≤ z.cps.size ∧ ys = (z.cps.toList.take i).filterMap F ∧ Pv H, ⟨z.cps.size, by simp, Nat.zero_le _, by simp, h0⟩, ?_⟩
  rintro i m ys H ⟨rfl, hi, rfl, p⟩
  by_cases hlt : i < z.cps.size
  · have hlen : ((z.cps.toList.take i).filterMap F).length ≤ i := Nat.le_trans (List.length_filterMap_le _ _) (by rw [List.length_take]; exact Nat.min_le_left _ _)
    refine .inr ⟨hlt, by omega, fun x H' y => ?_⟩
    obtain ⟨rfl, c, hc, rfl⟩ := y
    have hc' : z.cps.toList[i]? = some c := by rw [Array.getElem?_toList]; exact hc
    have step : (z.cps.toList.take (i + 1)).filterMap F = (z.cps.toList.take i).filterMap F ++ (F c).toList := by
      rw [List.take_add_one, hc', List.filterMap_append]
      congr 1
    refine hs c H' _ _ (List.mem_of_getElem? hc') p (fun y H4 e p4 => ⟨z.cps.size - (i + 1), by omega, rfl, hlt, ?_, p4⟩) fun e H3 p3 => ⟨z.cps.size - (i + 1), by omega, rfl, hlt, ?_, p3⟩
    · rw [step, e]; rfl
    · rw [step, e]; simp
  · have e : i = z.cps.size := by omega
    subst e
    refine .inl ⟨Nat.le_refl _, fun q hq => ?_⟩
    have := hd H q p hq
    rw [List.take_of_length_le (by simp)]
    exact this
theorem lc_list {K : PySem.W.Frag} {a : Addr} {xs : List V} {own : List Str} {fr : List (Str × Nat)} {g : TG} {tt : TT} {te : TE} {σ : St} {H : Hp} {Q : VK} (hz : xs.length ≤ sizeLine) (F : V → Option V) (Pv : Hp → Prop) (h0 : Pv H) (hl : ∀ H, Pv H → SqL K H a xs)
    (hs : ∀ x H' (K1 : V → Hp → Prop) (K0 : Hp → Prop), x ∈ xs → Pv H' → (∀ y H4, F x = some y → Pv H4 → K1 y H4) → (F x = none → ∀ H3, Pv H3 → K0 H3) →
      g x (compSt own fr σ) H' fun σ2 H2 => tt σ2 H2 fun b H3 => if b = true then te σ2 H3 K1 else K0 H3)
    (hd : ∀ H' p, Pv H' → H' p = none → Q (.ref p) (upd H' p (.lst (xs.filterMap F)))) :
    LCb own fr g tt te σ Q (Itl K a) H := by
  refine ⟨fun i m ys H => m = xs.length - i ∧ i ≤ xs.length ∧ ys = (xs.take i).filterMap F ∧ Pv H, ⟨xs.length, by simp, Nat.zero_le _, by simp, h0⟩, ?_⟩
  rintro i m ys H ⟨rfl, hi, rfl, p⟩
  by_cases hlt : i < xs.length
  · have hlen : ((xs.take i).filterMap F).length ≤ i := Nat.le_trans (List.length_filterMap_le _ _) (by rw [List.length_take]; exact Nat.min_le_left _ _)
    refine .inr ⟨⟨xs, xs[i], hl H p, by simp [hlt]⟩, by omega, fun x H' y => ?_⟩
    obtain ⟨rfl, y⟩ := y
    have hc := y xs (hl _ p)
    have step : (xs.take (i + 1)).filterMap F = (xs.take i).filterMap F ++ (F x).toList := by
      rw [List.take_add_one, hc, List.filterMap_append]
      congr 1
    refine hs x H' _ _ (List.mem_of_getElem? hc) p (fun y H4 e p4 => ⟨xs.length - (i + 1), by omega, rfl, hlt, ?_, p4⟩) fun e H3 p3 => ⟨xs.length - (i + 1), by omega, rfl, hlt, ?_, p3⟩
    · rw [step, e]; rfl
    · rw [step, e]; simp
  · have e : i = xs.length := by omega
    subst e
    refine .inl ⟨⟨xs, hl H p, Nat.le_refl _⟩, fun q hq => ?_⟩
    have := hd H q p hq
    rw [List.take_length]
    exact this
section
variable {X : Cx}
theorem all_range (bs : List Bool) : ((List.range bs.length).all fun i => bs.getD i false) = bs.all id := by
  rw [Bool.eq_iff_iff, List.all_eq_true, List.all_eq_true]
  constructor
  · intro h b hb
    obtain ⟨i, hi, e⟩ := List.mem_iff_getElem.mp hb
    have q := h i (List.mem_range.mpr hi)
    rw [List.getD_eq_getElem?_getD, List.getElem?_eq_getElem hi] at q
    rw [← e]
    exact q
  · intro h i hi
    have hi := List.mem_range.mp hi
    rw [List.getD_eq_getElem?_getD, List.getElem?_eq_getElem hi]
    exact h _ (List.getElem_mem hi)
theorem call_all (hc : X.calm = true) : CallR X (.builtin "all") (fun xs H Q => ∃ a bs, xs = [.ref a] ∧ SqL X.K H a (List.map V.bl bs) ∧ Q (.bl (bs.all id)) H) := by
  intro pins s σ H xs us Q I r h
  obtain ⟨a, bs, rfl, hq, q⟩ := h
  obtain ⟨u, rfl, ru⟩ := vals1 r
  cases ru
  obtain ⟨its, rv, p, hz⟩ := I.list hq
  have hlen : its.length = bs.length := by rw [← rv.length, List.length_map]
  have hlt : a < s.heap.objs.size := by obtain ⟨_, e, _⟩ := p.isList; exact Heap.lt_size e
  refine call_all_walk (wpAny_pyIter_list p.isList ?_)
  refine ⟨s.heap.objs.size, _, _, _, _, _, fun i => bs.getD i false, rfl, Walks.list (show X.A.in1.handled = none from I.ok.hd hc) s.heap.objs.size a (Nat.ne_of_lt hlt) its.toArray, ⟨⟨_, Heap.get?_push_size _ rfl, rfl, rfl⟩, p.isList.push _⟩, ?_, fun h' tk hk => ?_⟩
  · intro i v s' Q' E' hP hQ
    have hP : its.toArray[i]? = some v := hP
    have hi : its[i]? = some v := by simpa using hP
    have hb : i < bs.length := by
      have := (List.getElem?_eq_some_iff.mp hi).1
      omega
    obtain ⟨u, hu, ru⟩ := rv.get (i := i) (x := V.bl bs[i]) (by rw [List.getElem?_map, List.getElem?_eq_getElem hb]; rfl)
    rw [hi] at hu
    cases hu
    cases ru
    refine wpAny_truthy_bool ?_
    have e : bs.getD i false = bs[i] := by rw [List.getD_eq_getElem?_getD, List.getElem?_eq_getElem hb]; rfl
    rw [← e]
    exact hQ
  · have e : ((List.range its.toArray.size).all fun i => bs.getD i false) = bs.all id := by rw [List.size_toArray, hlen]; exact all_range bs
    rw [e]
    exact ⟨.bl (bs.all id), H, I.kept fun b o e => hk b o (by
      have := Heap.lt_size e
      intro z
      rw [List.mem_singleton.mp z] at this
      exact absurd this (Nat.lt_irrefl _)) (Heap.get?_push_of_some _ e), rfl, q⟩
theorem call_isinst : CallR X (.builtin "isinstance") (fun xs H Q => ∃ x T t b, xs = [x, .ty T] ∧ TyOf X.K H x t ∧ PySem.W.kitOne X.K t (.type T) = some b ∧ Q (.bl b) H) := by
  intro pins s σ H xs us Q I r h
  obtain ⟨x, T, t, b, rfl, ty, e, q⟩ := h
  obtain ⟨u, v, rfl, ru, rv⟩ := vals2 r
  cases (show v = Value.type T from rv)
  exact isinst_ok I ru ty e fun tk => ⟨.bl b, H, I.tok tk, rfl, q⟩
theorem op_le_str : OpR X (compareOp .LtE) (fun x y H Q => ∃ i j, x = .str i ∧ y = .str j ∧ Q (.bl (!decide (j.cps.toList < i.cps.toList))) H) := by
  intro pins s σ H x y v u Q I rx ry h
  obtain ⟨i, j, rfl, rfl, q⟩ := h
  obtain ⟨t, rfl⟩ := rx
  obtain ⟨t', rfl⟩ := ry
  exact PySem.P.le_str (fin_bl I q rfl)
theorem op_fdivL : OpR X (binaryOp .FloorDiv) (rI (fun _ j => 0 < j ∧ j.natAbs.log2 < 9000) fun i j => .int (i / j)) := opI fun i j _ _ _ _ _ hc q => by
  have h1 : (0 : Int) < j := hc.1
  exact floordiv_int (by omega) (by rw [Int.fdiv_eq_ediv_of_nonneg i (by omega)]; exact q) (.inl (PyProof.noPylong_of_log2 hc.2))
def rSlS : V → Option Int → Option Int → Hp → VK → Prop := fun x _ _ H Q => ∃ z, x = .str z ∧ z.length ≤ sizeLine ∧ ∀ z' : Str, z'.length ≤ z.length → Q (.str z') H
theorem sl_str : SlR X rSlS := by
  intro pins s σ H x v vl vu lo hi sl Q I rx hs pl pu h
  obtain ⟨z, rfl, hz, q⟩ := h
  obtain ⟨t, rfl⟩ := rx
  refine ⟨"str", _, F.slot_str_getitem.lookup, typeIs_str _ z t, ?_⟩
  have key : ∀ l u : Option (Int × Tok), s.heap.IsSlice sl l u none → wpAny (model X.prog X.w) X.A (getItem (.str z t) (.ref sl)) (EP X pins σ Q) X.xe s := fun l u hsl => by
    refine wpAny_getItem_str_slice (st := none) hsl rfl ?_
    unfold sliceMade
    split
    · exact ⟨.str z, H, I, ⟨t, rfl⟩, q z (Nat.le_refl _)⟩
    · have hle : (⟨((slicePicked z l u none).filterMap (z.cps[·]?)).toArray⟩ : Str).length ≤ z.length := by
        show (List.filterMap _ (slicePicked z l u none)).toArray.size ≤ z.length
        rw [List.size_toArray]
        exact Nat.le_trans (List.length_filterMap_le _ _) (sliceIndices_le _ _ z.length)
      exact ⟨Nat.le_trans hle hz, .str _, H, I.tok _, ⟨_, rfl⟩, q _ hle⟩
  cases pl <;> cases pu
  · exact key none none hs
  · exact key none (some (_, _)) hs
  · exact key (some (_, _)) none hs
  · exact key (some (_, _)) (some (_, _)) hs
theorem op_eqNil (hu : X.A.units < cLine) : OpR X (compareOp .Eq) (fun x y H Q => ∃ a b xs, x = .ref a ∧ y = .ref b ∧ SqL X.K H a xs ∧ SqL X.K H b [] ∧ Q (.bl (decide (xs = []))) H) := by
  intro pins s σ H x y v u Q I rx ry h
  obtain ⟨a, b, xs, rfl, rfl, ha, hb, q⟩ := h
  cases rx
  cases ry
  obtain ⟨its, rv, p, hz⟩ := I.list ha
  obtain ⟨its2, rv2, p2, _⟩ := I.list hb
  cases rv2
  cases rv with
  | nil => exact PySem.SeqAt.eq_listAt (e := fun _ => true) p.isList p2.isList rfl hu (fun j h1 _ => absurd h1 (by simp)) ⟨.bl true, H, I, rfl, by simpa using q⟩
  | cons r1 r2 => exact PySem.SeqAt.eq_list_lengthsAt p.isList p2.isList (by simp) hu ⟨.bl false, H, I, rfl, by simpa using q⟩
end
section
variable {X : Cx} {pins : List (Addr × Obj)} {σ σ' : St} {H H' : Hp} {s s' : Shared}
theorem Inv.track {a : Addr} {o : HO} (I0 : Inv X pins σ H s) (I : Inv X pins σ' H' s') (ha : s.heap.objs.size ≤ a) (hn : H' a = none) (new : ObjOk X.prog X.w (upd H' a o) s'.heap a o) : Inv X pins σ' (upd H' a o) s' := by
  have ne : ∀ b, b < s.heap.objs.size → b ≠ a := fun b hb z => by omega
  refine ⟨I.ok, I.os, I.bare, ⟨I.base.keep, I.base.slot, fun b u e n hx => ?_, I.base.there, fun b xs e => ?_, fun b u xs e => ?_, fun b ps e => ?_⟩, I.loc, I.cell, ?_, fun x c e => ?_, fun p hp => ?_, I.hok.track hn new, I.len⟩
  · rw [upd_ne (ne b (Nat.lt_of_lt_of_le (Heap.lt_size e) I0.sz))]
    exact I.base.free b u e n hx
  · have q := I.base.tups b xs e
    rw [upd_ne (ne_of_none q hn)]; exact q
  · have q := I.base.frzs b u xs e
    rw [upd_ne (ne_of_none q hn)]; exact q
  · obtain ⟨more, q⟩ := I.base.tbls b ps e
    exact ⟨more, by rw [upd_ne (ne_of_none q hn)]; exact q⟩
  · rw [upd_ne (ne _ I0.lt)]; exact I.free
  · obtain ⟨v, q⟩ := I0.cell x c e
    rw [upd_ne (ne _ q.lt)]; exact I.freeC x c e
  · obtain ⟨h1, h2, h3⟩ := I.pin p hp
    refine ⟨h1, ?_, h3⟩
    rw [upd_ne (ne _ (Heap.lt_size (I0.pin p hp).1))]; exact h2
theorem Inv.turnedN {t' : Nat} {h' : Heap} {ch : List Addr} (I : Inv X pins σ H s) (hf : ∀ b ∈ ch, FpOk X pins H b) (k : ∀ b o, b ∉ ch → s.heap.get? b = some o → h'.get? b = some o) : Inv X pins σ H { s with heap := h', toks := t' } := by
  have nch : ∀ b u, H b = some u → b ∉ ch := fun b u e z => by rw [(hf b z).1] at e; cases e
  refine I.step (g' := s.gens) (d' := s.drawn) (ch := ch) (fun b hb => ⟨(hf b hb).2.2.2.1, (hf b hb).2.1, (hf b hb).2.2.2.2.1, (hf b hb).2.2.2.2.2⟩) (fun b o _ _ hc e _ => k b o hc e) (fun b o _ _ hc e _ => ⟨o.slots, k b o hc e⟩) (fun _ _ _ _ n => n)
    (fun b o hc e => ⟨o, k b o hc e⟩) (fun _ _ e => e) (fun _ _ _ e => e) (fun b ps e => ⟨#[], by rw [e]; simp⟩) (fun m hm => ?_) (fun b u e => ?_) I.bare
  · obtain ⟨o, es, ep, ho, r⟩ := hm
    exact ⟨o, es, ep, k _ o (fun z => (hf _ z).2.1 rfl) ho, r⟩
  · refine (I.hok b u e).stay (fun c v hc q => k c v ?_ q) (fun _ q => q) fun _ _ q => q
    rcases hc with z | z
    · rw [z]; exact nch b u e
    · exact nch c _ z
end
def Ite (K : PySem.W.Frag) (a : Addr) : It :=
  ⟨fun i H => ∃ xs x, SqL K H a xs ∧ xs[i]? = some x, fun i H x H' => ∃ p v, H p = none ∧ (∀ xs, SqL K H a xs → xs[i]? = some v) ∧ x = .ref p ∧ H' = upd H p (.tup [.int i, v]), fun i H => ∃ xs, SqL K H a xs ∧ xs.length = i⟩
theorem turn_enum {P : Program} {w : World} {K : PySem.W.Frag} {es : List Expr} {k : Nat} {tp : Pos} (a it e : Addr) (hae : a ≠ e) (hai : a ≠ it) (hei : e ≠ it) :
    Turn P w K (.Tuple es k tp) (Ite K a) [e, it] e (fun i h => (∃ old, IsEnum h e it i old) ∧ h.IsListIter it a i) where
  mem := by simp
  obj := fun i h st b hb => by
    rcases List.mem_cons.mp hb with rfl | hb
    · obtain ⟨⟨old, q⟩, _⟩ := st
      exact ⟨_, q, fun v z => by cases z⟩
    · have q : b = it := by simpa using hb
      subst q
      obtain ⟨_, o, q, c, d⟩ := st
      exact ⟨o, q, fun v z => by rw [d] at z; cases z⟩
  keep := fun i h h' st kk => ⟨let ⟨old, q⟩ := st.1; ⟨old, kk e (by simp) _ q⟩, st.2.at fun o q => kk it (by simp) o q⟩
  item := by
    intro X hP hw hK hc i pins s σ H E I hf st hg
    subst hP hw hK
    obtain ⟨xs, x, hq, hx⟩ := hg
    obtain ⟨its, rv, p, hz⟩ := I.list hq
    obtain ⟨u, hu, ru⟩ := rv.get hx
    obtain ⟨⟨old, he⟩, hit⟩ := st
    have hil : i < its.toArray.size := by
      have := (List.getElem?_eq_some_iff.mp hu).1
      simpa using this
    refine wpAny_pyNext_enum_itemD (Draws.list (show X.A.in1.handled = none from I.ok.hd hc) it a hai its.toArray) he ⟨hit, p.isList⟩ hil hei (by simp [hei, Ne.symm hae]) fun x' h' tk hP' ho st' hT hsz hk => ?_
    have ex : x' = u := by
      have q : its.toArray[i]? = some x' := hP'
      have q' : its[i]? = some x' := by simpa using q
      rw [hu] at q'
      exact (Option.some.inj q').symm
    subst ex
    refine ⟨_, rfl, wpAny_letOwnedTupleGo_enum ho fun h'' he'' hs'' => ?_⟩
    have I1 : Inv X pins σ H { s with heap := h'', toks := tk + 1 } := I.turnedN hf fun b o hb q => hs''.extBut b o (fun z => hb (by simp [z])) (hk b o (fun z => hb (by simp [z])) (fun z => hb (by simp [z])) q)
    have hTe : s.heap.objs.size ≠ e := Nat.ne_of_gt (Heap.lt_size he)
    have eT : h''.get? s.heap.objs.size = some { cls := .type "tuple", data := .seq #[.int i tk, x'] } := hs''.extBut _ _ hTe hT
    have nT : H s.heap.objs.size = none := I.hok.fresh (Nat.le_refl _)
    refine ⟨.ref s.heap.objs.size, upd H s.heap.objs.size (.tup [.int i, x]), I.track I1 (Nat.le_refl _) nT ⟨?_, [.int i tk, x'], .cons ⟨tk, rfl⟩ (.cons ru .nil), ⟨_, eT, rfl, _, rfl⟩⟩, rfl, ⟨_, x, nT, fun ys hy => by rw [I.list_inj hy hq]; exact hx, rfl, rfl⟩, ⟨⟨_, by simpa using he''⟩, ?_⟩, fun b hb => ?_⟩
    · show 2 ≤ sizeLine
      decide
    · obtain ⟨o, q, r⟩ := st'.1
      exact ⟨o, hs''.extBut _ _ (Ne.symm hei) q, r⟩
    · obtain ⟨o, q⟩ : ∃ o, s.heap.get? b = some o := by
        rcases List.mem_cons.mp hb with rfl | hb
        · exact ⟨_, he⟩
        · have q : b = it := by simpa using hb
          subst q
          obtain ⟨o, q, _⟩ := hit
          exact ⟨o, q⟩
      rw [upd_ne (Nat.ne_of_lt (Heap.lt_size q))]
      exact (hf b hb).1
  done := by
    intro X hP hw hK hc i pins s σ H E I hf st hg
    subst hP hw hK
    obtain ⟨xs, hq, hx⟩ := hg
    obtain ⟨its, rv, p, hz⟩ := I.list hq
    obtain ⟨⟨old, he⟩, hit⟩ := st
    have hl := rv.length
    have hi : i = its.toArray.size := by rw [List.size_toArray]; omega
    have hD := Draws.list (prog := X.prog) (w := X.w) (show X.A.in1.handled = none from I.ok.hd hc) it a hai its.toArray
    rw [hi] at hit
    exact wpAny_pyNext_enum_endD hD he ⟨hit, p.isList⟩ fun h' eb => ⟨rfl, I.turnedN hf fun b o hb q => eb b o (fun z => hb (by simp [z])) q⟩
  self := fun _ _ _ _ _ st h => let ⟨old, q⟩ := st.1; wpAny_pyIter_enum q h
section
variable {X : Cx}
def iEnum (K : PySem.W.Frag) (ta : TA) : TI := fun σ H R => ta σ H fun vs H1 => ∃ a, vs = [.ref a] ∧ (∃ xs, SqL K H1 a xs) ∧ R (Ite K a) H1
theorem pi_enum {es : List Expr} {k : Nat} {tp : Pos} {a : Expr} {ta : TA} {p pos : Pos} (hg : Gl X "enumerate") (hm : X.mg "enumerate" = none) (ha : PA X [a] ta) (hs : starEach [a] X.env = [(false, eval a X.env)] := by rfl) :
    PI X (.Tuple es k tp) (.Call (.Name "enumerate" p) [a] [] pos) (iEnum X.K ta) := by
  intro pins s σ H R I h
  refine Call_ (ld_blt I hg hm boot_enumerate (PyProof.Rows.callWith_type1 (thn (ha pos pins s σ H _ I h) fun us s1 ⟨vs, H1, I1, r1, q1⟩ => ?_) hs rfl))
  obtain ⟨l, e, ⟨xs, hq⟩, q⟩ := q1
  subst e
  obtain ⟨u, rfl, ru⟩ := vals1 r1
  cases ru
  obtain ⟨its, rv, pl, hz⟩ := I1.list hq
  have hlt : l < s1.heap.objs.size := by obtain ⟨_, e, _⟩ := pl.isList; exact Heap.lt_size e
  refine call_enumerate_list pl.isList fun h' he hit hsz hk => ?_
  refine wpAny_pyIter_enum he ?_
  have I2 : Inv X pins σ H1 { s1 with heap := h' } := I1.kept (t' := s1.toks) hk
  refine ⟨s1.heap.objs.size + 1, [s1.heap.objs.size + 1, s1.heap.objs.size], _, _, H1, rfl, I2, turn_enum l s1.heap.objs.size (s1.heap.objs.size + 1) (Nat.ne_of_lt (Nat.lt_succ_of_lt hlt)) (Nat.ne_of_lt hlt) (Nat.ne_of_gt (Nat.lt_succ_self _)), ⟨⟨_, he⟩, hit⟩, fun b hb => ?_, q⟩
  have hb' : s1.heap.objs.size ≤ b := by
    rcases List.mem_cons.mp hb with rfl | hb
    · exact Nat.le_succ _
    · have e : b = s1.heap.objs.size := by simpa using hb
      exact Nat.le_of_eq e.symm
  exact I1.fpOk hb' (I1.hok.fresh hb')
end
theorem for_enum {K : PySem.W.Frag} {a : Addr} {xs : List V} {g : TG} {tb : TS} {D : Ends} {σ : St} {H : Hp} (Pv : Nat → St → Hp → Prop) (h0 : Pv 0 σ H) (hl : ∀ i σ H, i ≤ xs.length → Pv i σ H → SqL K H a xs)
    (hs : ∀ i x σ H p, xs[i]? = some x → Pv i σ H → H p = none → g (.ref p) σ (upd H p (.tup [.int i, x])) fun σ2 H2 => tb { D with nx := Pv (i + 1), ct := Pv (i + 1), bk := D.nx } σ2 H2) (hd : ∀ σ H, Pv xs.length σ H → D.nx σ H) :
    ∃ W : Nat → Nat → St → Hp → Prop, (∃ m, W 0 m σ H) ∧ ∀ i m σ H, W i m σ H →
      ((Ite K a).stop i H ∧ D.nx σ H) ∨ ((Ite K a).go i H ∧ ∃ N : St → Hp → Prop, (∀ σ' H', N σ' H' → ∃ m', m' < m ∧ W (i + 1) m' σ' H') ∧ ∀ x H', (Ite K a).yld i H x H' → g x σ H' fun σ2 H2 => tb { D with nx := N, ct := N, bk := D.nx } σ2 H2) := by
  refine ⟨fun i m σ H => m = xs.length - i ∧ i ≤ xs.length ∧ Pv i σ H, ⟨xs.length, by simp, Nat.zero_le _, h0⟩, ?_⟩
  rintro i m σ H ⟨rfl, hi, p⟩
  have q := hl i σ H hi p
  by_cases hlt : i < xs.length
  · refine .inr ⟨⟨xs, xs[i], q, by simp [hlt]⟩, Pv (i + 1), fun σ' H' p' => ⟨xs.length - (i + 1), by omega, rfl, hlt, p'⟩, fun x H' y => ?_⟩
    obtain ⟨b, v, hb, hv, rfl, rfl⟩ := y
    exact hs i v σ H b (hv xs q) p hb
  · have e : i = xs.length := by omega
    subst e
    exact .inl ⟨⟨xs, q, rfl⟩, hd σ H p⟩
end L2
namespace L2
open PySem PySem.Spec PyProof.Rows
theorem relabel_kind {sc : Scope} {env : Env} {x : Str} {k : NameKind} (h : (relabel sc env).names.lookup x = some k) : ∃ y ∈ sc.names, y.2 = k ∨ y.2 = .free := by
  have hm := PySem.mem_of_lookup h
  obtain ⟨y, hy, e⟩ := List.mem_map.mp hm
  refine ⟨y, hy, ?_⟩
  obtain ⟨n, k0⟩ := y
  dsimp only at e
  split at e
  · rename_i hc
    rw [Bool.and_eq_true, Bool.and_eq_true] at hc
    exact .inr (beq_iff_eq.mp hc.1.1)
  · cases e
    exact .inl rfl
theorem caps0 {X : Cx} {sc : Scope} (h : ∀ y ∈ sc.names, y.2 ≠ .free ∧ y.2 ≠ .cell) : Caps X sc [] [] where
  clos := closureFor_none fun y hy => (h y hy).1
  sub := fun x c e => by cases e
  has := fun x e => by
    exfalso
    rcases e with e | e <;> obtain ⟨y, hy, z⟩ := relabel_kind e <;> rcases z with z | z
    · exact (h y hy).2 z
    · exact (h y hy).1 z
    · exact (h y hy).1 z
    · exact (h y hy).1 z
  cap := fun p hp => nomatch hp
theorem Same.up {H H' : Hp} {p : Addr} {o : HO} (e : Same H H') (h : H' p = none) : Same H (upd H' p o) := fun b u q => by
  rw [upd_ne (ne_of_none (e b u q) h)]
  exact e b u q
theorem Same.new {H : Hp} {p : Addr} {o : HO} (h : H p = none) : Same H (upd H p o) := (Same.refl H).up h
theorem Same.wr {H H' : Hp} {p : Addr} {o : HO} (e : Same H H') (h : H p = none) : Same H (upd H' p o) := fun b u q => by
  rw [upd_ne (ne_of_none q h)]
  exact e b u q
section
variable {X : Cx}
def rIxA (K : PySem.W.Frag) : R2 := fun x y H Q => ∃ p xs i, x = .ref p ∧ y = .int i ∧ SqL K H p xs ∧ 0 ≤ i ∧ i < (xs.length : Int) ∧ ∀ v ∈ xs, Q v H
theorem ix_any : IxR X (rIxA X.K) := by
  intro value slice pins s σ H x y v u Q I rx ry h hs
  obtain ⟨p, xs, i, ex, ey, hq, h0, h1, q⟩ := h
  obtain ⟨j, rfl⟩ := Int.eq_ofNat_of_zero_le h0
  have hj : j < xs.length := by omega
  exact ix_list value slice pins s σ H x y v u Q I rx ry ⟨p, xs, j, xs[j], ex, ey, hq, atI_nat (List.getElem?_eq_getElem hj), q _ (List.getElem_mem hj)⟩ hs
end
theorem atI_in {α : Type} (xs : List α) (i : Int) (h0 : 0 ≤ i) (h1 : i < (xs.length : Int)) : ∃ v, atI xs i = some v := by
  obtain ⟨j, rfl⟩ := Int.eq_ofNat_of_zero_le h0
  have hj : j < xs.length := by omega
  exact ⟨xs[j], atI_nat (List.getElem?_eq_getElem hj)⟩
theorem mod_lo (x : Int) {m : Int} (h : 0 < m) : 0 ≤ x % m := Int.emod_nonneg _ (by omega)
theorem mod_hi (x : Int) {m : Int} (h : 0 < m) : x % m < m := Int.emod_lt_of_pos _ h
theorem cm {x m : Int} (h0 : 0 < m) (h1 : m ≤ 2 ^ 64) : -(2 ^ 64) < x % m ∧ x % m < 2 ^ 64 := by
  have a := mod_lo x h0
  have b := mod_hi x h0
  omega
theorem size_app (x y : Str) : (x ++ y).cps.size = x.cps.size + y.cps.size := Array.size_append
theorem two_of {α : Type} : ∀ {xs : List α}, xs.length = 2 → ∃ x y, xs = [x, y]
  | [x, y], _ => ⟨x, y, rfl⟩
theorem one_of {α : Type} : ∀ {xs : List α}, xs.length = 1 → ∃ x, xs = [x]
  | [x], _ => ⟨x, rfl⟩
theorem five_of {α : Type} : ∀ {xs : List α}, xs.length = 5 → ∃ a b c d e, xs = [a, b, c, d, e]
  | [a, b, c, d, e], _ => ⟨a, b, c, d, e, rfl⟩
theorem one_str {z : Str} {c : Nat} (h : z.cps.toList = [c]) : z = ⟨#[c]⟩ := by
  obtain ⟨cps⟩ := z
  congr 1
  apply Array.ext'
  exact h
theorem not_two {α β : Type} {xs : List α} (h : xs.length ≠ 2) {f : α → α → β} {b : β} : (match (some xs : Option (List α)) with
    | some [x, y] => f x y
    | _ => b) = b := by
  match xs, h with
  | [], _ => rfl
  | [_], _ => rfl
  | [_, _], h => exact absurd rfl h
  | _ :: _ :: _ :: _, _ => rfl
section
variable {X : Cx} {es : List Expr} {t : TA} {pos : Pos}
def tTupA (t : TA) : TE := fun σ H Q => t σ H fun xs H1 => xs.length ≤ sizeLine ∧ ∀ p H', H1 p = none → Same H1 H' → H' p = some (.tup xs) → Q (.ref p) H'
def tLstA (t : TA) : TE := fun σ H Q => t σ H fun xs H1 => xs.length ≤ sizeLine ∧ ∀ p H', H1 p = none → Same H1 H' → H' p = some (.lst xs) → Q (.ref p) H'
def tDctA : TE := fun _ H Q => ∀ p H', H p = none → Same H H' → H' p = some (.dK []) → Q (.ref p) H'
theorem pe_tupA {x1} (h : PA X es t) : PE X (.Tuple es x1 pos) (tTupA t) := by
  intro pins s σ H Q I hq
  refine wpAny_Tuple_spliced (thn (h pos pins s σ H _ I hq) fun us s1 ⟨xs, H1, I1, r, z, q⟩ => ⟨by rw [← r.length]; exact z, ?_⟩)
  have hf : H1 s1.heap.objs.size = none := I1.hok.fresh (Nat.le_refl _)
  refine ⟨.ref s1.heap.objs.size, upd H1 s1.heap.objs.size (.tup xs), I1.laid (t' := s1.toks) (fun b u e => Heap.get?_push_of_some _ e) (Nat.le_refl _) ?_, rfl, q _ _ hf (Same.new hf) upd_same⟩
  exact ⟨z, us, r, ⟨_, Heap.get?_push_size _ rfl, rfl, _, rfl⟩⟩
theorem pe_lstA (h : PA X es t) : PE X (.List es pos) (tLstA t) := by
  intro pins s σ H Q I hq
  refine wpAny_List_spliced (thn (h pos pins s σ H _ I hq) fun us s1 ⟨xs, H1, I1, r, z, q⟩ => ⟨by rw [← r.length]; exact z, ?_⟩)
  have hf : H1 s1.heap.objs.size = none := I1.hok.fresh (Nat.le_refl _)
  refine ⟨.ref s1.heap.objs.size, upd H1 s1.heap.objs.size (.lst xs), I1.laid (t' := s1.toks) (fun b u e => Heap.get?_push_of_some _ e) (Nat.le_refl _) ?_, rfl, q _ _ hf (Same.new hf) upd_same⟩
  exact ⟨z, us, 0, r, Heap.get?_push_size _ rfl⟩
theorem pe_dctA : PE X (.Dict [] [] pos) tDctA := fun pins s σ H Q I h => pe_dnewK pins s σ H Q I fun p hp => h p _ hp (Same.new hp) upd_same
theorem OpR.imp {f : Value → Value → Sem Value} {r r' : R2} (h : OpR X f r) (i : ∀ x y H Q, r' x y H Q → r x y H Q) : OpR X f r' := fun pins s σ H x y v u Q I rx ry q => h pins s σ H x y v u Q I rx ry (i x y H Q q)
theorem SlR.imp {r r' : V → Option Int → Option Int → Hp → VK → Prop} (h : SlR X r) (i : ∀ x lo hi H Q, r' x lo hi H Q → r x lo hi H Q) : SlR X r' := fun pins s σ H x v vl vu lo hi sl Q I rx hs pl pu q => h pins s σ H x v vl vu lo hi sl Q I rx hs pl pu (i x lo hi H Q q)
def rCatA : R2 := fun x y H Q => ∃ l b xs zs, x = .ref l ∧ y = .ref b ∧ H l = some (.lst xs) ∧ H b = some (.lst zs) ∧ xs.length + zs.length ≤ sizeLine ∧ ∀ p H', H p = none → Same H H' → H' p = some (.lst (xs ++ zs)) → Q (.ref p) H'
theorem op_catA : OpR X (binaryOp .Add) rCatA := op_cat.imp fun _ _ _ _ ⟨l, b, xs, zs, h1, h2, h3, h4, h5, q⟩ => ⟨l, b, xs, zs, h1, h2, h3, h4, h5, fun p hp => q p _ hp (Same.new hp) upd_same⟩
def rSlLA (K : PySem.W.Frag) : V → Option Int → Option Int → Hp → VK → Prop := fun x lo hi H Q => ∃ a xs, x = .ref a ∧ SqL K H a xs ∧ ∀ p H', H p = none → Same H H' → H' p = some (.lst (cutV xs lo hi)) → Q (.ref p) H'
theorem sl_listA : SlR X (rSlLA X.K) := sl_list.imp fun _ _ _ _ _ ⟨a, xs, h1, h2, q⟩ => ⟨a, xs, h1, h2, fun p hp => q p _ hp (Same.new hp) upd_same⟩
end
end L2
namespace L2
open PySem PySem.Spec PyProof.Rows
def clo (env : Env) : List (Str × NameKind) → List (Str × Addr) → List (Str × Addr)
  | [], acc => acc
  | (n, k) :: r, acc => clo env r (if k == .free then (n, (env.cells.lookup n).getD 0) :: acc else acc)
theorem closure_clo {env : Env} {sc : Scope} (h : ∀ y ∈ sc.names, y.2 = .free → ∃ c, env.cells.lookup y.1 = some c) : closureFor sc env = pure (clo env sc.names []) := by
  have all : ∀ (names : List (Str × NameKind)) (acc : List (Str × Addr)), (∀ y ∈ names, y.2 = .free → ∃ c, env.cells.lookup y.1 = some c) →
      (forIn names acc fun x r => (match x with
        | (name, kind) => if (kind == NameKind.free) = true then do
            let a ← cellOf env name
            pure (ForInStep.yield ((name, a) :: r))
          else pure (ForInStep.yield r) : Sem (ForInStep (List (Str × Addr))))) = pure (clo env names acc) := by
    intro names
    induction names with
    | nil => intro acc _; rfl
    | cons x r ih =>
      intro acc hx
      obtain ⟨n, k⟩ := x
      rw [List.forIn_cons]
      cases hk : (k == NameKind.free) with
      | true =>
        obtain ⟨c, hc⟩ := hx (n, k) List.mem_cons_self (beq_iff_eq.mp hk)
        have e : cellOf env n = pure c := by unfold cellOf; rw [hc]
        dsimp only
        rw [if_pos hk, e]
        refine Eq.trans (by first | rfl | simp) ((ih ((n, c) :: acc) fun y hy => hx y (List.mem_cons_of_mem _ hy)).trans ?_)
        show _ = pure (clo env r (if (k == NameKind.free) = true then (n, (env.cells.lookup n).getD 0) :: acc else acc))
        rw [if_pos hk, show env.cells.lookup n = some c from hc]
        rfl
      | false =>
        dsimp only
        rw [if_neg (by rw [hk]; exact Bool.false_ne_true)]
        refine Eq.trans (by first | rfl | simp) ((ih acc fun y hy => hx y (List.mem_cons_of_mem _ hy)).trans ?_)
        show _ = pure (clo env r (if (k == NameKind.free) = true then (n, (env.cells.lookup n).getD 0) :: acc else acc))
        rw [if_neg (by rw [hk]; exact Bool.false_ne_true)]
  have e := all sc.names [] h
  show ((forIn sc.names [] fun x r => (match x with
        | (name, kind) => if (kind == NameKind.free) = true then do
            let a ← cellOf env name
            pure (ForInStep.yield ((name, a) :: r))
          else pure (ForInStep.yield r) : Sem (ForInStep (List (Str × Addr))))) >>= fun cs => pure cs) = _
  rw [e]
  rfl
theorem clo_sub {env : Env} : ∀ {names : List (Str × NameKind)} {acc : List (Str × Addr)}, (∀ y ∈ names, y.2 = .free → ∃ c, env.cells.lookup y.1 = some c) → (∀ x c, acc.lookup x = some c → env.cells.lookup x = some c) →
    ∀ x c, (clo env names acc).lookup x = some c → env.cells.lookup x = some c
  | [], _, _, h => h
  | (n, k) :: r, acc, hx, h => by
    refine clo_sub (names := r) (fun y hy => hx y (List.mem_cons_of_mem _ hy)) fun x c e => ?_
    cases hk : (k == NameKind.free) with
    | true =>
      rw [hk, if_pos rfl] at e
      obtain ⟨c', hc⟩ := hx (n, k) List.mem_cons_self (beq_iff_eq.mp hk)
      rw [List.lookup_cons] at e
      cases hxn : (x == n) with
      | true =>
        rw [hxn] at e
        have q := beq_iff_eq.mp hxn
        subst q
        have e' : (env.cells.lookup x).getD 0 = c := Option.some.inj e
        have hc' : env.cells.lookup x = some c' := hc
        rw [hc'] at e' ⊢
        exact congrArg some e'
      | false => rw [hxn] at e; exact h x c e
    | false => rw [hk, if_neg Bool.false_ne_true] at e; exact h x c e
theorem clo_has {env : Env} {x : Str} : ∀ {names : List (Str × NameKind)} {acc : List (Str × Addr)}, ((x, NameKind.free) ∈ names ∨ ∃ c, acc.lookup x = some c) → ∃ c, (clo env names acc).lookup x = some c
  | [], _, h => h.elim (fun z => nomatch z) id
  | (n, k) :: r, acc, h => by
    refine clo_has (names := r) ?_
    have put : ∀ c', ∃ c, ((n, c') :: acc).lookup x = some c ∨ (x ≠ n ∧ acc.lookup x = none) := fun c' => by
      rw [List.lookup_cons]
      cases hxn : (x == n) with
      | true => exact ⟨c', .inl rfl⟩
      | false =>
        cases ha : acc.lookup x with
        | some c => exact ⟨c, .inl rfl⟩
        | none => exact ⟨0, .inr ⟨fun z => by subst z; simp at hxn, rfl⟩⟩
    rcases h with h | ⟨c, h⟩
    · rcases List.mem_cons.mp h with q | q
      · cases q
        refine .inr ?_
        rw [if_pos (by rfl), List.lookup_cons]
        simp
      · exact .inl q
    · refine .inr ?_
      cases hk : (k == NameKind.free) with
      | true =>
        rw [if_pos (by rfl)]
        obtain ⟨c1, q | q⟩ := put ((env.cells.lookup n).getD 0)
        · exact ⟨c1, q⟩
        · rw [q.2] at h; cases h
      | false => rw [if_neg Bool.false_ne_true]; exact ⟨c, h⟩
theorem relabel_at {sc : Scope} {env : Env} {x : Str} {k : NameKind} (h : (relabel sc env).names.lookup x = some k) : ∃ y ∈ sc.names, y.1 = x ∧ (y.2 = k ∨ y.2 = .free) := by
  have hm := PySem.mem_of_lookup h
  obtain ⟨y, hy, e⟩ := List.mem_map.mp hm
  refine ⟨y, hy, ?_⟩
  obtain ⟨n, k0⟩ := y
  dsimp only at e
  split at e
  · rename_i hc
    rw [Bool.and_eq_true, Bool.and_eq_true] at hc
    cases e
    exact ⟨rfl, .inr (beq_iff_eq.mp hc.1.1)⟩
  · cases e
    exact ⟨rfl, .inl rfl⟩
theorem caps_of {X : Cx} {sc : Scope} {fr : List (Str × Nat)} (hX : ∀ x, X.env.kindOf x = some .cell → ∃ c, X.env.cells.lookup x = some c) (hcell : ∀ y ∈ sc.names, y.2 ≠ .cell)
    (hfree : ∀ y ∈ sc.names, y.2 = .free → X.env.kindOf y.1 = some .cell)
    (hcap : ∀ p ∈ fr, X.N[p.2]? = some p.1 ∧ X.env.kindOf p.1 = some .cell ∧ (relabel sc X.env).names.lookup p.1 = some .cell) : Caps X sc (clo X.env sc.names []) fr where
  clos := closure_clo fun y hy e => hX _ (hfree y hy e)
  sub := clo_sub (fun y hy e => hX _ (hfree y hy e)) fun x c e => by cases e
  has := fun x e => by
    refine clo_has (.inl ?_)
    rcases e with e | e <;> obtain ⟨y, hy, rfl, z⟩ := relabel_at e <;> rcases z with z | z
    · exact absurd z (hcell y hy)
    · rw [← z]; exact hy
    · rw [← z]; exact hy
    · rw [← z]; exact hy
  cap := fun p hp => by
    obtain ⟨h1, h2, h3⟩ := hcap p hp
    exact ⟨h1, by rw [h2]; decide, .inr (.inl h2), .inl h3⟩
theorem caps_def {X : Cx} {sc : Scope} {fr : List (Str × Nat)} (scX : Scope) (N : List Str) (h1 : X.env.scope = scX) (h2 : X.N = N) (hX : ∀ x, X.env.kindOf x = some .cell → ∃ c, X.env.cells.lookup x = some c)
    (hcell : ∀ y ∈ sc.names, y.2 ≠ .cell) (hfree : ∀ y ∈ sc.names, y.2 = .free → scX.names.lookup y.1 = some .cell)
    (hcap : ∀ p ∈ fr, N[p.2]? = some p.1 ∧ scX.names.lookup p.1 = some .cell ∧ (relabel sc { scope := scX, locals := 0, globals := 0, cells := [] }).names.lookup p.1 = some .cell) : Caps X sc (clo X.env sc.names []) fr := by
  refine caps_of hX hcell (fun y hy e => ?_) fun p hp => ?_
  · show X.env.scope.names.lookup y.1 = some .cell
    rw [h1]
    exact hfree y hy e
  · obtain ⟨a, b, c⟩ := hcap p hp
    refine ⟨by rw [h2]; exact a, ?_, ?_⟩
    · show X.env.scope.names.lookup p.1 = some .cell
      rw [h1]
      exact b
    · have e : relabel sc X.env = relabel sc { scope := scX, locals := 0, globals := 0, cells := [] } := by
        unfold relabel Env.kindOf
        rw [h1]
      rw [e]
      exact c
section
variable {X : Cx}
theorem CallR.imp {f : Value} {r r' : List V → Hp → VK → Prop} (h : CallR X f r) (i : ∀ xs H Q, r' xs H Q → r xs H Q) : CallR X f r' := fun pins s σ H xs us Q I rv q => h pins s σ H xs us Q I rv (i xs H Q q)
def rTupA (K : PySem.W.Frag) : List V → Hp → VK → Prop := fun xs H Q => ∃ p ys, xs = [.ref p] ∧ SqL K H p ys ∧ ∀ l H', H l = none → Same H H' → H' l = some (.tup ys) → Q (.ref l) H'
theorem call_tupA : CallR X (.type "tuple") (rTupA X.K) := call_tuple_of.imp fun _ _ _ ⟨p, ys, h1, h2, q⟩ => ⟨p, ys, h1, .inl ⟨h2, fun l hl => q l _ hl (Same.new hl) upd_same⟩⟩
def rLstA (K : PySem.W.Frag) : List V → Hp → VK → Prop := fun xs H Q => ∃ p ys, xs = [.ref p] ∧ (SqL K H p ys ∨ SqT K H p ys) ∧ ∀ l H', H l = none → Same H H' → H' l = some (.lst ys) → Q (.ref l) H'
theorem call_lstA : CallR X (.type "list") (rLstA X.K) := call_list_of.imp fun _ _ _ ⟨p, ys, h1, h2, q⟩ => ⟨p, ys, h1, h2, fun l hl => q l _ hl (Same.new hl) upd_same⟩
def rCatTA (K : PySem.W.Frag) : R2 := fun x y H Q => ∃ a b xs ys, x = .ref a ∧ y = .ref b ∧ SqT K H a xs ∧ SqT K H b ys ∧ xs ≠ [] ∧ ys ≠ [] ∧ xs.length + ys.length ≤ sizeLine ∧ ∀ l H', H l = none → Same H H' → H' l = some (.tup (xs ++ ys)) → Q (.ref l) H'
theorem op_catTA : OpR X (binaryOp .Add) (rCatTA X.K) := op_catT.imp fun _ _ _ _ ⟨a, b, xs, ys, h1, h2, h3, h4, h5, hne, h6, q⟩ => ⟨a, b, xs, ys, h1, h2, h3, h4, h5, h6, fun e => absurd e hne, fun _ p hp => q p _ hp (Same.new hp) upd_same⟩
def rRepA : R2 := fun x y H Q => ∃ l k xs, x = .ref l ∧ y = .int k ∧ H l = some (.lst xs) ∧ -(2 ^ 63) ≤ k ∧ k < 2 ^ 63 ∧ xs.length * k.toNat ≤ sizeLine ∧ ∀ p H', H p = none → Same H H' → H' p = some (.lst (List.replicate k.toNat xs).flatten) → Q (.ref p) H'
theorem op_repA : OpR X (binaryOp .Mult) rRepA := op_rep.imp fun _ _ _ _ ⟨l, k, xs, h1, h2, h3, h4, h5, h6, q⟩ => ⟨l, k, xs, h1, h2, h3, h4, h5, h6, fun p hp => q p _ hp (Same.new hp) upd_same⟩
end
end L2
namespace L2
open PySem PySem.Spec PyProof.Rows
theorem for_str {z : Str} {g : TG} {tb : TS} {D : Ends} {σ : St} {H : Hp} (Pv : Nat → St → Hp → Prop) (h0 : Pv 0 σ H)
    (hs : ∀ i c σ H, z.cps[i]? = some c → Pv i σ H → g (.str ⟨#[c]⟩) σ H fun σ2 H2 => tb { D with nx := Pv (i + 1), ct := Pv (i + 1), bk := D.nx } σ2 H2) (hd : ∀ σ H, Pv z.cps.size σ H → D.nx σ H) :
    ∃ W : Nat → Nat → St → Hp → Prop, (∃ m, W 0 m σ H) ∧ ∀ i m σ H, W i m σ H →
      ((Its z).stop i H ∧ D.nx σ H) ∨ ((Its z).go i H ∧ ∃ N : St → Hp → Prop, (∀ σ' H', N σ' H' → ∃ m', m' < m ∧ W (i + 1) m' σ' H') ∧ ∀ x H', (Its z).yld i H x H' → g x σ H' fun σ2 H2 => tb { D with nx := N, ct := N, bk := D.nx } σ2 H2) := by
  refine ⟨fun i m σ H => m = z.cps.size - i ∧ i ≤ z.cps.size ∧ Pv i σ H, ⟨z.cps.size, by simp, Nat.zero_le _, h0⟩, ?_⟩
  rintro i m σ H ⟨rfl, hi, p⟩
  by_cases hlt : i < z.cps.size
  · refine .inr ⟨hlt, Pv (i + 1), fun σ' H' p' => ⟨z.cps.size - (i + 1), by omega, rfl, hlt, p'⟩, fun x H' y => ?_⟩
    obtain ⟨rfl, c, hc, rfl⟩ := y
    exact hs i c σ _ hc p
  · have e : i = z.cps.size := by omega
    subst e
    exact .inl ⟨Nat.le_refl _, hd σ H p⟩
theorem lc_any {K : PySem.W.Frag} {a : Addr} {xs : List V} {own : List Str} {fr : List (Str × Nat)} {g : TG} {tt : TT} {te : TE} {σ : St} {H : Hp} {Q : VK} (hz : xs.length ≤ sizeLine) (Pv : Nat → List V → Hp → Prop) (h0 : Pv 0 [] H) (hl : ∀ i ys H, Pv i ys H → SqL K H a xs)
    (hs : ∀ i x ys H' (K1 : V → Hp → Prop) (K0 : Hp → Prop), xs[i]? = some x → Pv i ys H' → (∀ y H4, Pv (i + 1) (ys ++ [y]) H4 → K1 y H4) → (∀ H3, Pv (i + 1) ys H3 → K0 H3) →
      g x (compSt own fr σ) H' fun σ2 H2 => tt σ2 H2 fun b H3 => if b = true then te σ2 H3 K1 else K0 H3)
    (hd : ∀ H' p ys, Pv xs.length ys H' → ys.length ≤ xs.length → H' p = none → Q (.ref p) (upd H' p (.lst ys))) : LCb own fr g tt te σ Q (Itl K a) H := by
  refine ⟨fun i m ys H => m = xs.length - i ∧ i ≤ xs.length ∧ ys.length ≤ i ∧ Pv i ys H, ⟨xs.length, by simp, Nat.zero_le _, Nat.zero_le _, h0⟩, ?_⟩
  rintro i m ys H ⟨rfl, hi, hy, p⟩
  by_cases hlt : i < xs.length
  · refine .inr ⟨⟨xs, xs[i], hl _ _ H p, by simp [hlt]⟩, by omega, fun x H' y => ?_⟩
    obtain ⟨rfl, y⟩ := y
    have hc := y xs (hl _ _ _ p)
    refine hs i x ys H' _ _ hc p (fun y H4 p4 => ⟨xs.length - (i + 1), by omega, rfl, hlt, ?_, p4⟩) fun H3 p3 => ⟨xs.length - (i + 1), by omega, rfl, hlt, by omega, p3⟩
    rw [List.length_append, List.length_singleton]
    omega
  · have e : i = xs.length := by omega
    subst e
    exact .inl ⟨⟨xs, hl _ _ H p, Nat.le_refl _⟩, fun q hq => hd H q ys p hy hq⟩
theorem lc_range {lo : Int} {n : Nat} {own : List Str} {fr : List (Str × Nat)} {g : TG} {tt : TT} {te : TE} {σ : St} {H : Hp} {Q : VK} (hz : n ≤ sizeLine) (Pv : Nat → List V → Hp → Prop) (h0 : Pv 0 [] H)
    (hs : ∀ i ys H' (K1 : V → Hp → Prop) (K0 : Hp → Prop), i < n → Pv i ys H' → (∀ y H4, Pv (i + 1) (ys ++ [y]) H4 → K1 y H4) → (∀ H3, Pv (i + 1) ys H3 → K0 H3) →
      g (.int (lo + i)) (compSt own fr σ) H' fun σ2 H2 => tt σ2 H2 fun b H3 => if b = true then te σ2 H3 K1 else K0 H3)
    (hd : ∀ H' p ys, Pv n ys H' → ys.length ≤ n → H' p = none → Q (.ref p) (upd H' p (.lst ys))) : LCb own fr g tt te σ Q (Itr lo n) H := by
  refine ⟨fun i m ys H => m = n - i ∧ i ≤ n ∧ ys.length ≤ i ∧ Pv i ys H, ⟨n, by simp, Nat.zero_le _, Nat.zero_le _, h0⟩, ?_⟩
  rintro i m ys H ⟨rfl, hi, hy, p⟩
  by_cases hlt : i < n
  · refine .inr ⟨hlt, by omega, fun x H' y => ?_⟩
    obtain ⟨rfl, rfl⟩ := y
    refine hs i ys H' _ _ hlt p (fun y H4 p4 => ⟨n - (i + 1), by omega, rfl, hlt, ?_, p4⟩) fun H3 p3 => ⟨n - (i + 1), by omega, rfl, hlt, by omega, p3⟩
    rw [List.length_append, List.length_singleton]
    omega
  · have e : i = n := by omega
    subst e
    exact .inl ⟨Nat.le_refl _, fun q hq => hd H q ys p hy hq⟩
def eqTs (xs ys : List V) : Bool := (List.range (min xs.length ys.length)).all (fun j => eqV (xs.getD j .non) (ys.getD j .non)) && xs.length == ys.length
def cont (H : Hp) (a : Addr) : List V := match H a with
  | some (.tup xs) => xs
  | _ => []
theorem cont_of {H : Hp} {a : Addr} {xs : List V} (h : H a = some (.tup xs)) : cont H a = xs := by unfold cont; rw [h]
theorem eqV_refl : ∀ {x : V}, flatV x = true → eqV x x = true
  | .non, _ => rfl
  | .bl b, _ => by show (b == b) = true; simp
  | .int i, _ => by show (i == i) = true; simp
  | .str z, _ => by show (z == z) = true; simp
theorem flat_at {xs : List V} {j : Nat} (h : xs.all flatV = true) (hj : j < xs.length) : flatV (xs.getD j .non) = true := by
  rw [List.getD_eq_getElem?_getD, List.getElem?_eq_getElem hj]
  exact List.all_eq_true.mp h _ (List.getElem_mem hj)
theorem eqTs_refl {xs : List V} (h : xs.all flatV = true) : eqTs xs xs = true := by
  unfold eqTs
  rw [Bool.and_eq_true]
  refine ⟨List.all_eq_true.mpr fun j hj => eqV_refl (flat_at h ?_), by simp⟩
  have := List.mem_range.mp hj
  omega
section
variable {X : Cx} {pins : List (Addr × Obj)} {σ : St} {H : Hp} {s : Shared}
theorem eqAt_tup {A : Around} {a b : Addr} {xs ys : List V} (I : Inv X pins σ H s) (hu : A.units < cLine) (ha : H a = some (.tup xs)) (hb : H b = some (.tup ys)) (fx : xs.all flatV = true) (fy : ys.all flatV = true) :
    SeqAt.EqAt A s (.ref a) (.ref b) (eqTs xs ys) := by
  by_cases e : a = b
  · subst e
    rw [ha] at hb
    cases hb
    rw [eqTs_refl fx]
    exact SeqAt.EqAt.same _
  · obtain ⟨its, r, t, _⟩ := I.tuple (SqT.of ha)
    obtain ⟨its2, r2, t2, _⟩ := I.tuple (SqT.of hb)
    have e1 : xs.length = its.toArray.size := by rw [List.size_toArray]; exact r.length
    have e2 : ys.length = its2.toArray.size := by rw [List.size_toArray]; exact r2.length
    have key := SeqAt.EqAt.of_refs e (SeqAt.RcAt.tuples (e := fun j => eqV (xs.getD j .non) (ys.getD j .non)) (show s.heap.IsTuple a its.toArray from t) (show s.heap.IsTuple b its2.toArray from t2) hu fun j h1 h2 => by
      have j1 : j < xs.length := by omega
      have j2 : j < ys.length := by omega
      obtain ⟨u, hu1, ru⟩ := r.get (i := j) (x := xs.getD j .non) (by rw [List.getD_eq_getElem?_getD, List.getElem?_eq_getElem j1]; rfl)
      obtain ⟨u2, hu2, ru2⟩ := r2.get (i := j) (x := ys.getD j .non) (by rw [List.getD_eq_getElem?_getD, List.getElem?_eq_getElem j2]; rfl)
      have q1 : its.toArray[j] = u := by
        have := (List.getElem?_eq_some_iff.mp hu1).2
        simpa using this
      have q2 : its2.toArray[j] = u2 := by
        have := (List.getElem?_eq_some_iff.mp hu2).2
        simpa using this
      rw [q1, q2]
      exact eqAt_V ru ru2 (flat_at fx j1) (flat_at fy j2))
    unfold eqTs
    rw [e1, e2]
    exact key
def rInT (K : PySem.W.Frag) (neg : Bool) : R2 := fun x y H Q => ∃ a xs p, ∃ ps : List Addr, x = .ref a ∧ y = .ref p ∧ H a = some (.tup xs) ∧ xs.all flatV = true ∧ SqL K H p (ps.map V.ref) ∧ (∀ b ∈ ps, ∃ ys, H b = some (.tup ys) ∧ ys.all flatV = true) ∧
  Q (.bl (if neg then !(ps.any fun b => eqTs (cont H b) xs) else ps.any fun b => eqTs (cont H b) xs)) H
def eqR (H : Hp) (xs : List V) : Value → Bool
  | .ref b => eqTs (cont H b) xs
  | _ => false
theorem vals_refs {ps : List Addr} : ∀ {us : List Value}, Vals (ps.map V.ref) us → us = ps.map Value.ref := by
  induction ps with
  | nil => intro us r; cases r; rfl
  | cons p ps ih =>
    intro us r
    cases r with
    | cons r1 r2 => rw [show _ = Value.ref p from r1, ih r2]; rfl
theorem op_inT (hu : X.A.units + 1 < cLine) : OpR X (compareOp .In) (rInT X.K false) := by
  intro pins s σ H x y v u Q I rx ry h
  obtain ⟨a, xs, p, ps, rfl, rfl, ha, fx, hq, hps, q⟩ := h
  cases rx
  cases ry
  obtain ⟨its, r, pl, hz⟩ := I.list hq
  have e := vals_refs r
  refine SeqAt.in_listAt (eqR H xs) pl.isList (fun w hw => ?_) ⟨.bl _, H, I, rfl, ?_⟩
  · have hw : w ∈ ps.map Value.ref := by rw [← e]; simpa using hw
    obtain ⟨b, hb, rfl⟩ := List.mem_map.mp hw
    obtain ⟨ys, h1, h2⟩ := hps b hb
    have := eqAt_tup (A := X.A.in1) I (show X.A.in1.units < cLine from hu) h1 ha h2 fx
    show SeqAt.EqAt _ _ _ _ (eqTs (cont H b) xs)
    rw [cont_of h1]
    exact this
  · have q2 : its.toArray.any (eqR H xs) = ps.any fun b => eqTs (cont H b) xs := by
      rw [e]
      simp [List.any_map]
      rfl
    rw [q2]
    exact q
theorem op_notInT (hu : X.A.units + 1 < cLine) : OpR X (compareOp .NotIn) (rInT X.K true) := by
  intro pins s σ H x y v u Q I rx ry h
  obtain ⟨a, xs, p, ps, rfl, rfl, ha, fx, hq, hps, q⟩ := h
  cases rx
  cases ry
  obtain ⟨its, r, pl, hz⟩ := I.list hq
  have e := vals_refs r
  refine SeqAt.notIn_listAt (eqR H xs) pl.isList (fun w hw => ?_) ⟨.bl _, H, I, rfl, ?_⟩
  · have hw : w ∈ ps.map Value.ref := by rw [← e]; simpa using hw
    obtain ⟨b, hb, rfl⟩ := List.mem_map.mp hw
    obtain ⟨ys, h1, h2⟩ := hps b hb
    have := eqAt_tup (A := X.A.in1) I (show X.A.in1.units < cLine from hu) h1 ha h2 fx
    show SeqAt.EqAt _ _ _ _ (eqTs (cont H b) xs)
    rw [cont_of h1]
    exact this
  · have q2 : its.toArray.any (eqR H xs) = ps.any fun b => eqTs (cont H b) xs := by
      rw [e]
      simp [List.any_map]
      rfl
    rw [q2]
    exact q
end
theorem nodup_len {α : Type} [DecidableEq α] : ∀ {S ws : List α}, S.Nodup → (∀ x ∈ S, x ∈ ws) → S.length ≤ ws.length
  | [], _, _, _ => Nat.zero_le _
  | x :: S, ws, nd, h => by
    have hx := h x List.mem_cons_self
    have nd' := List.nodup_cons.mp nd
    have ih := nodup_len (S := S) (ws := ws.erase x) nd'.2 fun y hy => (List.mem_erase_of_ne (fun (e : y = x) => nd'.1 (by rw [← e]; exact hy))).mpr (h y (List.mem_cons_of_mem _ hy))
    have el := List.length_erase_of_mem hx
    have pos : 0 < ws.length := List.length_pos_of_mem hx
    show S.length + 1 ≤ ws.length
    omega
section
variable {X : Cx} {K : PySem.W.Frag}
theorem ix_anyK (h : X.K = K) : IxR X (rIxA K) := h ▸ ix_any
theorem ix_listK (h : X.K = K) : IxR X (rIxL K) := h ▸ ix_list
theorem ix_tupK (h : X.K = K) : IxR X (rIxT K) := h ▸ ix_tup
theorem sl_listAK (h : X.K = K) : SlR X (rSlLA K) := h ▸ sl_listA
theorem op_in_seqK (h : X.K = K) : OpR X (compareOp .In) (rIn K false) := h ▸ op_in_seq
theorem op_notIn_seqK (h : X.K = K) : OpR X (compareOp .NotIn) (rIn K true) := h ▸ op_notIn_seq
theorem op_inTK (h : X.K = K) (hu : X.A.units + 1 < cLine) : OpR X (compareOp .In) (rInT K false) := h ▸ op_inT hu
theorem op_notInTK (h : X.K = K) (hu : X.A.units + 1 < cLine) : OpR X (compareOp .NotIn) (rInT K true) := h ▸ op_notInT hu
def rLenS (K : PySem.W.Frag) : List V → Hp → VK → Prop := fun xs H Q => ∃ p ys, xs = [.ref p] ∧ (SqL K H p ys ∨ SqT K H p ys) ∧ Q (.int ys.length) H
theorem call_len_seqK (h : X.K = K) : CallR X (.builtin "len") (rLenS K) := h ▸ call_len_seq
def rIsi (K : PySem.W.Frag) : List V → Hp → VK → Prop := fun xs H Q => ∃ x T t b, xs = [x, .ty T] ∧ TyOf K H x t ∧ PySem.W.kitOne K t (.type T) = some b ∧ Q (.bl b) H
theorem call_isinstK (h : X.K = K) : CallR X (.builtin "isinstance") (rIsi K) := h ▸ call_isinst
end
def tDctTA : TE := fun _ H Q => ∀ p H', H p = none → Same H H' → H' p = some (.dT []) → Q (.ref p) H'
theorem pe_dctTA {X : Cx} {pos : Pos} : PE X (.Dict [] [] pos) tDctTA := fun pins s σ H Q I h => pe_dnewT pins s σ H Q I fun p hp => h p _ hp (Same.new hp) upd_same
theorem SqL.same {K : PySem.W.Frag} {H H' : Hp} {a : Addr} {xs : List V} (h : SqL K H a xs) (s : Same H H') : SqL K H' a xs := by
  rcases h with (h | ⟨o, h⟩) | h
  · exact .inl (.inl (s _ _ h))
  · exact .inl (.inr ⟨o, s _ _ h⟩)
  · exact .inr h
def rCatS (K : PySem.W.Frag) : R2 := fun x y H Q => ∃ l b xs zs, x = .ref l ∧ y = .ref b ∧ SqL K H l xs ∧ H b = some (.lst zs) ∧ xs.length + zs.length ≤ sizeLine ∧ ∀ p H', H p = none → Same H H' → H' p = some (.lst (xs ++ zs)) → Q (.ref p) H'
theorem op_catS {X : Cx} : OpR X (binaryOp .Add) (rCatS X.K) := by
  intro pins s σ H x y v u Q I rx ry h
  obtain ⟨l, b, xs, zs, rfl, rfl, hH, hB, hz, q⟩ := h
  cases rx
  cases ry
  obtain ⟨its, r, pl, z⟩ := I.list hH
  obtain ⟨⟨cls, dict, data, sl⟩, n, e, c1, c2, c3⟩ := pl
  dsimp only at c1 c2 c3
  subst c1 c2 c3
  obtain ⟨z2, its2, n2, r2, hl2, e2⟩ := I.lstM hB
  have hl := r.length
  refine concat_meets ⟨_, e, rfl⟩ ⟨_, e2, rfl⟩ noFill_list_add seq_list_add PySem.F.slot_list_add PySem.F.entry_list_add (PySem.F.args_list_add_2 _ _) (list_addW l b its.toArray its2.toArray n n2 none none sl #[] (by rw [List.size_toArray, List.size_toArray]; omega)) ⟨e, e2, ?_⟩
  have ea : its.toArray ++ its2.toArray = (its ++ its2).toArray := by simp
  rw [ea]
  exact ⟨.ref _, _, I.lnew (t' := s.toks) (r.append r2) (by rw [List.length_append]; omega), rfl, q _ _ I.fresh (Same.new I.fresh) upd_same⟩
end L2
namespace L2
open PySem PySem.Spec PyProof.Rows
section
variable {X : Cx}
theorem strs_of : ∀ {ys : List Str} {us : List Value}, Vals (ys.map V.str) us → StrsAre us ys
  | [], _, h => by cases h; exact .nil
  | y :: ys, _, h => by
    cases h with
    | cons r t =>
      obtain ⟨k, rfl⟩ := r
      exact .cons y k (strs_of t)
def rJoin (K : PySem.W.Frag) : V → List V → Hp → VK → Prop := fun x vs H Q => ∃ sep p ys, x = .str sep ∧ vs = [.ref p] ∧ SqL K H p (List.map V.str ys) ∧ (ys.map (·.length)).sum + ys.length * sep.length ≤ 16777216 ∧ Q (.str (Txt.join sep ys)) H
theorem mt_join : MtM X "str.join" (rJoin X.K) := by
  intro pins s σ H x vs v us Q I rx rv h
  obtain ⟨sep, p, ys, rfl, rfl, hq, hz, q⟩ := h
  obtain ⟨t, rfl⟩ := rx
  obtain ⟨u, rfl, ru⟩ := rv.one
  cases ru
  obtain ⟨its, r, pl, _⟩ := I.list hq
  exact join_list pl.isList (strs_of r) hz fun t' k => ⟨.str (Txt.join sep ys), H, I.tok _, ⟨_, rfl⟩, q⟩
def insV (xs : List V) (k : Nat) (y : V) : List V := xs.take k ++ y :: xs.drop k
def rInsert : V → List V → Hp → VK → Prop := fun x vs H Q => ∃ l xs i y, x = .ref l ∧ vs = [.int i, y] ∧ H l = some (.lst xs) ∧ 0 ≤ i ∧ i < 2 ^ 63 ∧ xs.length < sizeLine ∧ Q .non (upd H l (.lst (insV xs (min i.toNat xs.length) y)))
theorem mt_insert : MtM X "list.insert" rInsert := by
  intro pins s σ H x vs v us Q I rx rv h
  obtain ⟨l, xs, i, y, rfl, rfl, hH, h1, h2, hz, q⟩ := h
  cases rx
  obtain ⟨u, u2, rfl, ru, ru2⟩ := rv.two
  obtain ⟨t, rfl⟩ := ru
  obtain ⟨z, its, n, r, hl, e⟩ := I.lstM hH
  refine call_meets F.slot_list_insert ⟨_, e, rfl⟩ F.entry_list_insert (F.args_list_insert_3 _ _ _) (AutoSeq1.list_insert_list_int_val_1 l its.toArray n i t u2 (by rw [fitsIndex_both (by omega) h2]; decide) (by rw [List.size_toArray]; omega)) ⟨e, ?_⟩
  refine ⟨.non, _, I.lset (its' := its.take (min i.toNat its.length) ++ u2 :: its.drop (min i.toNat its.length)) hH e ?_ (ys := insV xs (min i.toNat xs.length) y) ?_ ?_, rfl, q⟩
  · have hi : ¬ i < 0 := by omega
    simp only [hi, if_false, List.size_toArray]
    simp
    exact List.take_of_length_le (by rw [List.length_drop]; exact Nat.le_refl _)
  · unfold insV
    rw [hl]
    exact (r.take _).append (.cons ru2 (r.drop _))
  · unfold insV
    rw [List.length_append, List.length_cons, List.length_take, List.length_drop]
    omega
end
mutual
inductive DV (K : PySem.W.Frag) (H : Hp) : V → PyData → Prop
  | non : DV K H .non .none
  | bl (b : Bool) : DV K H (.bl b) (.bool b)
  | int (i : Int) : DV K H (.int i) (.int i)
  | str (z : Str) : DV K H (.str z) (.str z)
  | lst {p : Addr} {xs : List V} {ds : List PyData} : SqL K H p xs → DVs K H xs ds → DV K H (.ref p) (.list ds)
  | tup {p : Addr} {xs : List V} {ds : List PyData} : SqT K H p xs → DVs K H xs ds → DV K H (.ref p) (.tuple ds)
inductive DVs (K : PySem.W.Frag) (H : Hp) : List V → List PyData → Prop
  | nil : DVs K H [] []
  | cons {x : V} {xs : List V} {d : PyData} {ds : List PyData} : DV K H x d → DVs K H xs ds → DVs K H (x :: xs) (d :: ds)
end
section
variable {X : Cx} {pins : List (Addr × Obj)} {σ : St} {H H' : Hp} {s : Shared} {K : PySem.W.Frag}
theorem SqT.same {a : Addr} {xs : List V} (h : SqT K H a xs) (s : Same H H') : SqT K H' a xs := by
  rcases h with (h | ⟨o, h⟩) | h
  · exact .inl (.inl (s _ _ h))
  · exact .inl (.inr ⟨o, s _ _ h⟩)
  · exact .inr h
mutual
theorem DV.same (e : Same H H') : ∀ {x : V} {d : PyData}, DV K H x d → DV K H' x d
  | _, _, .non => .non
  | _, _, .bl b => .bl b
  | _, _, .int i => .int i
  | _, _, .str z => .str z
  | _, _, .lst h t => .lst (h.same e) (DVs.same e t)
  | _, _, .tup h t => .tup (h.same e) (DVs.same e t)
theorem DVs.same (e : Same H H') : ∀ {xs : List V} {ds : List PyData}, DVs K H xs ds → DVs K H' xs ds
  | _, _, .nil => .nil
  | _, _, .cons h t => .cons (DV.same e h) (DVs.same e t)
end
mutual
theorem DV.reads (I : Inv X pins σ H s) : ∀ {x : V} {d : PyData} {v : Value}, DV X.K H x d → RelV x v → ∃ as, Reads s.heap v d as
  | _, _, _, .non, r => by cases r; exact ⟨_, .none⟩
  | _, _, _, .bl b, r => by cases r; exact ⟨_, .bool b⟩
  | _, _, _, .int i, r => by obtain ⟨t, rfl⟩ := r; exact ⟨_, .int i t⟩
  | _, _, _, .str z, r => by obtain ⟨t, rfl⟩ := r; exact ⟨_, .str z t⟩
  | _, _, _, .lst h t, r => by
    cases r
    obtain ⟨its, rv, ⟨o, n, e1, e2, _, e3⟩, _⟩ := I.list h
    obtain ⟨as, ra⟩ := DVs.reads I t rv
    exact ⟨_, .list e1 e2 e3 (by simpa using ra)⟩
  | _, _, _, .tup h t, r => by
    cases r
    obtain ⟨its, rv, ⟨o, e1, e2, n, e3⟩, _⟩ := I.tuple h
    obtain ⟨as, ra⟩ := DVs.reads I t rv
    exact ⟨_, .tuple e1 e2 e3 (by simpa using ra)⟩
theorem DVs.reads (I : Inv X pins σ H s) : ∀ {xs : List V} {ds : List PyData} {vs : List Value}, DVs X.K H xs ds → Vals xs vs → ∃ as, ReadsAll s.heap vs ds as
  | _, _, _, .nil, r => by cases r; exact ⟨_, .nil⟩
  | _, _, _, .cons h t, r => by
    cases r with
    | cons r1 r2 =>
      obtain ⟨as, a⟩ := DV.reads I h r1
      obtain ⟨bs, b⟩ := DVs.reads I t r2
      exact ⟨_, .cons a b⟩
end
def rEqD (K : PySem.W.Frag) (u : Nat) (neg : Bool) : R2 := fun x y H Q => ∃ dx dy, DV K H x dx ∧ DV K H y dy ∧ dx.canLay0 = true ∧ dy.canLay0 = true ∧ min dx.depth dy.depth ≤ u ∧ Q (.bl (if neg then !PyData.eqv dx dy else PyData.eqv dx dy)) H
theorem op_eqD {u : Nat} (hu : X.A.units + u < cLine) : OpR X (compareOp .Eq) (rEqD X.K u false) := by
  intro pins s σ H x y v w Q I rx ry h
  obtain ⟨dx, dy, hx, hy, cx, cy, hd, q⟩ := h
  obtain ⟨as, ra⟩ := hx.reads I rx
  obtain ⟨bs, rb⟩ := hy.reads I ry
  exact SeqAt.compareEq_reads ra rb cx cy (by omega) ⟨.bl _, H, I, rfl, q⟩
theorem op_neD {u : Nat} (hu : X.A.units + u < cLine) : OpR X (compareOp .NotEq) (rEqD X.K u true) := by
  intro pins s σ H x y v w Q I rx ry h
  obtain ⟨dx, dy, hx, hy, cx, cy, hd, q⟩ := h
  obtain ⟨as, ra⟩ := hx.reads I rx
  obtain ⟨bs, rb⟩ := hy.reads I ry
  exact SeqAt.compareNe_reads ra rb cx cy (by omega) ⟨.bl _, H, I, rfl, q⟩
theorem reads_get {h : Heap} : ∀ {vs : List Value} {ds : List PyData} {as : List Addr} {j : Nat} {v : Value}, ReadsAll h vs ds as → vs[j]? = some v → ∃ d bs, ds[j]? = some d ∧ Reads h v d bs
  | _, _, _, _, _, .nil, e => by cases e
  | _, _, _, 0, _, .cons r t, e => by cases e; exact ⟨_, _, rfl, r⟩
  | _, _, _, j + 1, _, .cons r t, e => by
    obtain ⟨d, bs, h1, h2⟩ := reads_get (j := j) t (by simpa using e)
    exact ⟨d, bs, by simpa using h1, h2⟩
theorem lay_get : ∀ {ds : List PyData} {j : Nat} {d : PyData}, PyData.canLayAll0 ds = true → ds[j]? = some d → d.canLay0 = true
  | [], _, _, _, e => by cases e
  | d :: ds, 0, _, h, e => by
    cases e
    have h' : (d.canLay0 && PyData.canLayAll0 ds) = true := h
    rw [Bool.and_eq_true] at h'
    exact h'.1
  | d :: ds, j + 1, d', h, e => by
    have h' : (d.canLay0 && PyData.canLayAll0 ds) = true := h
    rw [Bool.and_eq_true] at h'
    exact lay_get h'.2 (by simpa using e)
open Classical in
noncomputable def alike (vs : List Value) (ds : List PyData) (dx : PyData) (y : Value) : Bool := decide (∃ (j : Nat) (d : PyData), vs[j]? = some y ∧ ds[j]? = some d ∧ PyData.eqv d dx = true)
open Classical in
theorem alike_at {h : Heap} {vs : List Value} {ds : List PyData} {as : List Addr} {dx : PyData} (r : ReadsAll h vs ds as) (c : PyData.canLayAll0 ds = true) {j : Nat} {y : Value} {d : PyData} (e : vs[j]? = some y) (ed : ds[j]? = some d) : alike vs ds dx y = PyData.eqv d dx := by
  unfold alike
  cases q : PyData.eqv d dx with
  | true => exact decide_eq_true ⟨j, d, e, ed, q⟩
  | false =>
    refine decide_eq_false fun ⟨j', d', e', ed', q'⟩ => ?_
    obtain ⟨d1, b1, x1, r1⟩ := reads_get r e
    obtain ⟨d2, b2, x2, r2⟩ := reads_get r e'
    rw [ed] at x1; cases x1
    rw [ed'] at x2; cases x2
    have := SeqAt.Reads.unique _ _ _ _ _ (lay_get c ed) r1 r2
    rw [← this, q] at q'
    cases q'
theorem alike_any {h : Heap} {dx : PyData} {vs : List Value} {ds : List PyData} {as : List Addr} (r : ReadsAll h vs ds as) (c : PyData.canLayAll0 ds = true) : vs.any (alike vs ds dx) = ds.any fun d => PyData.eqv d dx := by
  have hl := SeqAt.ReadsAll.length _ _ _ r
  rw [Bool.eq_iff_iff, List.any_eq_true, List.any_eq_true]
  constructor
  · rintro ⟨y, hy, q⟩
    obtain ⟨j, hj, e⟩ := List.mem_iff_getElem.mp hy
    obtain ⟨d, _, ed, _⟩ := reads_get r (j := j) (by rw [List.getElem?_eq_getElem hj, e])
    rw [alike_at r c (by rw [List.getElem?_eq_getElem hj, e]) ed] at q
    exact ⟨d, List.mem_of_getElem? ed, q⟩
  · rintro ⟨d, hd, q⟩
    obtain ⟨j, hj, e⟩ := List.mem_iff_getElem.mp hd
    have hj' : j < vs.length := by omega
    refine ⟨vs[j], List.getElem_mem hj', ?_⟩
    rw [alike_at r c (List.getElem?_eq_getElem hj') (by rw [List.getElem?_eq_getElem hj, e])]
    exact q
def rInD (K : PySem.W.Frag) (u : Nat) (neg : Bool) : R2 := fun x y H Q => ∃ dx p ds xs, DV K H x dx ∧ y = .ref p ∧ (SqL K H p xs ∨ SqT K H p xs) ∧ DVs K H xs ds ∧ dx.canLay0 = true ∧ PyData.canLayAll0 ds = true ∧ dx.depth ≤ u ∧
  Q (.bl (if neg then !(ds.any fun d => PyData.eqv d dx) else ds.any fun d => PyData.eqv d dx)) H
theorem op_inD {u : Nat} (hu : X.A.units + 1 + u < cLine) : OpR X (compareOp .In) (rInD X.K u false) := by
  intro pins s σ H x y v w Q I rx ry h
  obtain ⟨dx, p, ds, xs, hx, rfl, hq, hs, cx, cs, hd, q⟩ := h
  cases ry
  obtain ⟨as, ra⟩ := hx.reads I rx
  have key : ∀ {its : List Value}, Vals xs its → (∀ y ∈ its, SeqAt.EqAt X.A.in1 s y v (alike its ds dx y)) ∧ its.any (alike its ds dx) = ds.any fun d => PyData.eqv d dx := fun {its} rv => by
    obtain ⟨bs, rb⟩ := hs.reads I rv
    refine ⟨fun y hy => ?_, alike_any rb cs⟩
    obtain ⟨j, hj, e⟩ := List.mem_iff_getElem.mp hy
    have ej : its[j]? = some y := by rw [List.getElem?_eq_getElem hj, e]
    obtain ⟨d, _, ed, rd⟩ := reads_get rb ej
    rw [alike_at rb cs ej ed]
    exact SeqAt.eqAt_reads d dx _ s y v _ _ rd ra (lay_get cs ed) cx (by show X.A.units + 1 + _ < cLine; omega)
  rcases hq with hq | hq
  · obtain ⟨its, r, pl, hz⟩ := I.list hq
    obtain ⟨k1, k2⟩ := key r
    refine SeqAt.in_listAt (alike its ds dx) pl.isList (fun w hw => k1 w (by simpa using hw)) ⟨.bl _, H, I, rfl, ?_⟩
    rw [List.any_toArray, k2]
    exact q
  · obtain ⟨its, r, pl, hz⟩ := I.tuple hq
    obtain ⟨k1, k2⟩ := key r
    refine SeqAt.in_tupleAt (alike its ds dx) pl (fun w hw => k1 w (by simpa using hw)) ⟨.bl _, H, I, rfl, ?_⟩
    rw [List.any_toArray, k2]
    exact q
theorem op_notInD {u : Nat} (hu : X.A.units + 1 + u < cLine) : OpR X (compareOp .NotIn) (rInD X.K u true) := by
  intro pins s σ H x y v w Q I rx ry h
  obtain ⟨dx, p, ds, xs, hx, rfl, hq, hs, cx, cs, hd, q⟩ := h
  cases ry
  obtain ⟨as, ra⟩ := hx.reads I rx
  have key : ∀ {its : List Value}, Vals xs its → (∀ y ∈ its, SeqAt.EqAt X.A.in1 s y v (alike its ds dx y)) ∧ its.any (alike its ds dx) = ds.any fun d => PyData.eqv d dx := fun {its} rv => by
    obtain ⟨bs, rb⟩ := hs.reads I rv
    refine ⟨fun y hy => ?_, alike_any rb cs⟩
    obtain ⟨j, hj, e⟩ := List.mem_iff_getElem.mp hy
    have ej : its[j]? = some y := by rw [List.getElem?_eq_getElem hj, e]
    obtain ⟨d, _, ed, rd⟩ := reads_get rb ej
    rw [alike_at rb cs ej ed]
    exact SeqAt.eqAt_reads d dx _ s y v _ _ rd ra (lay_get cs ed) cx (by show X.A.units + 1 + _ < cLine; omega)
  rcases hq with hq | hq
  · obtain ⟨its, r, pl, hz⟩ := I.list hq
    obtain ⟨k1, k2⟩ := key r
    refine SeqAt.notIn_listAt (alike its ds dx) pl.isList (fun w hw => k1 w (by simpa using hw)) ⟨.bl _, H, I, rfl, ?_⟩
    rw [List.any_toArray, k2]
    exact q
  · obtain ⟨its, r, pl, hz⟩ := I.tuple hq
    obtain ⟨k1, k2⟩ := key r
    refine SeqAt.notIn_tupleAt (alike its ds dx) pl (fun w hw => k1 w (by simpa using hw)) ⟨.bl _, H, I, rfl, ?_⟩
    rw [List.any_toArray, k2]
    exact q
def rIndexD (K : PySem.W.Frag) (u : Nat) : V → List V → Hp → VK → Prop := fun o vs H Q => ∃ x dx p ds xs, ∃ j : Nat, vs = [x] ∧ o = .ref p ∧ DV K H x dx ∧ SqL K H p xs ∧ DVs K H xs ds ∧ dx.canLay0 = true ∧ PyData.canLayAll0 ds = true ∧ dx.depth ≤ u ∧
  (∃ d, ds[j]? = some d ∧ PyData.eqv d dx = true) ∧ (∀ (m : Nat) d, m < j → ds[m]? = some d → PyData.eqv d dx = false) ∧ Q (.int (j : Int)) H
theorem mt_indexD {u : Nat} (hu : X.A.units + 3 + u < cLine) : MtM X "list.index" (rIndexD X.K u) := by
  intro pins s σ H o vs v us Q I ro rv h
  obtain ⟨x, dx, p, ds, xs, j, rfl, rfl, hx, hq, hs, cx, cs, hd, ⟨d, hj, ed⟩, hno, q⟩ := h
  cases ro
  obtain ⟨w, rfl, rw'⟩ := rv.one
  obtain ⟨as, ra⟩ := hx.reads I rw'
  obtain ⟨its, r, pl, hz⟩ := I.list hq
  obtain ⟨⟨cls, dict, data, sl⟩, n, e, c1, c2, c3⟩ := pl
  dsimp only at c1 c2 c3
  subst c1 c2 c3
  obtain ⟨bs, rb⟩ := hs.reads I r
  have hlen := SeqAt.ReadsAll.length _ _ _ rb
  have hj' : j < its.length := by
    have := (List.getElem?_eq_some_iff.mp hj).1
    omega
  have hl := r.length
  have hbig : sizeLine < 2 ^ 63 - 1 := by decide
  refine call_meets F.slot_list_index ⟨_, e, rfl⟩ F.entry_list_index (F.args_list_index_2 _ _) (SeqAt.list_indexAt p its.toArray n none sl w (alike its ds dx) j (by simpa using hj') (by omega) ?_ ?_) ⟨e, fun y hy => ?_, ?_⟩
  · rw [List.getElem_toArray, alike_at rb cs (List.getElem?_eq_getElem hj') hj]
    exact ed
  · intro m hm hmj
    have hm' : m < its.length := by simpa using hm
    obtain ⟨d', _, ed', _⟩ := reads_get rb (List.getElem?_eq_getElem hm')
    rw [List.getElem_toArray, alike_at rb cs (List.getElem?_eq_getElem hm') ed']
    exact hno m d' hmj ed'
  · have hy : y ∈ its := by simpa using hy
    obtain ⟨m, hm, em⟩ := List.mem_iff_getElem.mp hy
    have ej : its[m]? = some y := by rw [List.getElem?_eq_getElem hm, em]
    obtain ⟨d', _, ed', rd⟩ := reads_get rb ej
    rw [alike_at rb cs ej ed']
    exact SeqAt.eqAt_reads d' dx _ s y w _ _ rd ra (lay_get cs ed') cx (by show X.A.units + 1 + _ < cLine; omega)
  · exact ⟨.int j, H, I.tok _, ⟨_, rfl⟩, q⟩
def rCountD (K : PySem.W.Frag) (u : Nat) : V → List V → Hp → VK → Prop := fun o vs H Q => ∃ x dx p ds xs, vs = [x] ∧ o = .ref p ∧ DV K H x dx ∧ SqL K H p xs ∧ DVs K H xs ds ∧ dx.canLay0 = true ∧ PyData.canLayAll0 ds = true ∧ dx.depth ≤ u ∧
  Q (.int ((ds.countP fun d => PyData.eqv d dx : Nat) : Int)) H
theorem countP_alike {h : Heap} {dx : PyData} {vs : List Value} {ds : List PyData} {as : List Addr} (f : Value → Bool) (r : ReadsAll h vs ds as) : (∀ (j : Nat) y d, vs[j]? = some y → ds[j]? = some d → f y = PyData.eqv d dx) → vs.countP f = ds.countP fun d => PyData.eqv d dx := by
  intro hf
  induction vs generalizing ds as with
  | nil => cases r; rfl
  | cons v vs ih =>
    cases r with
    | cons r1 r2 =>
      rw [List.countP_cons, List.countP_cons, hf 0 _ _ rfl rfl, ih r2 fun j y d e1 e2 => hf (j + 1) y d (by simpa using e1) (by simpa using e2)]
theorem mt_countD {u : Nat} (hu : X.A.units + 3 + u < cLine) : MtM X "list.count" (rCountD X.K u) := by
  intro pins s σ H o vs v us Q I ro rv h
  obtain ⟨x, dx, p, ds, xs, rfl, rfl, hx, hq, hs, cx, cs, hd, q⟩ := h
  cases ro
  obtain ⟨w, rfl, rw'⟩ := rv.one
  obtain ⟨as, ra⟩ := hx.reads I rw'
  obtain ⟨its, r, pl, hz⟩ := I.list hq
  obtain ⟨⟨cls, dict, data, sl⟩, n, e, c1, c2, c3⟩ := pl
  dsimp only at c1 c2 c3
  subst c1 c2 c3
  obtain ⟨bs, rb⟩ := hs.reads I r
  refine call_meets F.slot_list_count ⟨_, e, rfl⟩ F.entry_list_count (F.args_list_count_2 _ _) (SeqAt.list_countAt p its.toArray n none sl w (alike its ds dx)) ⟨e, fun y hy => ?_, ?_⟩
  · have hy : y ∈ its := by simpa using hy
    obtain ⟨m, hm, em⟩ := List.mem_iff_getElem.mp hy
    have ej : its[m]? = some y := by rw [List.getElem?_eq_getElem hm, em]
    obtain ⟨d', _, ed', rd⟩ := reads_get rb ej
    rw [alike_at rb cs ej ed']
    exact SeqAt.eqAt_reads d' dx _ s y w _ _ rd ra (lay_get cs ed') cx (by show X.A.units + 1 + _ < cLine; omega)
  · refine ⟨.int _, H, I.tok _, ⟨_, rfl⟩, ?_⟩
    rw [List.toList_toArray, countP_alike (dx := dx) _ rb fun j y d e1 e2 => alike_at rb cs e1 e2]
    exact q
end
end L2
namespace L2
open PySem PySem.Spec PyProof.Rows
def Itz (K : PySem.W.Frag) (a b : Addr) : It :=
  ⟨fun i H => ∃ xs ys x y, SqL K H a xs ∧ SqL K H b ys ∧ xs[i]? = some x ∧ ys[i]? = some y,
    fun i H v H' => ∃ p x y, H p = none ∧ (∀ xs, SqL K H a xs → xs[i]? = some x) ∧ (∀ ys, SqL K H b ys → ys[i]? = some y) ∧ v = .ref p ∧ H' = upd H p (.tup [x, y]),
    fun i H => ∃ xs ys, SqL K H a xs ∧ SqL K H b ys ∧ (xs.length ≤ i ∨ ys.length ≤ i)⟩
theorem turn_zip {P : Program} {w : World} {K : PySem.W.Frag} {es : List Expr} {k : Nat} {tp : Pos} (z TI TO i1 i2 a b : Addr) (D : ZipApart z TI TO i1 i2 a b) :
    Turn P w K (.Tuple es k tp) (Itz K a b) [z, TI, TO, i1, i2] z (fun i h => IsZip h z TI TO .none ∧ IsPair h TI (.ref i1) (.ref i2) ∧ (∃ u v, IsPair h TO u v) ∧ h.IsListIter i1 a i ∧ h.IsListIter i2 b i) where
  mem := by simp
  obj := fun i h st c hc => by
    obtain ⟨h1, h2, ⟨u, v, h3⟩, ⟨o4, h4, _, d4⟩, ⟨o5, h5, _, d5⟩⟩ := st
    simp only [List.mem_cons, List.not_mem_nil, or_false] at hc
    rcases hc with rfl | rfl | rfl | rfl | rfl
    · exact ⟨_, h1, fun v z => by cases z⟩
    · exact ⟨_, h2, fun v z => by cases z⟩
    · exact ⟨_, h3, fun v z => by cases z⟩
    · exact ⟨_, h4, fun v z => by rw [d4] at z; cases z⟩
    · exact ⟨_, h5, fun v z => by rw [d5] at z; cases z⟩
  keep := fun i h h' st kk => by
    obtain ⟨h1, h2, ⟨u, v, h3⟩, h4, h5⟩ := st
    exact ⟨kk z (by simp) _ h1, kk TI (by simp) _ h2, ⟨u, v, kk TO (by simp) _ h3⟩, h4.at fun o q => kk i1 (by simp) o q, h5.at fun o q => kk i2 (by simp) o q⟩
  item := by
    intro X hP hw hK hc i pins s σ H E I hf st hg
    subst hP hw hK
    obtain ⟨xs, ys, x, y, hq1, hq2, hx, hy⟩ := hg
    obtain ⟨its1, r1, p1, z1⟩ := I.list hq1
    obtain ⟨its2, r2, p2, z2⟩ := I.list hq2
    obtain ⟨u1, hu1, ru1⟩ := r1.get hx
    obtain ⟨u2, hu2, ru2⟩ := r2.get hy
    obtain ⟨h1, h2, ⟨u, v, h3⟩, h4, h5⟩ := st
    refine wpAny_pyNext_zip_item D h1 h2 h3 h4 h5 p1.isList p2.isList (by simpa using hu1) (by simpa using hu2) fun h' a1 a2 a3 a4 a5 a6 a7 => ?_
    refine ⟨_, rfl, wpAny_letOwnedTupleGo_zip a1 fun h'' b1 bs => ?_⟩
    have I1 : Inv X pins σ H { s with heap := h'' } := I.turnedN (t' := s.toks) hf fun c o hc q => bs.extBut c o (fun e => hc (by simp [e])) (a7 c o (fun e => hc (by simp [e])) (fun e => hc (by simp [e])) (fun e => hc (by simp [e])) (fun e => hc (by simp [e])) q)
    have zlt : z < s.heap.objs.size := Heap.lt_size h1
    have eT : h''.get? s.heap.objs.size = some { cls := .type "tuple", data := .seq #[u1, u2] } := bs.extBut _ _ (Nat.ne_of_gt zlt) a5
    have nT : H s.heap.objs.size = none := I.hok.fresh (Nat.le_refl _)
    refine ⟨.ref s.heap.objs.size, upd H s.heap.objs.size (.tup [x, y]), I.track I1 (Nat.le_refl _) nT ⟨?_, [u1, u2], .cons ru1 (.cons ru2 .nil), ⟨_, eT, rfl, _, rfl⟩⟩, rfl, ⟨_, x, y, nT, fun l hl => by rw [I.list_inj hl hq1]; exact hx, fun l hl => by rw [I.list_inj hl hq2]; exact hy, rfl, rfl⟩, ⟨b1, ?_, ⟨u1, u2, ?_⟩, ?_, ?_⟩, fun c hc => ?_⟩
    · show 2 ≤ sizeLine
      decide
    · exact bs.extBut _ _ D.TIz (a7 _ _ D.TIz D.TITO D.TIi1 D.TIi2 h2)
    · exact bs.extBut _ _ D.TOz a2
    · exact a3.at fun o q => bs.extBut _ _ D.i1z q
    · exact a4.at fun o q => bs.extBut _ _ D.i2z q
    · obtain ⟨o, q⟩ : ∃ o, s.heap.get? c = some o := by
        simp only [List.mem_cons, List.not_mem_nil, or_false] at hc
        rcases hc with rfl | rfl | rfl | rfl | rfl
        · exact ⟨_, h1⟩
        · exact ⟨_, h2⟩
        · exact ⟨_, h3⟩
        · obtain ⟨o, q, _⟩ := h4; exact ⟨o, q⟩
        · obtain ⟨o, q, _⟩ := h5; exact ⟨o, q⟩
      rw [upd_ne (Nat.ne_of_lt (Heap.lt_size q))]
      exact (hf c hc).1
  done := by
    intro X hP hw hK hc i pins s σ H E I hf st hg
    subst hP hw hK
    obtain ⟨xs, ys, hq1, hq2, hl⟩ := hg
    obtain ⟨its1, r1, p1, z1⟩ := I.list hq1
    obtain ⟨its2, r2, p2, z2⟩ := I.list hq2
    obtain ⟨h1, h2, ⟨u, v, h3⟩, h4, h5⟩ := st
    have l1 := r1.length
    have l2 := r2.length
    refine wpAny_pyNext_zip_end (show X.A.handled = none from I.ok.hd hc) D h1 h2 h3 h4 h5 p1.isList p2.isList ?_ fun h' kk => ⟨rfl, I.turnedN (t' := s.toks) hf fun c o hc q => kk c o (fun e => hc (by simp [e])) (fun e => hc (by simp [e])) (fun e => hc (by simp [e])) (fun e => hc (by simp [e])) q⟩
    rcases hl with hl | hl
    · left
      simp
      omega
    · right
      simp
      omega
  self := fun _ _ _ _ _ st h => wpAny_pyIter_zip st.1 h
section
variable {X : Cx}
def iZip (K : PySem.W.Frag) (ta : TA) : TI := fun σ H R => ta σ H fun vs H1 => ∃ a b, vs = [.ref a, .ref b] ∧ (∃ xs, SqL K H1 a xs) ∧ (∃ ys, SqL K H1 b ys) ∧ R (Itz K a b) H1
theorem pi_zip {es : List Expr} {k : Nat} {tp : Pos} {a b : Expr} {ta : TA} {p pos : Pos} (hg : Gl X "zip") (hm : X.mg "zip" = none) (ha : PA X [a, b] ta) (hs : starEach [a, b] X.env = (false, eval a X.env) :: starEach [b] X.env := by rfl)
    (hpl : (backTo pos (starEach [b] X.env)).any (·.1) = false := by rfl) :
    PI X (.Tuple es k tp) (.Call (.Name "zip" p) [a, b] [] pos) (iZip X.K ta) := by
  intro pins s σ H R I h
  refine Call_ (ld_blt I hg hm boot_zip (PyProof.Rows.callWith_type1 (thn (ha pos pins s σ H _ I h) fun us s1 ⟨vs, H1, I1, r1, q1⟩ => ?_) hs hpl))
  obtain ⟨l1, l2, e, ⟨xs, hq1⟩, ⟨ys, hq2⟩, q⟩ := q1
  subst e
  obtain ⟨u1, u2, rfl, ru1, ru2⟩ := r1.two
  cases ru1
  cases ru2
  obtain ⟨its1, rv1, p1, _⟩ := I1.list hq1
  obtain ⟨its2, rv2, p2, _⟩ := I1.list hq2
  have lt1 : l1 < s1.heap.objs.size := by obtain ⟨_, e, _⟩ := p1.isList; exact Heap.lt_size e
  have lt2 : l2 < s1.heap.objs.size := by obtain ⟨_, e, _⟩ := p2.isList; exact Heap.lt_size e
  refine call_zip_2 p1.isList p2.isList fun h' a1 a2 a3 a4 a5 a6 a7 => ?_
  refine wpAny_pyIter_zip a1 ?_
  have I2 : Inv X pins σ H1 { s1 with heap := h' } := I1.kept (t' := s1.toks) a7
  refine ⟨_, [s1.heap.objs.size + 4, s1.heap.objs.size + 2, s1.heap.objs.size + 3, s1.heap.objs.size, s1.heap.objs.size + 1], _, _, H1, rfl, I2, turn_zip _ _ _ _ _ l1 l2 (zipApart_new lt1 lt2), ⟨a1, a2, ⟨_, _, a3⟩, a4, a5⟩, fun c hc => ?_, q⟩
  have hc' : s1.heap.objs.size ≤ c := by
    simp only [List.mem_cons, List.not_mem_nil, or_false] at hc
    rcases hc with rfl | rfl | rfl | rfl | rfl
    · exact Nat.le_add_right _ _
    · exact Nat.le_add_right _ _
    · exact Nat.le_add_right _ _
    · exact Nat.le_refl _
    · exact Nat.le_add_right _ _
  exact I1.fpOk hc' (I1.hok.fresh hc')
end
theorem lc_zip {K : PySem.W.Frag} {a b : Addr} {xs ys : List V} {own : List Str} {fr : List (Str × Nat)} {g : TG} {tt : TT} {te : TE} {σ : St} {H : Hp} {Q : VK} (hz : xs.length ≤ sizeLine) (Pv : Nat → List V → Hp → Prop) (h0 : Pv 0 [] H) (hl : ∀ i zs H, Pv i zs H → SqL K H a xs ∧ SqL K H b ys)
    (hs : ∀ i x y zs H' p (K1 : V → Hp → Prop) (K0 : Hp → Prop), xs[i]? = some x → ys[i]? = some y → Pv i zs H' → H' p = none → (∀ v H4, Pv (i + 1) (zs ++ [v]) H4 → K1 v H4) → (∀ H3, Pv (i + 1) zs H3 → K0 H3) →
      g (.ref p) (compSt own fr σ) (upd H' p (.tup [x, y])) fun σ2 H2 => tt σ2 H2 fun b H3 => if b = true then te σ2 H3 K1 else K0 H3)
    (hd : ∀ H' p zs, Pv (min xs.length ys.length) zs H' → zs.length ≤ xs.length → H' p = none → Q (.ref p) (upd H' p (.lst zs))) : LCb own fr g tt te σ Q (Itz K a b) H := by
  refine ⟨fun i m zs H => m = min xs.length ys.length - i ∧ i ≤ min xs.length ys.length ∧ zs.length ≤ i ∧ Pv i zs H, ⟨min xs.length ys.length, by simp, Nat.zero_le _, Nat.zero_le _, h0⟩, ?_⟩
  rintro i m zs H ⟨rfl, hi, hy, p⟩
  obtain ⟨q1, q2⟩ := hl _ _ H p
  by_cases hlt : i < min xs.length ys.length
  · have h1 : i < xs.length := by omega
    have h2 : i < ys.length := by omega
    refine .inr ⟨⟨xs, ys, xs[i], ys[i], q1, q2, by simp [h1], by simp [h2]⟩, by omega, fun v H' y => ?_⟩
    obtain ⟨r, x, z, hn, e1, e2, rfl, rfl⟩ := y
    refine hs i x z zs H r _ _ (e1 xs q1) (e2 ys q2) p hn (fun v H4 p4 => ⟨min xs.length ys.length - (i + 1), by omega, rfl, hlt, ?_, p4⟩) fun H3 p3 => ⟨min xs.length ys.length - (i + 1), by omega, rfl, hlt, by omega, p3⟩
    rw [List.length_append, List.length_singleton]
    omega
  · have e : i = min xs.length ys.length := by omega
    subst e
    exact .inl ⟨⟨xs, ys, q1, q2, by omega⟩, fun q hq => hd H q zs p (by omega) hq⟩
theorem lc_enum {K : PySem.W.Frag} {a : Addr} {xs : List V} {own : List Str} {fr : List (Str × Nat)} {g : TG} {tt : TT} {te : TE} {σ : St} {H : Hp} {Q : VK} (hz : xs.length ≤ sizeLine) (Pv : Nat → List V → Hp → Prop) (h0 : Pv 0 [] H) (hl : ∀ i zs H, Pv i zs H → SqL K H a xs)
    (hs : ∀ i x zs H' p (K1 : V → Hp → Prop) (K0 : Hp → Prop), xs[i]? = some x → Pv i zs H' → H' p = none → (∀ v H4, Pv (i + 1) (zs ++ [v]) H4 → K1 v H4) → (∀ H3, Pv (i + 1) zs H3 → K0 H3) →
      g (.ref p) (compSt own fr σ) (upd H' p (.tup [.int i, x])) fun σ2 H2 => tt σ2 H2 fun b H3 => if b = true then te σ2 H3 K1 else K0 H3)
    (hd : ∀ H' p zs, Pv xs.length zs H' → zs.length ≤ xs.length → H' p = none → Q (.ref p) (upd H' p (.lst zs))) : LCb own fr g tt te σ Q (Ite K a) H := by
  refine ⟨fun i m zs H => m = xs.length - i ∧ i ≤ xs.length ∧ zs.length ≤ i ∧ Pv i zs H, ⟨xs.length, by simp, Nat.zero_le _, Nat.zero_le _, h0⟩, ?_⟩
  rintro i m zs H ⟨rfl, hi, hy, p⟩
  have q1 := hl _ _ H p
  by_cases hlt : i < xs.length
  · refine .inr ⟨⟨xs, xs[i], q1, by simp [hlt]⟩, by omega, fun v H' y => ?_⟩
    obtain ⟨r, x, hn, e1, rfl, rfl⟩ := y
    refine hs i x zs H r _ _ (e1 xs q1) p hn (fun v H4 p4 => ⟨xs.length - (i + 1), by omega, rfl, hlt, ?_, p4⟩) fun H3 p3 => ⟨xs.length - (i + 1), by omega, rfl, hlt, by omega, p3⟩
    rw [List.length_append, List.length_singleton]
    omega
  · have e : i = xs.length := by omega
    subst e
    exact .inl ⟨⟨xs, q1, rfl⟩, fun q hq => hd H q zs p hy hq⟩
theorem for_zip {K : PySem.W.Frag} {a b : Addr} {xs ys : List V} {g : TG} {tb : TS} {D : Ends} {σ : St} {H : Hp} (Pv : Nat → St → Hp → Prop) (h0 : Pv 0 σ H) (hl : ∀ i σ H, Pv i σ H → SqL K H a xs ∧ SqL K H b ys)
    (hs : ∀ i x y σ H p, xs[i]? = some x → ys[i]? = some y → Pv i σ H → H p = none → g (.ref p) σ (upd H p (.tup [x, y])) fun σ2 H2 => tb { D with nx := Pv (i + 1), ct := Pv (i + 1), bk := D.nx } σ2 H2) (hd : ∀ σ H, Pv (min xs.length ys.length) σ H → D.nx σ H) :
    ∃ W : Nat → Nat → St → Hp → Prop, (∃ m, W 0 m σ H) ∧ ∀ i m σ H, W i m σ H →
      ((Itz K a b).stop i H ∧ D.nx σ H) ∨ ((Itz K a b).go i H ∧ ∃ N : St → Hp → Prop, (∀ σ' H', N σ' H' → ∃ m', m' < m ∧ W (i + 1) m' σ' H') ∧ ∀ x H', (Itz K a b).yld i H x H' → g x σ H' fun σ2 H2 => tb { D with nx := N, ct := N, bk := D.nx } σ2 H2) := by
  refine ⟨fun i m σ H => m = min xs.length ys.length - i ∧ i ≤ min xs.length ys.length ∧ Pv i σ H, ⟨min xs.length ys.length, by simp, Nat.zero_le _, h0⟩, ?_⟩
  rintro i m σ H ⟨rfl, hi, p⟩
  obtain ⟨q1, q2⟩ := hl _ _ H p
  by_cases hlt : i < min xs.length ys.length
  · have h1 : i < xs.length := by omega
    have h2 : i < ys.length := by omega
    refine .inr ⟨⟨xs, ys, xs[i], ys[i], q1, q2, by simp [h1], by simp [h2]⟩, Pv (i + 1), fun σ' H' p' => ⟨min xs.length ys.length - (i + 1), by omega, rfl, hlt, p'⟩, fun v H' y => ?_⟩
    obtain ⟨r, x, z, hn, e1, e2, rfl, rfl⟩ := y
    exact hs i x z σ H r (e1 xs q1) (e2 ys q2) p hn
  · have e : i = min xs.length ys.length := by omega
    subst e
    exact .inl ⟨⟨xs, ys, q1, q2, by omega⟩, hd σ H p⟩
section
variable {X : Cx} {K : PySem.W.Frag} {u : Nat}
theorem op_eqDK (h : X.K = K) (hu : X.A.units + u < cLine) : OpR X (compareOp .Eq) (rEqD K u false) := h ▸ op_eqD hu
theorem op_neDK (h : X.K = K) (hu : X.A.units + u < cLine) : OpR X (compareOp .NotEq) (rEqD K u true) := h ▸ op_neD hu
theorem op_inDK (h : X.K = K) (hu : X.A.units + 1 + u < cLine) : OpR X (compareOp .In) (rInD K u false) := h ▸ op_inD hu
theorem op_notInDK (h : X.K = K) (hu : X.A.units + 1 + u < cLine) : OpR X (compareOp .NotIn) (rInD K u true) := h ▸ op_notInD hu
theorem mt_joinK (h : X.K = K) : MtM X "str.join" (rJoin K) := h ▸ mt_join
theorem mt_indexDK (h : X.K = K) (hu : X.A.units + 3 + u < cLine) : MtM X "list.index" (rIndexD K u) := h ▸ mt_indexD hu
theorem mt_countDK (h : X.K = K) (hu : X.A.units + 3 + u < cLine) : MtM X "list.count" (rCountD K u) := h ▸ mt_countD hu
end
theorem hu64 {A : Around} {k : Nat} (hr : Room k A) : A.units + 64 < cLine := hr.units
theorem hu63 {A : Around} {k : Nat} (hr : Room k A) : A.units + 1 + 63 < cLine := by have := hr.units; omega
theorem hu61 {A : Around} {k : Nat} (hr : Room k A) : A.units + 3 + 61 < cLine := by have := hr.units; omega
def cutS (z : Str) (lo hi : Option Int) : Str := ⟨((z.cps.toList.drop (HT.sIx z.length 0 lo)).take (HT.sIx z.length z.length hi - HT.sIx z.length 0 lo)).toArray⟩
theorem clip_cut (i : Int) (n : Nat) : max 0 (min (if i < 0 then i + (n : Int) else i) (n : Int)) = ((if i < 0 then (i + (n : Int)).toNat else min i.toNat n : Nat) : Int) := by
  by_cases h : i < 0
  · rw [if_pos h, if_pos h]; omega
  · rw [if_neg h, if_neg h]; omega
theorem idx_cut (lo hi : Option Int) (n : Nat) : Builtin.Str.strSliceIndices lo hi 1 n = (List.range (HT.sIx n n hi - HT.sIx n 0 lo)).map (HT.sIx n 0 lo + ·) := by
  rw [← sliceRange_one]
  unfold Builtin.Str.strSliceIndices
  cases lo with
  | none => cases hi with
    | none => rfl
    | some j =>
      show sliceRange 0 (max 0 (min (if j < 0 then j + (n : Int) else j) (n : Int))) 1 = _
      rw [clip_cut]
      rfl
  | some i => cases hi with
    | none =>
      show sliceRange (max 0 (min (if i < 0 then i + (n : Int) else i) (n : Int))) n 1 = _
      rw [clip_cut]
      rfl
    | some j =>
      show sliceRange (max 0 (min (if i < 0 then i + (n : Int) else i) (n : Int))) (max 0 (min (if j < 0 then j + (n : Int) else j) (n : Int))) 1 = _
      rw [clip_cut, clip_cut]
      rfl
section
variable {X : Cx}
def rSlX : V → Option Int → Option Int → Hp → VK → Prop := fun x lo hi H Q => ∃ z, x = .str z ∧ z.length ≤ sizeLine ∧ Q (.str (cutS z lo hi)) H
theorem picked_cut (z : Str) (l u : Option (Int × Tok)) : ((slicePicked z l u none).filterMap (z.cps[·]?)) = (cutS z (l.map (·.1)) (u.map (·.1))).cps.toList := by
  unfold slicePicked cutS
  rw [show ((none : Option (Int × Tok)).map (·.1)).getD 1 = (1 : Int) from rfl, idx_cut, pick_run]
theorem sl_strX : SlR X rSlX := by
  intro pins s σ H x v vl vu lo hi sl Q I rx hs pl pu h
  obtain ⟨z, rfl, hz, q⟩ := h
  obtain ⟨t, rfl⟩ := rx
  refine ⟨"str", _, F.slot_str_getitem.lookup, typeIs_str _ z t, ?_⟩
  have key : ∀ l u : Option (Int × Tok), l.map (·.1) = lo → u.map (·.1) = hi → s.heap.IsSlice sl l u none → wpAny (model X.prog X.w) X.A (getItem (.str z t) (.ref sl)) (EP X pins σ Q) X.xe s := fun l u e1 e2 hsl => by
    refine wpAny_getItem_str_slice (st := none) hsl rfl ?_
    have pc := picked_cut z l u
    rw [e1, e2] at pc
    unfold sliceMade
    split
    · rename_i hall
      have hl : (slicePicked z l u none).length = z.length := by
        rw [Bool.and_eq_true] at hall
        exact beq_iff_eq.mp hall.2
      have e : cutS z lo hi = z := by
        have h1 : (slicePicked z l u none).length = HT.sIx z.length z.length hi - HT.sIx z.length 0 lo := by
          unfold slicePicked
          rw [show ((none : Option (Int × Tok)).map (·.1)).getD 1 = (1 : Int) from rfl, idx_cut, e1, e2, List.length_map, List.length_range]
        have b1 : HT.sIx z.length z.length hi ≤ z.length := by unfold HT.sIx; split <;> (try split) <;> omega
        have h2 : HT.sIx z.length 0 lo = 0 ∨ z.length = 0 := by omega
        unfold cutS
        rcases h2 with h2 | h2
        · rw [h2]
          rw [h2] at h1
          rw [show HT.sIx z.length z.length hi - 0 = z.cps.toList.length from by
            have : z.cps.toList.length = z.length := by simp; rfl
            omega, List.drop_zero, List.take_length]
        · have : z.cps.toList = [] := by
            have : z.cps.size = 0 := h2
            simpa using this
          rw [this]
          obtain ⟨c⟩ := z
          simp at this
          simp [this]
      exact ⟨.str z, H, I, ⟨t, rfl⟩, e ▸ q⟩
    · have e : (⟨((slicePicked z l u none).filterMap (z.cps[·]?)).toArray⟩ : Str) = cutS z lo hi := by
        rw [pc]
      have hle : (cutS z lo hi).length ≤ z.length := by
        unfold cutS
        show (List.toArray _).size ≤ z.length
        rw [List.size_toArray, List.length_take, List.length_drop]
        show _ ≤ z.cps.size
        have : z.cps.toList.length = z.cps.size := by simp
        omega
      rw [e]
      exact ⟨Nat.le_trans hle hz, .str _, H, I.tok _, ⟨_, rfl⟩, q⟩
  cases pl <;> cases pu
  · exact key none none rfl rfl hs
  · exact key none (some (_, _)) rfl rfl hs
  · exact key (some (_, _)) none rfl rfl hs
  · exact key (some (_, _)) (some (_, _)) rfl rfl hs
end
end L2
namespace L2
open PySem PySem.Spec PyProof.Rows
theorem take_sum_bound (B : Nat) : ∀ (ns : List Int), (∀ n ∈ ns, 0 ≤ n ∧ n ≤ (B : Int)) → ∀ j, 0 ≤ (ns.take j).sum ∧ (ns.take j).sum ≤ (ns.length * B : Nat)
  | [], _, j => by simp
  | n :: ns, h, 0 => by
    simp
    exact Int.mul_nonneg (by omega) (by omega)
  | n :: ns, h, j + 1 => by
    have ih := take_sum_bound B ns (fun m hm => h m (List.mem_cons_of_mem _ hm)) j
    have hn := h n List.mem_cons_self
    rw [List.take_succ_cons, List.sum_cons, List.length_cons, Nat.succ_mul]
    omega
section
variable {X : Cx}
def rSum (K : PySem.W.Frag) (B : Nat) : List V → Hp → VK → Prop := fun xs H Q => ∃ a ns, xs = [.ref a] ∧ (SqL K H a (List.map V.int ns) ∨ SqT K H a (List.map V.int ns)) ∧ (∀ n ∈ ns, 0 ≤ n ∧ n ≤ (B : Int)) ∧ ns.length * B < 2 ^ 62 ∧ Q (.int ns.sum) H
theorem sum_fits {B : Nat} {ns : List Int} (h : ∀ n ∈ ns, 0 ≤ n ∧ n ≤ (B : Int)) (hb : ns.length * B < 2 ^ 62) : ∀ j, j < ns.length → InLong (ns.getD j 0) ∧ InLong (preSum (fun i => ns.getD i 0) (j + 1)) := fun j hj => by
  have h1 := take_sum_bound B ns h (j + 1)
  have h2 := h ns[j] (List.getElem_mem hj)
  have h3 : B ≤ ns.length * B := Nat.le_mul_of_pos_left B (by omega)
  rw [preSum_getD]
  have e : ns.getD j 0 = ns[j] := by rw [List.getD_eq_getElem?_getD, List.getElem?_eq_getElem hj]; rfl
  rw [e]
  unfold InLong
  omega
theorem call_sumI (B : Nat) (hc : X.calm = true) : CallR X (.builtin "sum") (rSum X.K B) := by
  intro pins s σ H xs us Q I r h
  obtain ⟨a, ns, rfl, hq, hb, hl, q⟩ := h
  obtain ⟨u, rfl, ru⟩ := vals1 r
  cases ru
  have item : ∀ {its : List Value}, Vals (List.map V.int ns) its → ∀ (i : Nat) (v : Value), its.toArray[i]? = some v → ∃ t, v = Value.int (ns.getD i 0) t := fun {its} rv i v hP => by
    have hi : its[i]? = some v := by simpa using hP
    have hb : i < ns.length := by
      have h1 := (List.getElem?_eq_some_iff.mp hi).1
      have h2 := rv.length
      rw [List.length_map] at h2
      omega
    obtain ⟨u, hu, ru⟩ := rv.get (i := i) (x := V.int ns[i]) (by rw [List.getElem?_map, List.getElem?_eq_getElem hb]; rfl)
    rw [hi] at hu
    cases hu
    obtain ⟨t, rfl⟩ := ru
    exact ⟨t, by rw [List.getD_eq_getElem?_getD, List.getElem?_eq_getElem hb]; rfl⟩
  have last : preSum (fun i => ns.getD i 0) ns.length = ns.sum := by rw [preSum_getD, List.take_length]
  have stay : ∀ {h' : Heap} {o0 : Obj}, (∀ b o, b ∉ [s.heap.objs.size] → (s.heap.push o0).get? b = some o → h'.get? b = some o) → ∀ b o, s.heap.get? b = some o → h'.get? b = some o := fun hk b o e => hk b o (fun z => by
      have := Heap.lt_size e
      rw [List.mem_singleton.mp z] at this
      exact absurd this (Nat.lt_irrefl _)) (Heap.get?_push_of_some _ e)
  rcases hq with hq | hq
  · obtain ⟨its, rv, p, hz⟩ := I.list hq
    have hlen : its.toArray.size = ns.length := by rw [List.size_toArray, ← rv.length, List.length_map]
    have hlt : a < s.heap.objs.size := by obtain ⟨_, e, _⟩ := p.isList; exact Heap.lt_size e
    refine call_sum_walk (wpAny_pyIter_list p.isList ?_)
    refine ⟨s.heap.objs.size, _, _, _, _, _, fun i => ns.getD i 0, rfl, Walks.list (show X.A.in1.handled = none from I.ok.hd hc) s.heap.objs.size a (Nat.ne_of_lt hlt) its.toArray, ⟨⟨_, Heap.get?_push_size _ rfl, rfl, rfl⟩, p.isList.push _⟩, fun b hb' => ?_, fun i v hP => item rv i v hP, fun j hj => sum_fits hb hl j (by rw [← hlen]; exact hj), fun h' tk t' hk => ?_⟩
    · show b < (s.heap.push _).objs.size
      rw [Heap.size_push]
      simp only [List.mem_cons, List.not_mem_nil, or_false] at hb'
      rcases hb' with rfl | rfl
      · exact Nat.lt_succ_self _
      · exact Nat.lt_succ_of_lt hlt
    · rw [hlen, last]
      exact ⟨.int ns.sum, H, I.kept (stay hk), ⟨_, rfl⟩, q⟩
  · obtain ⟨its, rv, p, hz⟩ := I.tuple hq
    have hlen : its.toArray.size = ns.length := by rw [List.size_toArray, ← rv.length, List.length_map]
    have hlt : a < s.heap.objs.size := by obtain ⟨_, e, _⟩ := p; exact Heap.lt_size e
    refine call_sum_walk (wpAny_pyIter_tuple p ?_)
    refine ⟨s.heap.objs.size, _, _, _, _, _, fun i => ns.getD i 0, rfl, Walks.tuple (show X.A.in1.handled = none from I.ok.hd hc) s.heap.objs.size a (Nat.ne_of_lt hlt) its.toArray, ⟨⟨_, Heap.get?_push_size _ rfl, rfl, rfl⟩, Heap.IsTuple.push p _⟩, fun b hb' => ?_, fun i v hP => item rv i v hP, fun j hj => sum_fits hb hl j (by rw [← hlen]; exact hj), fun h' tk t' hk => ?_⟩
    · show b < (s.heap.push _).objs.size
      rw [Heap.size_push]
      simp only [List.mem_cons, List.not_mem_nil, or_false] at hb'
      rcases hb' with rfl | rfl
      · exact Nat.lt_succ_self _
      · exact Nat.lt_succ_of_lt hlt
    · rw [hlen, last]
      exact ⟨.int ns.sum, H, I.kept (stay hk), ⟨_, rfl⟩, q⟩
end
end L2
namespace L2
open PySem PySem.Spec PyProof.Rows
def Itd (hi : Int) (n : Nat) : It := ⟨fun i _ => i < n, fun i H x H' => H' = H ∧ x = .int (hi - i), fun i _ => n ≤ i⟩
theorem turn_down {P : Program} {w : World} {K : PySem.W.Frag} {tg : Expr} (it : Addr) (hi : Int) (n : Nat) : Turn P w K tg (Itd hi n) [it] it (fun i h => IsRangeIter h it (hi + (i : Nat) * (-1)) ((n : Int) - (i : Nat)) (-1)) where
  mem := by simp
  obj := fun i h st b hb => by
    have e : b = it := by simpa using hb
    subst e
    exact ⟨_, st, fun v z => by
      have z' : Data.fields _ = Data.cell v := z
      cases z'⟩
  keep := fun i h h' st k => k it (by simp) _ st
  item := by
    intro X hP hw hK hc i pins s σ H E I hf st hg
    subst hP hw hK
    obtain ⟨f0, f1, f2, f3, f4, f5⟩ := hf it (by simp)
    have W := Walks.range (prog := X.prog) (w := X.w) (I.ok.hd hc) it hi (-1) n
    refine W.item i s _ _ hg st fun v h' tk hv st' kk => ?_
    obtain ⟨t, rfl⟩ := hv
    have I1 : Inv X pins σ H { s with heap := h', toks := tk } := I.turned (fun b o hb e => kk b o (by simpa using hb) e) f0 f1 f3 f4 f5
    refine ⟨_, rfl, go_of (s := { s with heap := h', toks := tk }) (n := "range_iterator") st' rfl rfl (by decide) ⟨.int (hi - i), H, I1, ⟨t, ?_⟩, ⟨rfl, rfl⟩, st', fun b hb => (hf b hb).1⟩⟩
    rw [show hi + (i : Int) * (-1) = hi - i from by omega]
  done := by
    intro X hP hw hK hc i pins s σ H E I hf st hg
    subst hP hw hK
    obtain ⟨f0, f1, f2, f3, f4, f5⟩ := hf it (by simp)
    exact wpAny_pyNext_range_end (I.ok.hd hc) st (by have : n ≤ i := hg; omega) fun h' eb => ⟨rfl, I.turned (t' := s.toks) (fun b o hb e => eb b o hb e) f0 f1 f3 f4 f5⟩
  self := fun _ _ _ _ _ st h => wpAny_pyIter_rangeiter st h
section
variable {X : Cx} {tg : Expr}
theorem down_it {pins : List (Addr × Obj)} {σ : St} {H : Hp} {s : Shared} {R : It → Hp → Prop} {E : Value → Shared → Prop} {hi lo : Int} {t u v : Tok} {tk : Nat} (I : Inv X pins σ H s) (h1 : -(2 ^ 62) ≤ hi) (h2 : hi < 2 ^ 62) (h3 : -(2 ^ 62) ≤ lo) (h4 : lo < 2 ^ 62)
    (q : R (Itd hi (hi - lo).toNat) H) : wpAny (model X.prog X.w) X.A (pyIter (.ref s.heap.objs.size)) (PIE X pins σ tg R) E { s with heap := s.heap.push { cls := .type "range", data := .fields #[.int hi t, .int lo u, .int (-1) v] }, toks := tk } := by
  refine wpAny_pyIter_range (IsRange.new ..) (PySem.W.small_down h1 h2 h3 h4) ?_
  have I1 : Inv X pins σ H { s with heap := s.heap.push { cls := .type "range", data := .fields #[.int hi t, .int lo u, .int (-1) v] }, toks := tk } := I.kept fun b o e => Heap.get?_push_of_some _ e
  refine ⟨(s.heap.push { cls := .type "range", data := .fields #[.int hi t, .int lo u, .int (-1) v] }).objs.size, [(s.heap.push { cls := .type "range", data := .fields #[.int hi t, .int lo u, .int (-1) v] }).objs.size], _, _, H, rfl,
    I1.kept (t' := tk) fun b o e => Heap.get?_push_of_some _ e, turn_down _ hi (hi - lo).toNat, ?_, fun b hb => ?_, q⟩
  · have e1 : hi + ((0 : Nat) : Int) * (-1) = hi := by simp
    have e2 : (((hi - lo).toNat : Nat) : Int) - ((0 : Nat) : Int) = Builtin.Range.rangeSize hi lo (-1) := by rw [PySem.W.rangeSize_downNat]; simp
    show IsRangeIter _ _ (hi + ((0 : Nat) : Int) * (-1)) ((((hi - lo).toNat : Nat) : Int) - ((0 : Nat) : Int)) (-1)
    rw [e1, e2]
    exact Heap.get?_push_size _ rfl
  · have e : b = (s.heap.push { cls := .type "range", data := .fields #[.int hi t, .int lo u, .int (-1) v] }).objs.size := by simpa using hb
    subst e
    exact I1.fpOk (Nat.le_refl _) (I1.hok.fresh (Nat.le_refl _))
def iRngD (ta : TA) : TI := fun σ H R => ta σ H fun vs H1 => ∃ i j : Int, vs = [.int i, .int j, .int (-1)] ∧ (-(2 ^ 62) ≤ i ∧ i < 2 ^ 62 ∧ -(2 ^ 62) ≤ j ∧ j < 2 ^ 62) ∧ R (Itd i (i - j).toNat) H1
theorem Vals.three {x y z : V} {us : List Value} (r : Vals [x, y, z] us) : ∃ u v w, us = [u, v, w] ∧ RelV x u ∧ RelV y v ∧ RelV z w := by
  cases r with
  | cons r1 r =>
    cases r with
    | cons r2 r =>
      cases r with
      | cons r3 r => cases r; exact ⟨_, _, _, rfl, r1, r2, r3⟩
theorem pi_rangeD {a b c : Expr} {ta : TA} {p pos : Pos} (hg : Gl X "range") (hm : X.mg "range" = none) (ha : PA X [a, b, c] ta) (hs : starEach [a, b, c] X.env = (false, eval a X.env) :: starEach [b, c] X.env := by rfl) (hpl : (backTo pos (starEach [b, c] X.env)).any (·.1) = false := by rfl) :
    PI X tg (.Call (.Name "range" p) [a, b, c] [] pos) (iRngD ta) := by
  intro pins s σ H R I h
  refine Call_ (ld_blt I hg hm boot_range (PyProof.Rows.callWith_type1 (thn (ha pos pins s σ H _ I h) fun us s1 ⟨vs, H1, I1, r1, q1⟩ => ?_) hs hpl))
  obtain ⟨i, j, e, ⟨q1, q2, q3, q4⟩, q⟩ := q1
  subst e
  obtain ⟨u1, u2, u3, rfl, ⟨t1, rfl⟩, ⟨t2, rfl⟩, ⟨t3, rfl⟩⟩ := r1.three
  exact call_range_3 (by decide) (down_it I1 q1 q2 q3 q4 q) (Or.inl (PyProof.noPylong_small (by decide)))
theorem for_down {hi : Int} {n : Nat} {g : TG} {tb : TS} {D : Ends} {σ : St} {H : Hp} (Pv : Nat → St → Hp → Prop) (h0 : Pv 0 σ H)
    (hs : ∀ i σ H, i < n → Pv i σ H → g (.int (hi - i)) σ H fun σ2 H2 => tb { D with nx := Pv (i + 1), ct := Pv (i + 1), bk := D.nx } σ2 H2) (hd : ∀ σ H, Pv n σ H → D.nx σ H) :
    ∃ W : Nat → Nat → St → Hp → Prop, (∃ m, W 0 m σ H) ∧ ∀ i m σ H, W i m σ H →
      ((Itd hi n).stop i H ∧ D.nx σ H) ∨ ((Itd hi n).go i H ∧ ∃ N : St → Hp → Prop, (∀ σ' H', N σ' H' → ∃ m', m' < m ∧ W (i + 1) m' σ' H') ∧ ∀ x H', (Itd hi n).yld i H x H' → g x σ H' fun σ2 H2 => tb { D with nx := N, ct := N, bk := D.nx } σ2 H2) := by
  refine ⟨fun i m σ H => m = n - i ∧ i ≤ n ∧ Pv i σ H, ⟨n, by simp, Nat.zero_le _, h0⟩, ?_⟩
  rintro i m σ H ⟨rfl, hi, p⟩
  by_cases hlt : i < n
  · refine .inr ⟨hlt, Pv (i + 1), fun σ' H' p' => ⟨n - (i + 1), by omega, rfl, hlt, p'⟩, fun x H' y => ?_⟩
    obtain ⟨rfl, rfl⟩ := y
    exact hs i σ _ hlt p
  · have e : i = n := by omega
    subst e
    exact .inl ⟨Nat.le_refl _, hd σ H p⟩
def downV (i : Int) (n : Nat) : List V := (List.range n).map fun (k : Nat) => V.int (i - (k : Int))
def tLRngD (ta : TA) : TE := fun σ H Q => ta σ H fun vs H1 => ∃ i j : Int, vs = [.int i, .int j, .int (-1)] ∧ (-(2 ^ 62) ≤ i ∧ i < 2 ^ 62 ∧ -(2 ^ 62) ≤ j ∧ j < 2 ^ 62) ∧ (i - j).toNat ≤ sizeLine ∧ (i - j).toNat ≤ 2 ^ 24 ∧
  ∀ p H', H1 p = none → Same H1 H' → H' p = some (.lst (downV i (i - j).toNat)) → Q (.ref p) H'
theorem vals_of_get : ∀ {xs : List V} {us : List Value}, xs.length = us.length → (∀ (j : Nat) x u, xs[j]? = some x → us[j]? = some u → RelV x u) → Vals xs us
  | [], [], _, _ => .nil
  | [], _ :: _, h, _ => by simp at h
  | _ :: _, [], h, _ => by simp at h
  | x :: xs, u :: us, h, q => .cons (q 0 x u rfl rfl) (vals_of_get (by simpa using h) fun j y v e1 e2 => q (j + 1) y v (by simpa using e1) (by simpa using e2))
theorem pe_listRngD {a b c : Expr} {ta : TA} {p p' pos pos' : Pos} (hc : X.calm = true) (hg : Gl X "range") (hm : X.mg "range" = none) (hgl : Gl X "list") (hml : X.mg "list" = none) (ha : PA X [a, b, c] ta) (hs : starEach [a, b, c] X.env = (false, eval a X.env) :: starEach [b, c] X.env := by rfl) (hpl : (backTo pos' (starEach [b, c] X.env)).any (·.1) = false := by rfl)
    (hs2 : starEach [.Call (.Name "range" p') [a, b, c] [] pos'] X.env = [(false, eval (.Call (.Name "range" p') [a, b, c] [] pos') X.env)] := by rfl) :
    PE X (.Call (.Name "list" p) [.Call (.Name "range" p') [a, b, c] [] pos'] [] pos) (tLRngD ta) := by
  intro pins s σ H Q I h
  refine wpAny_Call_Name_kw (ld_blt I hgl hml boot_list ?_ (by decide) (by decide))
  refine PyProof.Rows.callWith_type1 ?_ hs2 rfl
  rw [hs2]
  refine Calls.spliced_cons ?_
  refine Call_ (ld_blt I hg hm boot_range (PyProof.Rows.callWith_type1 (thn (ha pos' pins s σ H _ I h) fun us s1 ⟨vs, H1, I1, r1, q1⟩ => ?_) hs hpl))
  obtain ⟨i, j, e, ⟨q1, q2, q3, q4⟩, z1, z2, q⟩ := q1
  subst e
  obtain ⟨u1, u2, u3, rfl, ⟨t1, rfl⟩, ⟨t2, rfl⟩, ⟨t3, rfl⟩⟩ := r1.three
  refine call_range_3 (by decide) (Calls.spliced_nil ?_) (Or.inl (PyProof.noPylong_small (by decide)))
  refine call_list_range (n := (i - j).toNat) (I1.ok.hd hc) (IsRange.new ..) (PySem.W.small_down q1 q2 q3 q4) (PySem.W.rangeSize_downNat i j) z2 fun h' tk acc c' hk hS hacc => ?_
  have I2 : Inv X pins σ H1 { s1 with heap := s1.heap.push { cls := .type "range", data := .fields #[.int i t1, .int j t2, .int (-1) t3] }, toks := s1.toks } := I1.kept fun b o e => Heap.get?_push_of_some _ e
  have hf := I2.hok.fresh (Nat.le_refl _)
  refine ⟨.ref _, upd H1 _ (.lst (downV i (i - j).toNat)), I2.laid (t' := tk) (o := .lst (downV i (i - j).toNat)) hk (Nat.le_refl _) ⟨?_, acc.toList, c', ?_, by simpa using hS⟩, rfl, q _ _ hf (Same.new hf) upd_same⟩
  · unfold downV
    rw [List.length_map, List.length_range]
    exact z1
  · refine vals_of_get ?_ fun k x u e1 e2 => ?_
    · unfold downV
      rw [List.length_map, List.length_range, Array.length_toList, hacc.1]
    · unfold downV at e1
      rw [List.getElem?_map] at e1
      cases e3 : (List.range (i - j).toNat)[k]? with
      | none => rw [e3] at e1; cases e1
      | some m =>
        rw [e3] at e1
        have hm : m = k := by
          have := List.getElem?_eq_some_iff.mp e3
          obtain ⟨_, h⟩ := this
          rw [List.getElem_range] at h
          exact h.symm
        subst hm
        cases e1
        obtain ⟨t, rfl⟩ := hacc.2 m u (by simpa using e2)
        exact ⟨t, by rw [show i + (m : Int) * (-1) = i - m from by omega]⟩
theorem vals_rev : ∀ {xs : List V} {us : List Value}, Vals xs us → Vals xs.reverse us.reverse
  | [], _, h => by cases h; exact .nil
  | x :: xs, _, h => by
    cases h with
    | cons r t =>
      rw [List.reverse_cons, List.reverse_cons]
      exact (vals_rev t).append (.cons r .nil)
def tRevL (K : PySem.W.Frag) (te : TE) (ts : TO) : TE := fun σ H Q => te σ H fun x H1 => ts σ H1 fun o H2 => o = some (-1) ∧ ∃ a xs, x = .ref a ∧ SqL K H2 a xs ∧ ∀ p H', H2 p = none → Same H2 H' → H' p = some (.lst xs.reverse) → Q (.ref p) H'
theorem pe_revL {e : Expr} {st : Expr} {te : TE} {ts : TO} {pos p2 : Pos} (he : PE X e te) (hst : PO X (some st) ts) : PE X (.Subscript e (.Slice none none (some st) p2) pos) (tRevL X.K te ts) := by
  intro pins s σ H Q I h
  refine Subscript_ (thn (he pins s σ H _ I h) fun v s1 ⟨x, H1, I1, r1, q1⟩ => ?_)
  refine wpAny_Slice ?_
  rw [evalPart_none]
  refine wpAny_pure ?_
  refine wpAny_pure ?_
  refine thn (hst pins s1 σ H1 _ I1 q1) fun vs s3 ⟨o, H3, I3, ps, e1, q2⟩ => ?_
  subst e1
  obtain ⟨a, xs, rfl, hx, q⟩ := q2
  have I4 : Inv X pins σ H3 { s3 with heap := s3.heap.push { cls := .type "slice", data := .fields #[.none, .none, vs] } } := I3.kept (t' := s3.toks) fun b ob q => Heap.get?_push_of_some _ q
  cases r1
  obtain ⟨its, r, ht, hz⟩ := I4.list hx
  have hlen := r.length
  show wpAny (model X.prog X.w) X.A (subscriptTail e (.Slice none none (some st) p2) (.ref a) (.ref s3.heap.objs.size)) (EP X pins σ Q) X.xe { s3 with heap := s3.heap.push { cls := .type "slice", data := .fields #[.none, .none, vs] } }
  refine tail_any (ops := [.ref a, .ref s3.heap.objs.size]) ht.isList.typeIs slot_list_getitem.lookup ?_ (by with_unfolding_all rfl)
  refine wpAny_getItem_list_slice ht.isList (Heap.IsSliceOf.new ..) .none .none ps (by simp) ?_ (by rw [List.size_toArray] <;> omega)
  rw [PySem.W.krv_pick]
  have hf := I4.hok.fresh (Nat.le_refl _)
  refine ⟨.ref _, _, I4.laid (t' := s3.toks) (o := .lst xs.reverse) (fun b ob q => Heap.get?_push_of_some _ q) (Nat.le_refl _) ?_, rfl, q _ _ hf (Same.new hf) upd_same⟩
  refine ⟨by rw [List.length_reverse]; exact hz, its.reverse, 0, ?_, ?_⟩
  · exact vals_rev r
  · exact Heap.get?_push_size _ rfl
end
end L2
namespace L2
open PySem PySem.Spec PyProof.Rows
theorem tc_zip3 (x y v : Value) : checkTypeCall "zip" ⟨[x, y, v], []⟩ = pure () := by kernel_rfl
theorem nc_zip3 (x y v : Value) : checkBuiltinCall "zip.__new__" ⟨[.type "zip", x, y, v], []⟩ = pure () := by kernel_rfl
theorem oi_zip3 (x y v u : Value) : argsOk "object.__init__" ⟨[x, y, v, u], []⟩ := by
  unfold argsOk
  rw [signature?_of (id := "object.__init__") (n := ['_', '_', 't', 'i', 'n', 'i', '_', '_']) (o := ['t', 'c', 'e', 'j', 'b', 'o']) (by kernel_rfl) F.owner_object]
  kernel_rfl
abbrev T3 (h : Heap) (T : Addr) (x y v : Value) : Prop := h.get? T = some { cls := .type "tuple", data := .seq #[x, y, v] }
structure Ap3 (z TI TO i j k l m n : Addr) : Prop where
  a1 : TI ≠ z
  a2 : TO ≠ z
  a3 : i ≠ z
  a4 : j ≠ z
  a5 : k ≠ z
  b1 : TI ≠ TO
  b2 : TI ≠ i
  b3 : TI ≠ j
  b4 : TI ≠ k
  c1 : TO ≠ i
  c2 : TO ≠ j
  c3 : TO ≠ k
  d1 : i ≠ j
  d2 : i ≠ k
  d3 : j ≠ k
  off : ∀ x, x = l ∨ x = m ∨ x = n → x ≠ z ∧ x ≠ TO ∧ x ≠ i ∧ x ≠ j ∧ x ≠ k
section
variable {P : Program} {w : World} {A : Around} {E : Value → Shared → Prop} {s : Shared}
theorem up3 {T : Addr} {a b c x : Value} {r : Nat} {Q : Unit → Shared → Prop} (hT : T3 s.heap T a b c)
    (q : ∀ h', h'.get? T = some { cls := .type "tuple", data := .seq ((#[a, b, c] : Array Value).setIfInBounds r x) } → Heap.SameBut T s.heap h' → Q () { s with heap := h' }) :
    wpAny (model P w) A (updateSeq T (·.setIfInBounds r x)) Q E s := by
  refine wpAny_updateSeq hT rfl (q _ ?_ (Heap.SameBut.update ..))
  rw [Heap.get?_update_self _ hT rfl]
  simp [Obj.mapSeq]
theorem zip3_item {z TI TO i j k l m n : Addr} {p : Nat} {xs ys us : Array Value} {x y u a b c : Value} {Q : Value → Shared → Prop} (D : Ap3 z TI TO i j k l m n)
    (zz : IsZip s.heap z TI TO .none) (hI : T3 s.heap TI (.ref i) (.ref j) (.ref k)) (hO : T3 s.heap TO a b c)
    (w1 : s.heap.IsListIter i l p) (w2 : s.heap.IsListIter j m p) (w3 : s.heap.IsListIter k n p) (y1 : s.heap.IsList l xs) (y2 : s.heap.IsList m ys) (y3 : s.heap.IsList n us) (e1 : xs[p]? = some x) (e2 : ys[p]? = some y) (e3 : us[p]? = some u)
    (q : ∀ h', IsZip h' z TI TO (rawInt s.heap.objs.size) → T3 h' TO x y u → h'.IsListIter i l (p + 1) → h'.IsListIter j m (p + 1) → h'.IsListIter k n (p + 1) → T3 h' s.heap.objs.size x y u →
      (∀ c o, c ≠ z → c ≠ TO → c ≠ i → c ≠ j → c ≠ k → s.heap.get? c = some o → h'.get? c = some o) → Q (.ref s.heap.objs.size) { s with heap := h' }) :
    wpAny (model P w) A (Builtin.«zip.__next__» ⟨[.ref z], []⟩) (fun fin s' => ∃ v, fin = .done (.ret v) ∧ Q v s') E s := by
  obtain ⟨oz1, oO1, oi1, oj1, ok1⟩ := D.off l (.inl rfl)
  obtain ⟨oz2, oO2, oi2, oj2, ok2⟩ := D.off m (.inr (.inl rfl))
  obtain ⟨oz3, oO3, oi3, oj3, ok3⟩ := D.off n (.inr (.inr rfl))
  show wpAny _ A (field (.ref z) 2 >>= _) _ _ _
  refine wpAny_bind (wpAny_field zz rfl (x := .bool false) rfl ?_)
  show wpAny _ A (field (.ref z) 3 >>= _) _ _ _
  refine wpAny_bind (wpAny_field zz rfl (x := .ref TI) rfl (wpAny_bind (wpAny_seqItems hI rfl ?_)))
  show wpAny _ A (Builtin.SmallTypes.ownedTupleIsFree (.ref z) >>= _) _ _ _
  refine wpAny_bind ?_; unfold Builtin.SmallTypes.ownedTupleIsFree; refine wpAny_bind (wpAny_field zz rfl (x := .none) rfl (wpAny_pure ?_))
  simp only [if_true]; refine wpAny_bind (wpAny_rule ?_)
  refine wpAny_bind (wpAny_field zz rfl (x := .ref TO) rfl (wpAny_bind (wpAny_setField_rec zz (by simp) fun g1 z1 r1 => ?_)))
  have z1 : IsZip g1 z TI TO .ellipsis := z1
  refine wpAny_bind ?_; simp only [List.zipIdx_cons, List.zipIdx_nil, List.forIn_cons, List.forIn_nil]
  refine wpAny_bind (wpAny_bind (wpAny_onRaise ?_)); show wpAny _ A (Builtin.SmallTypes.nextOf (.ref i) >>= _) _ _ _
  refine wpAny_bind (wpAny_nextOf_list_item (w1.extBut r1.extBut D.a3) (y1.extBut r1.extBut oz1) e1 fun g2 v1 r2 => wpAny_pure ?_)
  have O2 : T3 g2 TO a b c := r2.extBut _ _ D.c1 (r1.extBut _ _ D.a2 hO)
  refine wpAny_bind (wpAny_seqItems O2 rfl ?_)
  refine wpAny_bind (up3 O2 fun g3 O3 r3 => ?_)
  have O3 : T3 g3 TO x b c := O3
  refine wpAny_bind (wpAny_letGo (wpAny_pure ?_)); have first_done := True.intro
  have w2' : g3.IsListIter j m p := ((w2.extBut r1.extBut D.a4).extBut r2.extBut D.d1.symm).extBut r3.extBut D.c2.symm
  have y2' : g3.IsList m ys := ((y2.extBut r1.extBut oz2).extBut r2.extBut oi2).extBut r3.extBut oO2
  have w3' : g3.IsListIter k n p := ((w3.extBut r1.extBut D.a5).extBut r2.extBut D.d2.symm).extBut r3.extBut D.c3.symm
  have y3' : g3.IsList n us := ((y3.extBut r1.extBut oz3).extBut r2.extBut oi3).extBut r3.extBut oO3
  refine wpAny_bind (wpAny_bind (wpAny_onRaise ?_)); show wpAny _ A (Builtin.SmallTypes.nextOf (.ref j) >>= _) _ _ _
  refine wpAny_bind (wpAny_nextOf_list_item w2' y2' e2 fun g4 v2 r4 => wpAny_pure ?_)
  have O4 : T3 g4 TO x b c := r4.extBut _ _ D.c2 O3
  refine wpAny_bind (wpAny_seqItems O4 rfl ?_)
  refine wpAny_bind (up3 O4 fun g5 O5 r5 => ?_)
  have O5 : T3 g5 TO x y c := O5
  refine wpAny_bind (wpAny_letGo (wpAny_pure ?_)); have second_done := True.intro
  have w3'' : g5.IsListIter k n p := (w3'.extBut r4.extBut D.d3.symm).extBut r5.extBut D.c3.symm
  have y3'' : g5.IsList n us := (y3'.extBut r4.extBut oj3).extBut r5.extBut oO3
  refine wpAny_bind (wpAny_bind (wpAny_onRaise ?_)); show wpAny _ A (Builtin.SmallTypes.nextOf (.ref k) >>= _) _ _ _
  refine wpAny_bind (wpAny_nextOf_list_item w3'' y3'' e3 fun g6 v3 r6 => wpAny_pure ?_)
  have O6 : T3 g6 TO x y c := r6.extBut _ _ D.c3 O5
  refine wpAny_bind (wpAny_seqItems O6 rfl ?_)
  refine wpAny_bind (up3 O6 fun g7 O7 r7 => ?_)
  have O7 : T3 g7 TO x y u := O7
  refine wpAny_bind (wpAny_letGo (wpAny_pure (wpAny_pure (wpAny_bind (wpAny_seqItems O7 rfl (wpAny_bind (wpAny_newTuple ?_)))))))
  have sz : g7.objs.size = s.heap.objs.size := by rw [r7.1, r6.1, r5.1, r4.1, r3.1, r2.1, r1.1]
  have z7 : IsZip g7 z TI TO .ellipsis := r7.extBut _ _ D.a2.symm (r6.extBut _ _ D.a5.symm (r5.extBut _ _ D.a2.symm (r4.extBut _ _ D.a4.symm (r3.extBut _ _ D.a2.symm (r2.extBut _ _ D.a3.symm z1)))))
  have kp : ∀ c o, c ≠ z → c ≠ TO → c ≠ i → c ≠ j → c ≠ k → s.heap.get? c = some o → g7.get? c = some o := fun c o n1 n2 n3 n4 n5 e =>
    r7.extBut _ _ n2 (r6.extBut _ _ n5 (r5.extBut _ _ n2 (r4.extBut _ _ n4 (r3.extBut _ _ n2 (r2.extBut _ _ n3 (r1.extBut _ _ n1 e))))))
  have v1' : g7.IsListIter i l (p + 1) := ((((v1.extBut r3.extBut D.c1.symm).extBut r4.extBut D.d1).extBut r5.extBut D.c1.symm).extBut r6.extBut D.d2).extBut r7.extBut D.c1.symm
  have v2' : g7.IsListIter j m (p + 1) := ((v2.extBut r5.extBut D.c2.symm).extBut r6.extBut D.d3).extBut r7.extBut D.c2.symm
  have v3' : g7.IsListIter k n (p + 1) := v3.extBut r7.extBut D.c3.symm
  have zl : z < g7.objs.size := Heap.lt_size z7
  show wpAny _ A (Builtin.SmallTypes.ownedTupleHandOut (.ref z) (.ref g7.objs.size) >>= _) _ _ _
  refine wpAny_bind ?_; unfold Builtin.SmallTypes.ownedTupleHandOut
  have z8 : IsZip (g7.push { cls := .type "tuple", data := .seq #[x, y, u] }) z TI TO .ellipsis := Heap.get?_push_of_some _ z7
  refine wpAny_bind (wpAny_setField_rec z8 (by simp) fun g9 z9 r9 => ?_)
  have z9 : IsZip g9 z TI TO (rawInt g7.objs.size) := z9
  refine wpAny_setField_rec z9 (by simp) fun g10 z10 r10 => ?_
  have z10 : IsZip g10 z TI TO (rawInt g7.objs.size) := z10
  have up : ∀ c o, c ≠ z → g7.get? c = some o → g10.get? c = some o := fun c o n1 e => r10.extBut _ _ n1 (r9.extBut _ _ n1 (Heap.get?_push_of_some _ e))
  have t10 : T3 g10 g7.objs.size x y u := r10.extBut _ _ (Nat.ne_of_gt zl) (r9.extBut _ _ (Nat.ne_of_gt zl) (Heap.get?_push_size _ rfl))
  rw [sz] at z10 t10
  refine wpAny_pure ⟨_, rfl, ?_⟩
  show Q (.ref g7.objs.size) _
  rw [sz]
  exact q g10 z10 (up _ _ D.a2 O7) (v1'.at fun o e => up _ o D.a3 e) (v2'.at fun o e => up _ o D.a4 e) (v3'.at fun o e => up _ o D.a5 e) t10 fun c o n1 n2 n3 n4 n5 e => up c o n1 (kp c o n1 n2 n3 n4 n5 e)
theorem zip3_end {z TI TO i j k l m n : Addr} {p : Nat} {xs ys us : Array Value} {a b c : Value} {Q : Fin → Shared → Prop} (hh : A.handled = none) (D : Ap3 z TI TO i j k l m n)
    (zz : IsZip s.heap z TI TO .none) (hI : T3 s.heap TI (.ref i) (.ref j) (.ref k)) (hO : T3 s.heap TO a b c)
    (w1 : s.heap.IsListIter i l p) (w2 : s.heap.IsListIter j m p) (w3 : s.heap.IsListIter k n p) (y1 : s.heap.IsList l xs) (y2 : s.heap.IsList m ys) (y3 : s.heap.IsList n us) (no : xs[p]? = none ∨ ys[p]? = none ∨ us[p]? = none)
    (q : ∀ h' e, (∀ c o, c ≠ z → c ≠ TO → c ≠ i → c ≠ j → c ≠ k → s.heap.get? c = some o → h'.get? c = some o) → (∃ o, h'.get? e = some o ∧ o.cls = .type "StopIteration") → E (.ref e) { s with heap := h' }) :
    wpAny (model P w) A (Builtin.«zip.__next__» ⟨[.ref z], []⟩) Q E s := by
  obtain ⟨oz1, oO1, oi1, oj1, ok1⟩ := D.off l (.inl rfl)
  obtain ⟨oz2, oO2, oi2, oj2, ok2⟩ := D.off m (.inr (.inl rfl))
  obtain ⟨oz3, oO3, oi3, oj3, ok3⟩ := D.off n (.inr (.inr rfl))
  show wpAny _ A (field (.ref z) 2 >>= _) _ _ _
  refine wpAny_bind (wpAny_field zz rfl (x := .bool false) rfl ?_)
  show wpAny _ A (field (.ref z) 3 >>= _) _ _ _
  refine wpAny_bind (wpAny_field zz rfl (x := .ref TI) rfl (wpAny_bind (wpAny_seqItems hI rfl ?_)))
  show wpAny _ A (Builtin.SmallTypes.ownedTupleIsFree (.ref z) >>= _) _ _ _
  refine wpAny_bind ?_; unfold Builtin.SmallTypes.ownedTupleIsFree; refine wpAny_bind (wpAny_field zz rfl (x := .none) rfl (wpAny_pure ?_))
  simp only [if_true]; refine wpAny_bind (wpAny_rule ?_)
  refine wpAny_bind (wpAny_field zz rfl (x := .ref TO) rfl (wpAny_bind (wpAny_setField_rec zz (by simp) fun g1 z1 r1 => ?_)))
  have z1 : IsZip g1 z TI TO .ellipsis := z1
  refine wpAny_bind ?_; simp only [List.zipIdx_cons, List.zipIdx_nil, List.forIn_cons, List.forIn_nil]
  refine wpAny_bind (wpAny_bind (wpAny_onRaise ?_)); show wpAny _ A (Builtin.SmallTypes.nextOf (.ref i) >>= _) _ _ _
  have stop : ∀ {g g' : Heap} {e : Addr} {it : Addr}, it ≠ z → IsZip g z TI TO .ellipsis → Heap.ExtBut it g g' → (∃ o, g'.get? e = some o ∧ o.cls = .type "StopIteration") → (∀ c o, c ≠ z → c ≠ TO → c ≠ i → c ≠ j → c ≠ k → s.heap.get? c = some o → g'.get? c = some o) →
      wpAny (model P w) A (setField (.ref z) 0 .none) (fun _ s1 => E (.ref e) s1) E { s with heap := g' } := fun {g g' e it} hi hz2 rr he kk => by
    obtain ⟨oe, h1, h2⟩ := he
    have z2 : IsZip g' z TI TO .ellipsis := rr _ _ hi.symm hz2
    have ez : e ≠ z := fun x => by subst x; rw [z2] at h1; cases h1; simp at h2
    exact wpAny_setField_rec z2 (by simp) fun g3 _ r3 => q g3 e (fun c o n1 n2 n3 n4 n5 x => r3.extBut _ _ n1 (kk c o n1 n2 n3 n4 n5 x)) ⟨oe, r3.extBut _ _ ez h1, h2⟩
  cases e1 : xs[p]? with
  | none =>
    refine wpAny_bind (wpAny_nextOf_list_end hh (w1.extBut r1.extBut D.a3) (y1.extBut r1.extBut oz1) e1 fun g2 e r2 he => ?_)
    exact stop D.a3 z1 r2 he fun c o n1 n2 n3 n4 n5 x => r2 _ _ n3 (r1.extBut _ _ n1 x)
  | some x =>
    refine wpAny_bind (wpAny_nextOf_list_item (w1.extBut r1.extBut D.a3) (y1.extBut r1.extBut oz1) e1 fun g2 v1 r2 => wpAny_pure ?_)
    have O2 : T3 g2 TO a b c := r2.extBut _ _ D.c1 (r1.extBut _ _ D.a2 hO)
    refine wpAny_bind (wpAny_seqItems O2 rfl (wpAny_bind (up3 O2 fun g3 O3 r3 => (wpAny_bind (wpAny_letGo (wpAny_pure ?_))))))
    have O3 : T3 g3 TO x b c := O3
    have w2' : g3.IsListIter j m p := ((w2.extBut r1.extBut D.a4).extBut r2.extBut D.d1.symm).extBut r3.extBut D.c2.symm
    have y2' : g3.IsList m ys := ((y2.extBut r1.extBut oz2).extBut r2.extBut oi2).extBut r3.extBut oO2
    have w3' : g3.IsListIter k n p := ((w3.extBut r1.extBut D.a5).extBut r2.extBut D.d2.symm).extBut r3.extBut D.c3.symm
    have y3' : g3.IsList n us := ((y3.extBut r1.extBut oz3).extBut r2.extBut oi3).extBut r3.extBut oO3
    have z3 : IsZip g3 z TI TO .ellipsis := r3.extBut _ _ D.a2.symm (r2.extBut _ _ D.a3.symm z1)
    have k3 : ∀ c o, c ≠ z → c ≠ TO → c ≠ i → c ≠ j → c ≠ k → s.heap.get? c = some o → g3.get? c = some o := fun c o n1 n2 n3 n4 n5 e => r3.extBut _ _ n2 (r2.extBut _ _ n3 (r1.extBut _ _ n1 e))
    refine wpAny_bind (wpAny_bind (wpAny_onRaise ?_)); show wpAny _ A (Builtin.SmallTypes.nextOf (.ref j) >>= _) _ _ _
    cases e2 : ys[p]? with
    | none =>
      refine wpAny_bind (wpAny_nextOf_list_end hh w2' y2' e2 fun g4 e r4 he => ?_)
      exact stop D.a4 z3 r4 he fun c o n1 n2 n3 n4 n5 x => r4 _ _ n4 (k3 c o n1 n2 n3 n4 n5 x)
    | some y =>
      have e3 : us[p]? = none := by
        rcases no with h | h | h
        · rw [e1] at h; cases h
        · rw [e2] at h; cases h
        · exact h
      refine wpAny_bind (wpAny_nextOf_list_item w2' y2' e2 fun g4 v2 r4 => wpAny_pure ?_)
      have O4 : T3 g4 TO x b c := r4.extBut _ _ D.c2 O3
      refine wpAny_bind (wpAny_seqItems O4 rfl (wpAny_bind (up3 O4 fun g5 O5 r5 => (wpAny_bind (wpAny_letGo (wpAny_pure ?_))))))
      have w3'' : g5.IsListIter k n p := (w3'.extBut r4.extBut D.d3.symm).extBut r5.extBut D.c3.symm
      have y3'' : g5.IsList n us := (y3'.extBut r4.extBut oj3).extBut r5.extBut oO3
      have z5 : IsZip g5 z TI TO .ellipsis := r5.extBut _ _ D.a2.symm (r4.extBut _ _ D.a4.symm z3)
      refine wpAny_bind (wpAny_bind (wpAny_onRaise ?_)); show wpAny _ A (Builtin.SmallTypes.nextOf (.ref k) >>= _) _ _ _
      refine wpAny_bind (wpAny_nextOf_list_end hh w3'' y3'' e3 fun g6 e r6 he => ?_)
      exact stop D.a5 z5 r6 he fun c o n1 n2 n3 n4 n5 x => r6 _ _ n5 (r5.extBut _ _ n2 (r4.extBut _ _ n4 (k3 c o n1 n2 n3 n4 n5 x)))
theorem zip3_next {z TI TO i j k l m n : Addr} {p : Nat} {xs ys us : Array Value} {x y u a b c : Value} {Q : Option Value → Shared → Prop} (D : Ap3 z TI TO i j k l m n)
    (zz : IsZip s.heap z TI TO .none) (hI : T3 s.heap TI (.ref i) (.ref j) (.ref k)) (hO : T3 s.heap TO a b c)
    (w1 : s.heap.IsListIter i l p) (w2 : s.heap.IsListIter j m p) (w3 : s.heap.IsListIter k n p) (y1 : s.heap.IsList l xs) (y2 : s.heap.IsList m ys) (y3 : s.heap.IsList n us) (e1 : xs[p]? = some x) (e2 : ys[p]? = some y) (e3 : us[p]? = some u)
    (q : ∀ h', IsZip h' z TI TO (rawInt s.heap.objs.size) → T3 h' TO x y u → h'.IsListIter i l (p + 1) → h'.IsListIter j m (p + 1) → h'.IsListIter k n (p + 1) → T3 h' s.heap.objs.size x y u →
      (∀ c o, c ≠ z → c ≠ TO → c ≠ i → c ≠ j → c ≠ k → s.heap.get? c = some o → h'.get? c = some o) → Q (some (.ref s.heap.objs.size)) { s with heap := h' }) :
    wpAny (model P w) A (pyNext (.ref z)) Q E s := by
  have ty : s.TypeIs (.ref z) "zip" := ⟨_, zz, rfl⟩
  unfold pyNext; refine wpAny_bind (wpAny_attempt (wpAny_callSpecial?_slot (name := Str.ofString "__next__") ty F.slot_zip_next (wpAny_call_entry F.slot_zip_next ty F.entry_zip_next ?_ (F.args_zip_next_1 _))))
  exact zip3_item D zz hI hO w1 w2 w3 y1 y2 y3 e1 e2 e3 fun h' b1 b2 b3 b4 b5 b6 b7 => wpAny_pure (q h' b1 b2 b3 b4 b5 b6 b7)
theorem zip3_stop {z TI TO i j k l m n : Addr} {p : Nat} {xs ys us : Array Value} {a b c : Value} {Q : Option Value → Shared → Prop} (hh : A.handled = none) (D : Ap3 z TI TO i j k l m n)
    (zz : IsZip s.heap z TI TO .none) (hI : T3 s.heap TI (.ref i) (.ref j) (.ref k)) (hO : T3 s.heap TO a b c)
    (w1 : s.heap.IsListIter i l p) (w2 : s.heap.IsListIter j m p) (w3 : s.heap.IsListIter k n p) (y1 : s.heap.IsList l xs) (y2 : s.heap.IsList m ys) (y3 : s.heap.IsList n us) (no : xs[p]? = none ∨ ys[p]? = none ∨ us[p]? = none)
    (q : ∀ h', (∀ c o, c ≠ z → c ≠ TO → c ≠ i → c ≠ j → c ≠ k → s.heap.get? c = some o → h'.get? c = some o) → Q none { s with heap := h' }) : wpAny (model P w) A (pyNext (.ref z)) Q E s := by
  have ty : s.TypeIs (.ref z) "zip" := ⟨_, zz, rfl⟩
  unfold pyNext; refine wpAny_bind (wpAny_attempt (wpAny_callSpecial?_slot (name := Str.ofString "__next__") ty F.slot_zip_next (wpAny_call_entry F.slot_zip_next ty F.entry_zip_next ?_ (F.args_zip_next_1 _))))
  refine zip3_end hh D zz hI hO w1 w2 w3 y1 y2 y3 no fun h' e kk he => ?_
  obtain ⟨o, h1, h2⟩ := he
  exact wpAny_bind (wpAny_isInstance (T := "StopIteration") (b := true) ⟨o, h1, h2⟩ isSubtype_stop (wpAny_pure (q _ kk)))
abbrev zi (h : Heap) (l : Addr) : Heap := h.push { cls := .type "list_iterator", data := .fields #[.ref l, .int 0 0] }
abbrev zh (h : Heap) (l m n : Addr) : Heap := zi (zi (zi h l) m) n
abbrev zt (h : Heap) (l m n : Addr) : Heap := (zh h l m n).push { cls := .type "tuple", data := .seq #[.ref h.objs.size, .ref (zi h l).objs.size, .ref (zi (zi h l) m).objs.size] }
abbrev zo (h : Heap) (l m n : Addr) : Heap := (zt h l m n).push { cls := .type "tuple", data := .seq #[.none, .none, .none] }
abbrev zf (h : Heap) (l m n : Addr) : Heap := (zo h l m n).push { cls := .type "zip", data := .fields #[.none, .bool false, .bool false, .ref (zh h l m n).objs.size, .ref (zt h l m n).objs.size] }
set_option maxHeartbeats 20000000 in
theorem zip3_new (l m n : Addr) (xs ys us : Array Value) :
    Meets (Builtin.«zip.__new__» ⟨[.type "zip", .ref l, .ref m, .ref n], []⟩) (fun _ R s => s.heap.IsList l xs ∧ s.heap.IsList m ys ∧ s.heap.IsList n us ∧ R (.ok (.ret (.ref (zo s.heap l m n).objs.size))) { s with heap := zf s.heap l m n }) :=
  .of_wp fun prog w A R s h => by
    obtain ⟨hp, g, d, tk, os⟩ := s
    obtain ⟨h1, h2, h3, h⟩ := h
    have hsub := sub_zip
    have k1 : Heap.IsList (Shared.heap ⟨hp, g, d, tk, os⟩) l xs := h1
    have k2 : Heap.IsList (Shared.heap ⟨hp.push { cls := .type "list_iterator", data := .fields #[.ref l, .int 0 0] }, g, d, tk, os⟩) m ys := Heap.IsList.push h2 _
    have k3 : Heap.IsList (Shared.heap ⟨(hp.push { cls := .type "list_iterator", data := .fields #[.ref l, .int 0 0] }).push { cls := .type "list_iterator", data := .fields #[.ref m, .int 0 0] }, g, d, tk, os⟩) n us := Heap.IsList.push (Heap.IsList.push h3 _) _
    wp_walk using wpAny_pyIter_list k1, wpAny_pyIter_list k2, wpAny_pyIter_list k3
    exact ⟨_, rfl, h⟩
theorem call_zip3 {l m n : Addr} {xs ys us : Array Value} {Q : Value → Shared → Prop} (h1 : s.heap.IsList l xs) (h2 : s.heap.IsList m ys) (h3 : s.heap.IsList n us)
    (q : ∀ h', IsZip h' (s.heap.objs.size + 5) (s.heap.objs.size + 3) (s.heap.objs.size + 4) .none → T3 h' (s.heap.objs.size + 3) (.ref s.heap.objs.size) (.ref (s.heap.objs.size + 1)) (.ref (s.heap.objs.size + 2)) →
      T3 h' (s.heap.objs.size + 4) .none .none .none → h'.IsListIter s.heap.objs.size l 0 → h'.IsListIter (s.heap.objs.size + 1) m 0 → h'.IsListIter (s.heap.objs.size + 2) n 0 →
      (∀ c o, s.heap.get? c = some o → h'.get? c = some o) → Q (.ref (s.heap.objs.size + 5)) { s with heap := h' }) :
    wpAny (model P w) A (call (.type "zip") [.ref l, .ref m, .ref n]) Q E s := by
  refine callType_new F.called_zip (by decide) (tc_zip3 _ _ _) (nc_zip3 _ _ _) (fun obj => oi_zip3 obj _ _ _) F.entry_zip_new (zip3_new l m n xs ys us) ⟨h1, h2, h3, ?_⟩
  have t1 : (zi s.heap l).objs.size = s.heap.objs.size + 1 := Heap.size_push ..
  have t2 : (zi (zi s.heap l) m).objs.size = s.heap.objs.size + 2 := by rw [Heap.size_push, t1]
  have t3 : (zh s.heap l m n).objs.size = s.heap.objs.size + 3 := by rw [Heap.size_push, t2]
  have t4 : (zt s.heap l m n).objs.size = s.heap.objs.size + 4 := by rw [Heap.size_push, t3]
  have t5 : (zo s.heap l m n).objs.size = s.heap.objs.size + 5 := by rw [Heap.size_push, t4]
  have f6 : (zf s.heap l m n).get? (zo s.heap l m n).objs.size = some _ := Heap.get?_push_size _ rfl
  have f5 : (zf s.heap l m n).get? (zt s.heap l m n).objs.size = some _ := Heap.get?_push_of_some _ (Heap.get?_push_size _ rfl)
  have f4 : (zf s.heap l m n).get? (zh s.heap l m n).objs.size = some _ := Heap.get?_push_of_some _ (Heap.get?_push_of_some _ (Heap.get?_push_size _ rfl))
  have pu : ∀ {h : Heap} {c : Addr} {o : Obj} (x y v : Obj), h.get? c = some o → (((h.push x).push y).push v).get? c = some o := fun x y v e => Heap.get?_push_of_some _ (Heap.get?_push_of_some _ (Heap.get?_push_of_some _ e))
  have f3 : (zf s.heap l m n).get? (zi (zi s.heap l) m).objs.size = some _ := pu _ _ _ (Heap.get?_push_size _ rfl)
  have f2 : (zf s.heap l m n).get? (zi s.heap l).objs.size = some _ := pu _ _ _ (Heap.get?_push_of_some _ (Heap.get?_push_size _ rfl))
  have f1 : (zf s.heap l m n).get? s.heap.objs.size = some _ := pu _ _ _ (Heap.get?_push_of_some _ (Heap.get?_push_of_some _ (Heap.get?_push_size _ rfl)))
  show _ ∧ _
  rw [t3, t4, t5] at f6
  rw [t1, t2, t3] at f4
  rw [t4] at f5
  rw [t2] at f3
  rw [t1] at f2
  rw [t5]
  exact ⟨⟨_, f6, rfl⟩, q _ f6 f4 f5 ⟨_, f1, rfl, rfl⟩ ⟨_, f2, rfl, rfl⟩ ⟨_, f3, rfl, rfl⟩ fun c o e => pu _ _ _ (pu _ _ _ e)⟩
theorem ap3_new {a l m n : Addr} (h1 : l < a) (h2 : m < a) (h3 : n < a) : Ap3 (a + 5) (a + 3) (a + 4) a (a + 1) (a + 2) l m n := by
  have ne : ∀ {x y : Nat}, x < y → x ≠ y := fun h => Nat.ne_of_lt h
  refine ⟨ne (by omega), ne (by omega), ne (by omega), ne (by omega), ne (by omega), (ne (by omega)), (ne (by omega)).symm, (ne (by omega)).symm, (ne (by omega)).symm, (ne (by omega)).symm, (ne (by omega)).symm, (ne (by omega)).symm, ne (by omega), ne (by omega), ne (by omega), fun x hx => ?_⟩
  have hx : (x : Nat) < a := by
    rcases hx with rfl | rfl | rfl
    · exact h1
    · exact h2
    · exact h3
  exact ⟨ne (Nat.lt_of_lt_of_le hx (Nat.le_add_right _ _)), ne (Nat.lt_of_lt_of_le hx (Nat.le_add_right _ _)), ne hx, ne (Nat.lt_of_lt_of_le hx (Nat.le_add_right _ _)), ne (Nat.lt_of_lt_of_le hx (Nat.le_add_right _ _))⟩
end
end L2
namespace L2
open PySem PySem.Spec PyProof.Rows
def It3 (K : PySem.W.Frag) (a b c : Addr) : It :=
  ⟨fun i H => ∃ xs ys us x y u, SqL K H a xs ∧ SqL K H b ys ∧ SqL K H c us ∧ xs[i]? = some x ∧ ys[i]? = some y ∧ us[i]? = some u,
    fun i H v H' => ∃ p x y u, H p = none ∧ (∀ xs, SqL K H a xs → xs[i]? = some x) ∧ (∀ ys, SqL K H b ys → ys[i]? = some y) ∧ (∀ us, SqL K H c us → us[i]? = some u) ∧ v = .ref p ∧ H' = upd H p (.tup [x, y, u]),
    fun i H => ∃ xs ys us, SqL K H a xs ∧ SqL K H b ys ∧ SqL K H c us ∧ (xs.length ≤ i ∨ ys.length ≤ i ∨ us.length ≤ i)⟩
theorem turn_zip3 {P : Program} {w : World} {K : PySem.W.Frag} {es : List Expr} {k : Nat} {tp : Pos} (z TI TO i1 i2 i3 a b c : Addr) (D : Ap3 z TI TO i1 i2 i3 a b c) :
    Turn P w K (.Tuple es k tp) (It3 K a b c) [z, TI, TO, i1, i2, i3] z (fun i h => IsZip h z TI TO .none ∧ T3 h TI (.ref i1) (.ref i2) (.ref i3) ∧ (∃ u v t, T3 h TO u v t) ∧ h.IsListIter i1 a i ∧ h.IsListIter i2 b i ∧ h.IsListIter i3 c i) where
  mem := by simp
  obj := fun i h st e he => by
    obtain ⟨h1, h2, ⟨u, v, t, h3⟩, ⟨o4, h4, _, d4⟩, ⟨o5, h5, _, d5⟩, ⟨o6, h6, _, d6⟩⟩ := st
    simp only [List.mem_cons, List.not_mem_nil, or_false] at he
    rcases he with rfl | rfl | rfl | rfl | rfl | rfl
    · exact ⟨_, h1, fun v z => by cases z⟩
    · exact ⟨_, h2, fun v z => by cases z⟩
    · exact ⟨_, h3, fun v z => by cases z⟩
    · exact ⟨_, h4, fun v z => by rw [d4] at z; cases z⟩
    · exact ⟨_, h5, fun v z => by rw [d5] at z; cases z⟩
    · exact ⟨_, h6, fun v z => by rw [d6] at z; cases z⟩
  keep := fun i h h' st kk => by
    obtain ⟨h1, h2, ⟨u, v, t, h3⟩, h4, h5, h6⟩ := st
    exact ⟨kk z (by simp) _ h1, kk TI (by simp) _ h2, ⟨u, v, t, kk TO (by simp) _ h3⟩, h4.at fun o q => kk i1 (by simp) o q, h5.at fun o q => kk i2 (by simp) o q, h6.at fun o q => kk i3 (by simp) o q⟩
  item := by
    intro X hP hw hK hc i pins s σ H E I hf st hg
    subst hP hw hK
    obtain ⟨xs, ys, us, x, y, u, hq1, hq2, hq3, hx, hy, hu⟩ := hg
    obtain ⟨its1, r1, p1, z1⟩ := I.list hq1
    obtain ⟨its2, r2, p2, z2⟩ := I.list hq2
    obtain ⟨its3, r3, p3, z3⟩ := I.list hq3
    obtain ⟨u1, hu1, ru1⟩ := r1.get hx
    obtain ⟨u2, hu2, ru2⟩ := r2.get hy
    obtain ⟨u3, hu3, ru3⟩ := r3.get hu
    obtain ⟨h1, h2, ⟨t1, t2, t3, h3⟩, h4, h5, h6⟩ := st
    refine zip3_next D h1 h2 h3 h4 h5 h6 p1.isList p2.isList p3.isList (by simpa using hu1) (by simpa using hu2) (by simpa using hu3) fun h' a1 a2 a3 a4 a5 a6 a7 => ?_
    refine ⟨_, rfl, wpAny_letOwnedTupleGo_zip a1 fun h'' b1 bs => ?_⟩
    have I1 : Inv X pins σ H { s with heap := h'' } := I.turnedN (t' := s.toks) hf fun c o hc q => bs.extBut c o (fun e => hc (by simp [e])) (a7 c o (fun e => hc (by simp [e])) (fun e => hc (by simp [e])) (fun e => hc (by simp [e])) (fun e => hc (by simp [e])) (fun e => hc (by simp [e])) q)
    have zlt : z < s.heap.objs.size := Heap.lt_size h1
    have eT : h''.get? s.heap.objs.size = some { cls := .type "tuple", data := .seq #[u1, u2, u3] } := bs.extBut _ _ (Nat.ne_of_gt zlt) a6
    have nT : H s.heap.objs.size = none := I.hok.fresh (Nat.le_refl _)
    refine ⟨.ref s.heap.objs.size, upd H s.heap.objs.size (.tup [x, y, u]), I.track I1 (Nat.le_refl _) nT ⟨?_, [u1, u2, u3], .cons ru1 (.cons ru2 (.cons ru3 .nil)), ⟨_, eT, rfl, _, rfl⟩⟩, rfl, ⟨_, x, y, u, nT, fun l hl => by rw [I.list_inj hl hq1]; exact hx, fun l hl => by rw [I.list_inj hl hq2]; exact hy, fun l hl => by rw [I.list_inj hl hq3]; exact hu, rfl, rfl⟩, ⟨b1, ?_, ⟨u1, u2, u3, ?_⟩, ?_, ?_, ?_⟩, fun c hc => ?_⟩
    · show 3 ≤ sizeLine
      decide
    · exact bs.extBut _ _ D.a1 (a7 _ _ D.a1 D.b1 D.b2 D.b3 D.b4 h2)
    · exact bs.extBut _ _ D.a2 a2
    · exact a3.at fun o q => bs.extBut _ _ D.a3 q
    · exact a4.at fun o q => bs.extBut _ _ D.a4 q
    · exact a5.at fun o q => bs.extBut _ _ D.a5 q
    · obtain ⟨o, q⟩ : ∃ o, s.heap.get? c = some o := by
        simp only [List.mem_cons, List.not_mem_nil, or_false] at hc
        rcases hc with rfl | rfl | rfl | rfl | rfl | rfl
        · exact ⟨_, h1⟩
        · exact ⟨_, h2⟩
        · exact ⟨_, h3⟩
        · obtain ⟨o, q, _⟩ := h4; exact ⟨o, q⟩
        · obtain ⟨o, q, _⟩ := h5; exact ⟨o, q⟩
        · obtain ⟨o, q, _⟩ := h6; exact ⟨o, q⟩
      rw [upd_ne (Nat.ne_of_lt (Heap.lt_size q))]
      exact (hf c hc).1
  done := by
    intro X hP hw hK hc i pins s σ H E I hf st hg
    subst hP hw hK
    obtain ⟨xs, ys, us, hq1, hq2, hq3, hl⟩ := hg
    obtain ⟨its1, r1, p1, z1⟩ := I.list hq1
    obtain ⟨its2, r2, p2, z2⟩ := I.list hq2
    obtain ⟨its3, r3, p3, z3⟩ := I.list hq3
    obtain ⟨h1, h2, ⟨t1, t2, t3, h3⟩, h4, h5, h6⟩ := st
    have l1 := r1.length
    have l2 := r2.length
    have l3 := r3.length
    refine zip3_stop (show X.A.handled = none from I.ok.hd hc) D h1 h2 h3 h4 h5 h6 p1.isList p2.isList p3.isList ?_ fun h' kk => ⟨rfl, I.turnedN (t' := s.toks) hf fun c o hc q => kk c o (fun e => hc (by simp [e])) (fun e => hc (by simp [e])) (fun e => hc (by simp [e])) (fun e => hc (by simp [e])) (fun e => hc (by simp [e])) q⟩
    rcases hl with hl | hl | hl
    · left
      simp
      omega
    · right; left
      simp
      omega
    · right; right
      simp
      omega
  self := fun _ _ _ _ _ st h => wpAny_pyIter_zip st.1 h
section
variable {X : Cx}
def iZip3 (K : PySem.W.Frag) (ta : TA) : TI := fun σ H R => ta σ H fun vs H1 => ∃ a b c, vs = [.ref a, .ref b, .ref c] ∧ (∃ xs, SqL K H1 a xs) ∧ (∃ ys, SqL K H1 b ys) ∧ (∃ us, SqL K H1 c us) ∧ R (It3 K a b c) H1
theorem pi_zip3 {es : List Expr} {k : Nat} {tp : Pos} {a b c : Expr} {ta : TA} {p pos : Pos} (hg : Gl X "zip") (hm : X.mg "zip" = none) (ha : PA X [a, b, c] ta) (hs : starEach [a, b, c] X.env = (false, eval a X.env) :: starEach [b, c] X.env := by rfl)
    (hpl : (backTo pos (starEach [b, c] X.env)).any (·.1) = false := by rfl) :
    PI X (.Tuple es k tp) (.Call (.Name "zip" p) [a, b, c] [] pos) (iZip3 X.K ta) := by
  intro pins s σ H R I h
  refine Call_ (ld_blt I hg hm boot_zip (PyProof.Rows.callWith_type1 (thn (ha pos pins s σ H _ I h) fun us s1 ⟨vs, H1, I1, r1, q1⟩ => ?_) hs hpl))
  obtain ⟨l1, l2, l3, e, ⟨xs, hq1⟩, ⟨ys, hq2⟩, ⟨us', hq3⟩, q⟩ := q1
  subst e
  obtain ⟨u1, u2, u3, rfl, ru1, ru2, ru3⟩ := r1.three
  cases ru1
  cases ru2
  cases ru3
  obtain ⟨its1, rv1, p1, _⟩ := I1.list hq1
  obtain ⟨its2, rv2, p2, _⟩ := I1.list hq2
  obtain ⟨its3, rv3, p3, _⟩ := I1.list hq3
  have lt1 : l1 < s1.heap.objs.size := by obtain ⟨_, e, _⟩ := p1.isList; exact Heap.lt_size e
  have lt2 : l2 < s1.heap.objs.size := by obtain ⟨_, e, _⟩ := p2.isList; exact Heap.lt_size e
  have lt3 : l3 < s1.heap.objs.size := by obtain ⟨_, e, _⟩ := p3.isList; exact Heap.lt_size e
  refine call_zip3 p1.isList p2.isList p3.isList fun h' a1 a2 a3 a4 a5 a6 a7 => ?_
  refine wpAny_pyIter_zip a1 ?_
  have I2 : Inv X pins σ H1 { s1 with heap := h' } := I1.kept (t' := s1.toks) a7
  refine ⟨_, [s1.heap.objs.size + 5, s1.heap.objs.size + 3, s1.heap.objs.size + 4, s1.heap.objs.size, s1.heap.objs.size + 1, s1.heap.objs.size + 2], _, _, H1, rfl, I2, turn_zip3 _ _ _ _ _ _ l1 l2 l3 (ap3_new lt1 lt2 lt3), ⟨a1, a2, ⟨_, _, _, a3⟩, a4, a5, a6⟩, fun c hc => ?_, q⟩
  have hc' : s1.heap.objs.size ≤ c := by
    simp only [List.mem_cons, List.not_mem_nil, or_false] at hc
    rcases hc with rfl | rfl | rfl | rfl | rfl | rfl
    · exact Nat.le_add_right _ _
    · exact Nat.le_add_right _ _
    · exact Nat.le_add_right _ _
    · exact Nat.le_refl _
    · exact Nat.le_add_right _ _
    · exact Nat.le_add_right _ _
  exact I1.fpOk hc' (I1.hok.fresh hc')
end
theorem for_zip3 {K : PySem.W.Frag} {a b c : Addr} {xs ys us : List V} {g : TG} {tb : TS} {D : Ends} {σ : St} {H : Hp} (n : Nat) (hn : xs.length = n ∧ ys.length = n ∧ us.length = n) (Pv : Nat → St → Hp → Prop) (h0 : Pv 0 σ H) (hl : ∀ i σ H, Pv i σ H → SqL K H a xs ∧ SqL K H b ys ∧ SqL K H c us)
    (hs : ∀ i x y u σ H p, xs[i]? = some x → ys[i]? = some y → us[i]? = some u → Pv i σ H → H p = none → g (.ref p) σ (upd H p (.tup [x, y, u])) fun σ2 H2 => tb { D with nx := Pv (i + 1), ct := Pv (i + 1), bk := D.nx } σ2 H2) (hd : ∀ σ H, Pv n σ H → D.nx σ H) :
    ∃ W : Nat → Nat → St → Hp → Prop, (∃ m, W 0 m σ H) ∧ ∀ i m σ H, W i m σ H →
      ((It3 K a b c).stop i H ∧ D.nx σ H) ∨ ((It3 K a b c).go i H ∧ ∃ N : St → Hp → Prop, (∀ σ' H', N σ' H' → ∃ m', m' < m ∧ W (i + 1) m' σ' H') ∧ ∀ x H', (It3 K a b c).yld i H x H' → g x σ H' fun σ2 H2 => tb { D with nx := N, ct := N, bk := D.nx } σ2 H2) := by
  refine ⟨fun i m σ H => m = n - i ∧ i ≤ n ∧ Pv i σ H, ⟨n, by simp, Nat.zero_le _, h0⟩, ?_⟩
  rintro i m σ H ⟨rfl, hi, p⟩
  obtain ⟨q1, q2, q3⟩ := hl _ _ H p
  by_cases hlt : i < n
  · have h1 : i < xs.length := by omega
    have h2 : i < ys.length := by omega
    have h3 : i < us.length := by omega
    refine .inr ⟨⟨xs, ys, us, xs[i], ys[i], us[i], q1, q2, q3, by simp [h1], by simp [h2], by simp [h3]⟩, Pv (i + 1), fun σ' H' p' => ⟨n - (i + 1), by omega, rfl, hlt, p'⟩, fun v H' y => ?_⟩
    obtain ⟨r, x, z, u, hn', e1, e2, e3, rfl, rfl⟩ := y
    exact hs i x z u σ H r (e1 xs q1) (e2 ys q2) (e3 us q3) p hn'
  · have e : i = n := by omega
    subst e
    exact .inl ⟨⟨xs, ys, us, q1, q2, q3, by omega⟩, hd σ H p⟩
end L2
namespace L2
open PySem PySem.Spec PyProof.Rows
theorem relabel_scope (sc : Scope) {e f : Env} (h : e.scope = f.scope) : relabel sc e = relabel sc f := by
  unfold relabel Env.kindOf
  rw [h]
theorem caps_nest {X : Cx} {N : List Str} {sc sc2 : Scope} {fr2 : List (Str × Nat)} {s : Shared} {H : Hp} {fp : List Addr} (scX : Scope) (h1 : X.env.scope = scX)
    (hcell : ∀ y ∈ sc2.names, y.2 ≠ .cell) (hfree : ∀ y ∈ sc2.names, y.2 = .free → (y.1, NameKind.free) ∈ sc.names)
    (hcap : ∀ p ∈ fr2, N[p.2]? = some p.1 ∧ (relabel sc { scope := scX, locals := 0, globals := 0, cells := [] }).names.lookup p.1 = some .cell ∧
      (relabel sc2 { scope := relabel sc { scope := scX, locals := 0, globals := 0, cells := [] }, locals := 0, globals := 0, cells := [] }).names.lookup p.1 = some .cell) :
    Caps (compCx X N sc (clo X.env sc.names []) s H fp) sc2 (clo (compCx X N sc (clo X.env sc.names []) s H fp).env sc2.names []) fr2 := by
  have eS : (compCx X N sc (clo X.env sc.names []) s H fp).env.scope = relabel sc { scope := scX, locals := 0, globals := 0, cells := [] } := relabel_scope sc h1
  have hX : ∀ y ∈ sc2.names, y.2 = .free → ∃ c, (compCx X N sc (clo X.env sc.names []) s H fp).env.cells.lookup y.1 = some c := fun y hy e => clo_has (.inl (hfree y hy e))
  refine ⟨closure_clo hX, clo_sub hX (fun x c e => by cases e), fun x e => ?_, fun p hp => ?_⟩
  · refine clo_has (.inl ?_)
    rcases e with e | e <;> obtain ⟨y, hy, rfl, z⟩ := relabel_at e <;> rcases z with z | z
    · exact absurd z (hcell y hy)
    · rw [← z]; exact hy
    · rw [← z]; exact hy
    · rw [← z]; exact hy
  · obtain ⟨a, b, c⟩ := hcap p hp
    have k : (compCx X N sc (clo X.env sc.names []) s H fp).env.kindOf p.1 = some .cell := by
      show (compCx X N sc (clo X.env sc.names []) s H fp).env.scope.names.lookup p.1 = some .cell
      rw [eS]; exact b
    refine ⟨a, by rw [k]; decide, .inr (.inl k), .inl ?_⟩
    rw [relabel_scope sc2 (f := { scope := relabel sc { scope := scX, locals := 0, globals := 0, cells := [] }, locals := 0, globals := 0, cells := [] }) eS]
    exact c
theorem call_lstAK {X : Cx} {K : PySem.W.Frag} (h : X.K = K) : CallR X (.type "list") (rLstA K) := h ▸ call_lstA
theorem call_tupAK {X : Cx} {K : PySem.W.Frag} (h : X.K = K) : CallR X (.type "tuple") (rTupA K) := h ▸ call_tupA
theorem pi_listK {X : Cx} {K : PySem.W.Frag} {tg l : Expr} {tl : TE} (h : X.K = K) (hl : PE X l tl) : PI X tg l (iList K tl) := h ▸ pi_list hl
end L2
namespace L2
open PySem PySem.Spec PyProof.Rows
theorem ints_items {ns : List Int} : ∀ {us : List Value}, Vals (ns.map V.int) us → ∃ xs : List (Int × Tok), us = xs.map (fun p => Value.int p.1 p.2) ∧ xs.map (·.1) = ns := by
  induction ns with
  | nil => intro us r; cases r; exact ⟨[], rfl, rfl⟩
  | cons n ns ih =>
    intro us r
    cases r with
    | cons r1 r2 =>
      obtain ⟨t, rfl⟩ := r1
      obtain ⟨xs, h1, h2⟩ := ih r2
      exact ⟨(n, t) :: xs, by rw [h1]; rfl, by rw [List.map_cons, h2]⟩
section
variable {X : Cx}
def rMin1 (K : PySem.W.Frag) : List V → Hp → VK → Prop := fun xs H Q => ∃ a ns, xs = [.ref a] ∧ SqL K H a (List.map V.int ns) ∧ 0 < ns.length ∧ ∀ M, M ∈ ns → (∀ k ∈ ns, M ≤ k) → Q (.int M) H
theorem call_min1 (hc : X.calm = true) : CallR X (.builtin "min") (rMin1 X.K) := by
  intro pins s σ H xs us Q I r h
  obtain ⟨a, ns, rfl, hq, hn, q⟩ := h
  obtain ⟨u, rfl, ru⟩ := vals1 r
  cases ru
  obtain ⟨its, rv, p, hz⟩ := I.list hq
  obtain ⟨ps, e1, e2⟩ := ints_items rv
  have hsz : ps.length = ns.length := by rw [← e2, List.length_map]
  have hI : s.heap.IsList a (intItems ps.toArray) := by
    have : intItems ps.toArray = its.toArray := by unfold intItems; rw [e1]; simp
    rw [this]; exact p.isList
  refine min_intList (I.ok.hd hc) hI (by rw [List.size_toArray]; omega) fun v h' tk hv hk => ?_
  obtain ⟨t, rfl⟩ := intItems_at hv
  obtain ⟨h1, h2⟩ := argBest_lt (numAt ps.toArray) (ps.toArray.size - 1)
  have en : ∀ j, numAt ps.toArray j = ns.getD j 0 := fun j => by rw [numAt_eq]; simp only [List.toList_toArray]; rw [e2]
  have sz : ps.toArray.size = ns.length := by rw [List.size_toArray]; exact hsz
  refine ⟨.int (numAt ps.toArray (argBest (fun i j => decide (numAt ps.toArray i < numAt ps.toArray j)) (ps.toArray.size - 1))), H, I.kept hk, ⟨t, rfl⟩, q _ ?_ fun k hk' => ?_⟩
  · rw [en]
    have hlt : argBest (fun i j => decide (numAt ps.toArray i < numAt ps.toArray j)) (ps.toArray.size - 1) < ns.length := by omega
    rw [List.getD_eq_getElem?_getD, List.getElem?_eq_getElem hlt]
    exact List.getElem_mem hlt
  · obtain ⟨j, hj, rfl⟩ := List.mem_iff_getElem.mp hk'
    have := h2 j (by omega)
    rw [en j] at this
    rw [List.getD_eq_getElem?_getD, List.getElem?_eq_getElem hj] at this
    exact this
end
end L2
namespace L2
open PySem PySem.Spec PyProof.Rows
def del (H : Hp) (p : Addr) : Hp := fun b => if b = p then none else H b
theorem del_at {H : Hp} {p : Addr} : del H p p = none := if_pos rfl
theorem del_ne {H : Hp} {p b : Addr} (h : b ≠ p) : del H p b = H b := if_neg h
theorem del_free {H : Hp} {p b : Addr} (h : H b = none) : del H p b = none := by
  by_cases e : b = p
  · subst e; exact del_at
  · rw [del_ne e]; exact h
theorem del_same {H : Hp} {p : Addr} : Same (del H p) H := fun b u q => by
  by_cases e : b = p
  · subst e; rw [del_at] at q; cases q
  · rw [del_ne e] at q; exact q
theorem Same.cut {H0 H : Hp} {p : Addr} (s : Same H0 H) (h : H0 p = none) : Same H0 (del H p) := fun b u q => by
  rw [del_ne (ne_of_none q h)]
  exact s b u q
theorem Same.cuts {H0 H : Hp} {p : Addr} (s : Same H0 H) : Same (del H0 p) (del H p) := fun b u q => by
  by_cases e : b = p
  · subst e; rw [del_at] at q; cases q
  · rw [del_ne e] at q ⊢; exact s b u q
theorem itT {c : Bool} {A B : Prop} (h : c = true) (a : A) : if c = true then A else B := by rw [if_pos h]; exact a
theorem itF {c : Bool} {A B : Prop} (h : c = false) (b : B) : if c = true then A else B := by rw [if_neg (by rw [h]; decide)]; exact b
theorem szOk {n : Nat} (h : Nat.ble n 1000 = true) : n ≤ sizeLine := Nat.le_of_lt (small1000 (Nat.le_of_ble_eq_true h))
def IsT (z : Str) : Prop := ∀ c ∈ z.cps.toList, c ≤ 122
theorem isT_ok {z : Str} (h : IsT z) : PyData.strOk z = true := by
  unfold PyData.strOk
  rw [← Array.all_toList, List.all_eq_true]
  intro c hc
  have := h c hc
  exact decide_eq_true (by omega)
theorem isT_app {x y : Str} (hx : IsT x) (hy : IsT y) : IsT (x ++ y) := fun c hc => by
  have e : (x ++ y).cps.toList = x.cps.toList ++ y.cps.toList := by
    show (x.cps ++ y.cps).toList = _
    simp
  rw [e] at hc
  rcases List.mem_append.mp hc with q | q
  · exact hx c q
  · exact hy c q
theorem isT_sjoin {sep : Str} (hs : IsT sep) : ∀ {ys : List Str}, (∀ y ∈ ys, IsT y) → IsT (Str.join sep ys)
  | [], _ => fun _ z => nomatch z
  | [x], h => h x (by simp)
  | x :: y :: r, h => by
    show IsT (x ++ sep ++ Str.join sep (y :: r))
    exact isT_app (isT_app (h x (by simp)) hs) (isT_sjoin hs fun z hz => h z (List.mem_cons_of_mem _ hz))
theorem isT_join {sep : Str} (hs : IsT sep) {ys : List Str} (h : ∀ y ∈ ys, IsT y) : IsT (Txt.join sep ys) := by
  show IsT (Builtin.Str.glued sep ys)
  rw [StrLaws.glued_eq_join]
  exact isT_sjoin hs h
inductive Cg where
  | keep (n : Nat)
  | out (n : Nat)
  | put (ts : List Str)
def Cg.used : Cg → Nat
  | .keep n => n
  | .out n => n
  | .put _ => 0
def Cg.made : Cg → List Str → List Str
  | .keep n, r => r.take n
  | .out _, _ => []
  | .put ts, _ => ts
def Cg.cost : Cg → Option Int
  | .keep _ => none
  | .out n => some n
  | .put ts => some ts.length
def tot (c : List Cg) : Nat := (c.map Cg.used).sum
def mk : List Cg → List Str → List Str
  | [], _ => []
  | x :: c, r => x.made r ++ mk c (r.drop x.used)
def csts (c : List Cg) : List Int := c.filterMap Cg.cost
theorem tot_snoc (c : List Cg) (x : Cg) : tot (c ++ [x]) = tot c + x.used := by
  unfold tot
  rw [List.map_append, List.sum_append]
  simp
theorem mk_snoc (x : Cg) : ∀ (c : List Cg) (r : List Str), mk (c ++ [x]) r = mk c r ++ x.made (r.drop (tot c))
  | [], r => by
    show x.made r ++ [] = [] ++ x.made (r.drop 0)
    simp
  | y :: c, r => by
    show y.made r ++ mk (c ++ [x]) (r.drop y.used) = y.made r ++ mk c (r.drop y.used) ++ x.made (r.drop (tot (y :: c)))
    rw [mk_snoc x c, List.drop_drop, List.append_assoc]
    have e : tot (y :: c) = y.used + tot c := by unfold tot; rw [List.map_cons, List.sum_cons]
    rw [e]
theorem csts_snoc (c : List Cg) (x : Cg) : csts (c ++ [x]) = csts c ++ (x.cost.toList) := by
  unfold csts
  rw [List.filterMap_append]
  cases h : x.cost <;> simp [List.filterMap_cons, h]
theorem take_snoc {α : Type} {xs : List α} {j : Nat} {x : α} (h : xs[j]? = some x) : xs.take (j + 1) = xs.take j ++ [x] := by
  rw [List.take_succ, h]
  rfl
theorem tot_take (c : List Cg) : ∀ j, tot (c.take j) ≤ tot c := fun j => by
  have e : tot c = tot (c.take j) + tot (c.drop j) := by
    unfold tot
    rw [← List.sum_append, ← List.map_append, List.take_append_drop]
  omega
def CgAt (H : Hp) (v : V) : Cg → Prop
  | .keep n => ∃ q, v = .ref q ∧ H q = some (.tup [.str "keep", .int (n : Int)])
  | .out n => ∃ q, v = .ref q ∧ H q = some (.tup [.str "out", .int (n : Int)])
  | .put ts => ∃ q l, v = .ref q ∧ H q = some (.tup [.str "put", .ref l]) ∧ H l = some (.lst (ts.map V.str))
theorem CgAt.same {H H' : Hp} (s : Same H H') {v : V} : ∀ {x : Cg}, CgAt H v x → CgAt H' v x
  | .keep _, ⟨q, e, h⟩ => ⟨q, e, s _ _ h⟩
  | .out _, ⟨q, e, h⟩ => ⟨q, e, s _ _ h⟩
  | .put _, ⟨q, l, e, h, hl⟩ => ⟨q, l, e, s _ _ h, s _ _ hl⟩
structure CgsAt (H : Hp) (vs : List V) (c : List Cg) : Prop where
  len : vs.length = c.length
  at' : ∀ (i : Nat) v x, vs[i]? = some v → c[i]? = some x → CgAt H v x
theorem CgsAt.same {H H' : Hp} (s : Same H H') {vs : List V} {c : List Cg} (h : CgsAt H vs c) : CgsAt H' vs c := ⟨h.len, fun i v x e1 e2 => (h.at' i v x e1 e2).same s⟩
theorem CgsAt.nil {H : Hp} : CgsAt H [] [] := ⟨rfl, fun i v x e1 e2 => by cases e1⟩
theorem CgsAt.snoc {H : Hp} {vs : List V} {c : List Cg} {v : V} {x : Cg} (h : CgsAt H vs c) (hv : CgAt H v x) : CgsAt H (vs ++ [v]) (c ++ [x]) := by
  refine ⟨by rw [List.length_append, List.length_append, h.len]; rfl, fun i w y e1 e2 => ?_⟩
  by_cases hi : i < vs.length
  · rw [List.getElem?_append_left hi] at e1
    rw [List.getElem?_append_left (by rw [← h.len]; exact hi)] at e2
    exact h.at' i w y e1 e2
  · rw [List.getElem?_append_right (by omega)] at e1
    rw [List.getElem?_append_right (by rw [← h.len]; omega), ← h.len] at e2
    cases hk : i - vs.length with
    | zero => rw [hk] at e1 e2; cases e1; cases e2; exact hv
    | succ k => rw [hk] at e1; cases e1
theorem CgsAt.init {H : Hp} {vs : List V} {c : List Cg} {x : Cg} (h : CgsAt H vs (c ++ [x])) : CgsAt H vs.dropLast c ∧ ∃ v, vs[vs.length - 1]? = some v ∧ CgAt H v x := by
  have hl := h.len
  rw [List.length_append, List.length_singleton] at hl
  refine ⟨⟨by rw [List.length_dropLast]; omega, fun i v y e1 e2 => ?_⟩, ?_⟩
  · have hi : i < c.length := (List.getElem?_eq_some_iff.mp e2).1
    refine h.at' i v y ?_ (by rw [List.getElem?_append_left hi]; exact e2)
    rw [List.getElem?_dropLast] at e1
    split at e1
    · exact e1
    · cases e1
  · have hv : vs.length - 1 < vs.length := by omega
    refine ⟨vs[vs.length - 1], List.getElem?_eq_getElem hv, h.at' _ _ _ (List.getElem?_eq_getElem hv) ?_⟩
    rw [show vs.length - 1 = c.length from by omega, List.getElem?_append_right (Nat.le_refl _)]
    simp
theorem CgsAt.step {H : Hp} {vs : List V} {c : List Cg} (h : CgsAt H vs c) {i : Nat} {v : V} (e : vs[i]? = some v) : ∃ x, c[i]? = some x ∧ CgAt H v x := by
  have hi : i < c.length := by have := (List.getElem?_eq_some_iff.mp e).1; rw [← h.len]; exact this
  exact ⟨c[i], List.getElem?_eq_getElem hi, h.at' i v _ e (List.getElem?_eq_getElem hi)⟩
section
variable {K : PySem.W.Frag} {H : Hp}
theorem dvs_strs : ∀ (ts : List Str), DVs K H (ts.map V.str) (ts.map PyData.str)
  | [] => .nil
  | t :: ts => .cons (.str t) (dvs_strs ts)
theorem dv_strs {p : Addr} {ts : List Str} (h : SqL K H p (ts.map V.str)) : DV K H (.ref p) (.list (ts.map PyData.str)) := .lst h (dvs_strs ts)
theorem lay_strs : ∀ {ts : List Str}, (∀ t ∈ ts, IsT t) → PyData.canLayAll0 (ts.map PyData.str) = true
  | [], _ => rfl
  | t :: ts, h => by
    show (PyData.strOk t && PyData.canLayAll0 (ts.map PyData.str)) = true
    rw [isT_ok (h t (by simp)), lay_strs fun x hx => h x (List.mem_cons_of_mem _ hx)]
    rfl
theorem dep_strs : ∀ (ts : List Str), PyData.depthAll (ts.map PyData.str) = 0
  | [] => rfl
  | t :: ts => by
    show max 0 (PyData.depthAll (ts.map PyData.str)) = 0
    rw [dep_strs ts]
    rfl
end
theorem cut_strs (ts : List Str) (a n : Nat) : cutV (ts.map V.str) (some (a : Int)) (some ((a : Int) + (n : Int))) = ((ts.drop a).take n).map V.str := by
  unfold cutV
  rw [show ((a : Int) + (n : Int)) = ((a + n : Nat) : Int) from by omega, HT.sIx_nat, HT.sIx_nat, List.length_map, List.map_take, List.map_drop]
  by_cases h : a ≤ ts.length
  · rw [Nat.min_eq_left h]
    by_cases h2 : a + n ≤ ts.length
    · rw [Nat.min_eq_left h2, show a + n - a = n from by omega]
    · rw [Nat.min_eq_right (by omega), List.take_of_length_le (by simp), List.take_of_length_le (by simp; omega)]
  · rw [Nat.min_eq_right (by omega), Nat.min_eq_right (by omega), List.drop_of_length_le (i := ts.length) (by simp), List.drop_of_length_le (i := a) (by simp; omega)]
    simp
theorem cut_to (ts : List Str) (n : Nat) : cutV (ts.map V.str) none (some (n : Int)) = (ts.take n).map V.str := by
  unfold cutV
  rw [HT.sIx_nat, HT.sIx_none, List.length_map, List.map_take, List.drop_zero]
  by_cases h : n ≤ ts.length
  · rw [Nat.min_eq_left h]; rfl
  · rw [Nat.min_eq_right (by omega), List.take_of_length_le (by simp), List.take_of_length_le (by simp; omega)]
theorem cut_from (ts : List Str) (n : Nat) : cutV (ts.map V.str) (some (n : Int)) none = (ts.drop n).map V.str := by
  unfold cutV
  rw [HT.sIx_nat, HT.sIx_none, List.length_map, List.map_drop]
  by_cases h : n ≤ ts.length
  · rw [Nat.min_eq_left h, List.take_of_length_le (by simp)]
  · rw [Nat.min_eq_right (by omega), List.drop_of_length_le (i := ts.length) (by simp), List.drop_of_length_le (i := n) (by simp; omega)]
    simp
theorem flat_strs (ws : List Str) : (ws.map V.str).all flatV = true := by
  rw [List.all_map]
  exact List.all_eq_true.mpr fun _ _ => rfl
theorem inV_strs (w : Str) (ws : List Str) : inV (.str w) (ws.map V.str) = decide (w ∈ ws) := by
  unfold inV
  induction ws with
  | nil => rfl
  | cons x ws ih =>
    rw [List.map_cons, List.any_cons, ih]
    show (x == w || decide (w ∈ ws)) = decide (w ∈ x :: ws)
    by_cases e : x = w
    · subst e; simp
    · have e' : ¬ w = x := fun z => e z.symm
      simp [e, e']
theorem atI_mem {α : Type} {xs : List α} {i : Int} {v : α} (h : atI xs i = some v) : v ∈ xs := by
  unfold atI at h
  cases e : ixN xs.length i with
  | none => rw [e] at h; cases h
  | some j => rw [e] at h; exact List.mem_of_getElem? h
theorem signs_all : ∀ c ∈ ("abcdefghijklmnopqrstuvwxyz .,*#_" : Str).cps.toList, c ≤ 122 := by decide +kernel
theorem isT_one {c : Nat} (h : c ≤ 122) : IsT ⟨#[c]⟩ := fun d hd => by
  have : d = c := by simpa using hd
  omega
end L2
namespace L2
section
variable {α : Type} [DecidableEq α]
def lrow (f : List α → Nat) (x : α) : List α → Nat
  | [] => 0
  | y :: b => if x = y then f b + 1 else max (f (y :: b)) (lrow f x b)
def lcs : List α → List α → Nat
  | [] => fun _ => 0
  | x :: a => lrow (lcs a) x
theorem lcs_nil (b : List α) : lcs [] b = 0 := rfl
theorem lcs_nil2 : ∀ a : List α, lcs a [] = 0
  | [] => rfl
  | _ :: _ => rfl
theorem lcs_cc (x y : α) (a b : List α) : lcs (x :: a) (y :: b) = if x = y then lcs a b + 1 else max (lcs a (y :: b)) (lcs (x :: a) b) := rfl
theorem sub_cons {s a : List α} {x : α} (h : s.Sublist (x :: a)) : s.Sublist a ∨ ∃ r, s = x :: r ∧ r.Sublist a := List.sublist_cons_iff.mp h
theorem sub_tail {z x : α} {s a : List α} (h : (z :: s).Sublist (x :: a)) : s.Sublist a := by
  rcases sub_cons h with h | ⟨r, e, h⟩
  · exact (List.sublist_cons_self z s).trans h
  · cases e; exact h
theorem lcs_ge : ∀ {a b s : List α}, s.Sublist a → s.Sublist b → s.length ≤ lcs a b
  | [], _, s, h, _ => by rw [List.sublist_nil.mp h]; exact Nat.zero_le _
  | _ :: _, [], s, _, h => by rw [List.sublist_nil.mp h]; exact Nat.zero_le _
  | x :: a, y :: b, s, h1, h2 => by
    rw [lcs_cc]
    by_cases e : x = y
    · rw [if_pos e]
      cases s with
      | nil => exact Nat.zero_le _
      | cons z s => exact Nat.succ_le_succ (lcs_ge (sub_tail h1) (sub_tail h2))
    · rw [if_neg e]
      rcases sub_cons h1 with q1 | ⟨r, rfl, q1⟩
      · exact Nat.le_trans (lcs_ge q1 h2) (Nat.le_max_left _ _)
      · rcases sub_cons h2 with q2 | ⟨r2, e2, q2⟩
        · exact Nat.le_trans (lcs_ge h1 q2) (Nat.le_max_right _ _)
        · exact absurd (List.cons.inj e2).1 e
termination_by a b => a.length + b.length
theorem lcs_ex : ∀ (a b : List α), ∃ s : List α, s.Sublist a ∧ s.Sublist b ∧ s.length = lcs a b
  | [], b => ⟨[], List.nil_sublist _, List.nil_sublist _, rfl⟩
  | x :: a, [] => ⟨[], List.nil_sublist _, List.nil_sublist _, rfl⟩
  | x :: a, y :: b => by
    rw [lcs_cc]
    by_cases e : x = y
    · rw [if_pos e]
      obtain ⟨s, h1, h2, h3⟩ := lcs_ex a b
      subst e
      exact ⟨x :: s, h1.cons₂ x, h2.cons₂ x, by rw [List.length_cons, h3]⟩
    · rw [if_neg e]
      obtain ⟨s, h1, h2, h3⟩ := lcs_ex a (y :: b)
      obtain ⟨t, k1, k2, k3⟩ := lcs_ex (x :: a) b
      by_cases hm : lcs (x :: a) b ≤ lcs a (y :: b)
      · exact ⟨s, h1.cons x, h2, by rw [h3]; omega⟩
      · exact ⟨t, k1, k2.cons y, by rw [k3]; omega⟩
termination_by a b => a.length + b.length
theorem lcs_symm (a b : List α) : lcs a b = lcs b a := by
  obtain ⟨s, h1, h2, h3⟩ := lcs_ex a b
  obtain ⟨t, k1, k2, k3⟩ := lcs_ex b a
  have := lcs_ge h2 h1
  have := lcs_ge k2 k1
  omega
theorem lcs_rev (a b : List α) : lcs a.reverse b.reverse = lcs a b := by
  obtain ⟨s, h1, h2, h3⟩ := lcs_ex a b
  obtain ⟨t, k1, k2, k3⟩ := lcs_ex a.reverse b.reverse
  have q1 := lcs_ge (List.reverse_sublist.mpr h1) (List.reverse_sublist.mpr h2)
  have q2 := lcs_ge (a := a) (b := b) (s := t.reverse) (by rw [← List.reverse_sublist, List.reverse_reverse]; exact k1) (by rw [← List.reverse_sublist, List.reverse_reverse]; exact k2)
  rw [List.length_reverse] at q1 q2
  omega
theorem lcs_le (a b : List α) : lcs a b ≤ a.length ∧ lcs a b ≤ b.length := by
  obtain ⟨s, h1, h2, h3⟩ := lcs_ex a b
  have := h1.length_le
  have := h2.length_le
  omega
theorem lcs_more (x : α) (a b : List α) : lcs a b ≤ lcs (x :: a) b ∧ lcs (x :: a) b ≤ lcs a b + 1 := by
  obtain ⟨s, h1, h2, h3⟩ := lcs_ex a b
  obtain ⟨t, k1, k2, k3⟩ := lcs_ex (x :: a) b
  have q1 := lcs_ge (h1.cons x) h2
  refine ⟨by omega, ?_⟩
  rcases sub_cons k1 with k | ⟨r, rfl, k⟩
  · have := lcs_ge k k2; omega
  · have := lcs_ge k ((List.sublist_cons_self x r).trans k2)
    rw [List.length_cons] at k3
    omega
theorem lcs_more2 (y : α) (a b : List α) : lcs a b ≤ lcs a (y :: b) ∧ lcs a (y :: b) ≤ lcs a b + 1 := by
  rw [lcs_symm a b, lcs_symm a (y :: b)]
  exact lcs_more y b a
def dI (a b : List α) : Int := (a.length : Int) + (b.length : Int) - 2 * (lcs a b : Int)
theorem dI_nil (b : List α) : dI [] b = b.length := by unfold dI; rw [lcs_nil, List.length_nil]; omega
theorem dI_nil2 (a : List α) : dI a [] = a.length := by unfold dI; rw [lcs_nil2, List.length_nil]; omega
theorem dI_eq (x : α) (a b : List α) : dI (x :: a) (x :: b) = dI a b := by
  unfold dI
  rw [lcs_cc, if_pos rfl, List.length_cons, List.length_cons]
  omega
theorem dI_ne {x y : α} (h : x ≠ y) (a b : List α) : dI (x :: a) (y :: b) = 1 + (if dI (x :: a) b < dI a (y :: b) then dI (x :: a) b else dI a (y :: b)) := by
  unfold dI
  rw [lcs_cc, if_neg h, List.length_cons, List.length_cons]
  split <;> omega
theorem dI_more (x : α) (a b : List α) : -1 ≤ dI a b - dI (x :: a) b ∧ dI a b - dI (x :: a) b ≤ 1 := by
  have := lcs_more x a b
  unfold dI
  rw [List.length_cons]
  omega
theorem dI_more2 (y : α) (a b : List α) : -1 ≤ dI a b - dI a (y :: b) ∧ dI a b - dI a (y :: b) ≤ 1 := by
  have := lcs_more2 y a b
  unfold dI
  rw [List.length_cons]
  omega
theorem dI_zero {a : List α} : dI a a = 0 := by
  induction a with
  | nil => rfl
  | cons x a ih => rw [dI_eq, ih]
end
end L2
namespace L2
open PySem PySem.Spec PyProof.Rows
theorem big6000 {n : Nat} (h : n ≤ 6000) : n ≤ sizeLine := Nat.le_trans h (by decide)
theorem small6000 {n : Nat} (h : n ≤ 6000) : n < sizeLine := Nat.lt_of_le_of_lt h (by decide)
theorem atI_end {α : Type} {xs : List α} {v : α} {n : Nat} (hl : xs.length = n + 1) (h : xs[n]? = some v) : atI xs (-1) = some v := by
  have e : ixN xs.length (-1) = some n := by
    unfold ixN
    rw [if_neg (by omega), if_pos (by omega)]
    congr 1
    omega
  unfold atI; rw [e]; exact h
theorem map_range_get {β : Type} (f : Nat → β) {n j : Nat} (h : j < n) : ((List.range n).map f)[j]? = some (f j) := by
  rw [List.getElem?_map, List.getElem?_range h]
  rfl
theorem map_range_snoc {β : Type} (f : Nat → β) (n : Nat) : (List.range (n + 1)).map f = (List.range n).map f ++ [f n] := by
  rw [List.range_succ, List.map_append]
  rfl
def rowV (a ts : List Str) : List V := (List.range (ts.length + 1)).map fun (j : Nat) => V.int (dI a (ts.drop j))
def rowR (a ts : List Str) (k : Nat) : List V := (List.range (k + 1)).map fun (j : Nat) => V.int (dI a (ts.drop (ts.length - j)))
theorem rowV_len (a ts : List Str) : (rowV a ts).length = ts.length + 1 := by unfold rowV; rw [List.length_map, List.length_range]
theorem rowR_len (a ts : List Str) (k : Nat) : (rowR a ts k).length = k + 1 := by unfold rowR; rw [List.length_map, List.length_range]
theorem rowV_at (a ts : List Str) {j : Nat} (h : j ≤ ts.length) : (rowV a ts)[j]? = some (V.int (dI a (ts.drop j))) := by
  unfold rowV
  exact map_range_get (fun j => V.int (dI a (ts.drop j))) (Nat.lt_succ_of_le h)
theorem rowR_at (a ts : List Str) {j k : Nat} (h : j ≤ k) : (rowR a ts k)[j]? = some (V.int (dI a (ts.drop (ts.length - j)))) := by
  unfold rowR
  exact map_range_get (fun j => V.int (dI a (ts.drop (ts.length - j)))) (Nat.lt_succ_of_le h)
theorem rowR_zero (a ts : List Str) : rowR a ts 0 = [V.int (a.length : Int)] := by
  show [V.int (dI a (ts.drop (ts.length - 0)))] = _
  rw [Nat.sub_zero, List.drop_length, dI_nil2]
theorem rowR_snoc (a ts : List Str) (k : Nat) : rowR a ts (k + 1) = rowR a ts k ++ [V.int (dI a (ts.drop (ts.length - (k + 1))))] := by
  unfold rowR
  exact map_range_snoc (fun j => V.int (dI a (ts.drop (ts.length - j)))) (k + 1)
theorem rowR_rev (a ts : List Str) : (rowR a ts ts.length).reverse = rowV a ts := by
  apply List.ext_getElem?
  intro j
  by_cases h : j ≤ ts.length
  · rw [rowV_at a ts h, List.getElem?_reverse (by rw [rowR_len]; omega), rowR_len, show ts.length + 1 - 1 - j = ts.length - j from by omega, rowR_at a ts (by omega), show ts.length - (ts.length - j) = j from by omega]
  · rw [List.getElem?_eq_none (by rw [List.length_reverse, rowR_len]; omega), List.getElem?_eq_none (by rw [rowV_len]; omega)]
theorem rowV_nil (ts : List Str) : downV (ts.length : Int) (ts.length + 1) = rowV [] ts := by
  unfold downV rowV
  apply List.map_congr_left
  intro j hj
  have := List.mem_range.mp hj
  rw [dI_nil, List.length_drop]
  congr 1
  omega
theorem drop_at {ts : List Str} {j : Nat} {y : Str} (h : ts[j]? = some y) : ts.drop j = y :: ts.drop (j + 1) := by
  obtain ⟨hj, e⟩ := List.getElem?_eq_some_iff.mp h
  rw [List.drop_eq_getElem_cons hj, e]
theorem strs_at {ts : List Str} {j : Nat} {y : Str} (h : ts[j]? = some y) : atI (ts.map V.str) (j : Int) = some (V.str y) := atI_nat (by rw [List.getElem?_map, h]; rfl)
theorem get_of_lt {α : Type} {ts : List α} {j : Nat} (h : j < ts.length) : ∃ y, ts[j]? = some y := ⟨ts[j], List.getElem?_eq_getElem h⟩
def lrowV (c ts : List Str) (k : Nat) : List V := (List.range (k + 1)).map fun (j : Nat) => V.int (lcs c (ts.take j).reverse : Nat)
theorem lrowV_len (c ts : List Str) (k : Nat) : (lrowV c ts k).length = k + 1 := by unfold lrowV; rw [List.length_map, List.length_range]
theorem lrowV_at (c ts : List Str) {j k : Nat} (h : j ≤ k) : (lrowV c ts k)[j]? = some (V.int (lcs c (ts.take j).reverse : Nat)) := by
  unfold lrowV
  exact map_range_get (fun j => V.int (lcs c (ts.take j).reverse : Nat)) (Nat.lt_succ_of_le h)
theorem lrowV_snoc (c ts : List Str) (k : Nat) : lrowV c ts (k + 1) = lrowV c ts k ++ [V.int (lcs c (ts.take (k + 1)).reverse : Nat)] := by
  unfold lrowV
  exact map_range_snoc (fun j => V.int (lcs c (ts.take j).reverse : Nat)) (k + 1)
theorem rev_take {ts : List Str} {j : Nat} {y : Str} (h : ts[j]? = some y) : (ts.take (j + 1)).reverse = y :: (ts.take j).reverse := by
  rw [take_snoc h, List.reverse_append]
  rfl
theorem lrowV_nil (ts : List Str) (k : Nat) : lrowV [] ts k = (List.replicate (k + 1) [V.int 0]).flatten := by
  apply List.ext_getElem?
  intro j
  have hl : (List.replicate (k + 1) [V.int 0]).flatten = List.replicate (k + 1) (V.int 0) := by
    rw [List.flatten_replicate_singleton]
  rw [hl]
  by_cases h : j ≤ k
  · rw [lrowV_at [] ts h, List.getElem?_replicate, if_pos (by omega)]
    rfl
  · rw [List.getElem?_eq_none (by rw [lrowV_len]; omega), List.getElem?_eq_none (by rw [List.length_replicate]; omega)]
end L2
namespace L2
open PySem PySem.Spec PyProof.Rows
section
variable {α : Type} [DecidableEq α]
theorem dI_pre (p a b : List α) : dI (p ++ a) (p ++ b) = dI a b := by
  induction p with
  | nil => rfl
  | cons x p ih => rw [List.cons_append, List.cons_append, dI_eq, ih]
theorem dI_rev (a b : List α) : dI a.reverse b.reverse = dI a b := by
  unfold dI
  rw [lcs_rev, List.length_reverse, List.length_reverse]
theorem dI_suf (a b s : List α) : dI (a ++ s) (b ++ s) = dI a b := by
  rw [← dI_rev, List.reverse_append, List.reverse_append, dI_pre, dI_rev]
theorem dI_symm (a b : List α) : dI a b = dI b a := by
  unfold dI
  rw [lcs_symm]
  omega
theorem dI_bounds (a b : List α) : 0 ≤ dI a b ∧ dI a b ≤ (a.length : Int) + b.length ∧ (a.length : Int) - b.length ≤ dI a b ∧ (b.length : Int) - a.length ≤ dI a b := by
  have := lcs_le a b
  unfold dI
  omega
theorem dI_eq_zero {a b : List α} (h : dI a b = 0) : a = b := by
  obtain ⟨s, h1, h2, h3⟩ := lcs_ex a b
  have := lcs_le a b
  unfold dI at h
  have e1 := h1.eq_of_length (by omega)
  have e2 := h2.eq_of_length (by omega)
  rw [← e1, ← e2]
theorem two_subs : ∀ {b s t : List α}, s.Sublist b → t.Sublist b → ∃ u : List α, u.Sublist s ∧ u.Sublist t ∧ s.length + t.length ≤ b.length + u.length
  | [], s, t, h1, h2 => by
    rw [List.sublist_nil.mp h1, List.sublist_nil.mp h2]
    exact ⟨[], List.nil_sublist _, List.nil_sublist _, by simp⟩
  | x :: b, s, t, h1, h2 => by
    rcases sub_cons h1 with q1 | ⟨s', rfl, q1⟩
    · rcases sub_cons h2 with q2 | ⟨t', rfl, q2⟩
      · obtain ⟨u, k1, k2, k3⟩ := two_subs q1 q2
        exact ⟨u, k1, k2, by rw [List.length_cons]; omega⟩
      · obtain ⟨u, k1, k2, k3⟩ := two_subs q1 q2
        exact ⟨u, k1, k2.cons x, by rw [List.length_cons, List.length_cons]; omega⟩
    · rcases sub_cons h2 with q2 | ⟨t', rfl, q2⟩
      · obtain ⟨u, k1, k2, k3⟩ := two_subs q1 q2
        exact ⟨u, k1.cons x, k2, by rw [List.length_cons, List.length_cons]; omega⟩
      · obtain ⟨u, k1, k2, k3⟩ := two_subs q1 q2
        exact ⟨x :: u, k1.cons₂ x, k2.cons₂ x, by rw [List.length_cons, List.length_cons, List.length_cons, List.length_cons]; omega⟩
theorem dI_tri (a b c : List α) : dI a c ≤ dI a b + dI b c := by
  obtain ⟨s, h1, h2, h3⟩ := lcs_ex a b
  obtain ⟨t, k1, k2, k3⟩ := lcs_ex b c
  obtain ⟨u, q1, q2, q3⟩ := two_subs h2 k1
  have := lcs_ge (q1.trans h1) (q2.trans k2)
  unfold dI
  omega
theorem dI_put {x y : α} {a b : List α} (h : x ≠ y) (hle : ¬ dI a (y :: b) < dI (x :: a) (y :: b)) : dI (x :: a) (y :: b) = 1 + dI (x :: a) b := by
  have e := dI_ne h a b
  rw [e] at hle ⊢
  split at hle <;> split <;> omega
theorem dI_out {x : α} {a b : List α} (hlt : dI a b < dI (x :: a) b) : dI (x :: a) b = 1 + dI a b := by
  have := dI_more x a b
  omega
theorem dI_nil_cons (y : α) (b : List α) : dI [] (y :: b) = 1 + dI [] b := by rw [dI_nil, dI_nil, List.length_cons]; omega
end
def csum (c : List Cg) : Int := (csts c).sum
structure Eqv (c d : List Cg) : Prop where
  tot : L2.tot c = L2.tot d
  sum : csum c = csum d
  run : ∀ r, L2.mk c r = L2.mk d r
theorem Eqv.refl (c : List Cg) : Eqv c c := ⟨rfl, rfl, fun _ => rfl⟩
theorem Eqv.symm {c d : List Cg} (h : Eqv c d) : Eqv d c := ⟨h.tot.symm, h.sum.symm, fun r => (h.run r).symm⟩
theorem Eqv.trans {c d e : List Cg} (h : Eqv c d) (k : Eqv d e) : Eqv c e := ⟨h.tot.trans k.tot, h.sum.trans k.sum, fun r => (h.run r).trans (k.run r)⟩
theorem tot_app (c d : List Cg) : tot (c ++ d) = tot c + tot d := by unfold tot; rw [List.map_append, List.sum_append]
theorem csum_app (c d : List Cg) : csum (c ++ d) = csum c + csum d := by unfold csum csts; rw [List.filterMap_append, List.sum_append]
theorem mk_app : ∀ (c d : List Cg) (r : List Str), mk (c ++ d) r = mk c r ++ mk d (r.drop (tot c))
  | [], d, r => rfl
  | x :: c, d, r => by
    show x.made r ++ mk (c ++ d) (r.drop x.used) = x.made r ++ mk c (r.drop x.used) ++ mk d (r.drop (tot (x :: c)))
    rw [mk_app c d, List.drop_drop, List.append_assoc]
    have e : tot (x :: c) = x.used + tot c := by unfold tot; rw [List.map_cons, List.sum_cons]
    rw [e]
theorem Eqv.app {c d c' d' : List Cg} (h : Eqv c c') (k : Eqv d d') : Eqv (c ++ d) (c' ++ d') :=
  ⟨by rw [tot_app, tot_app, h.tot, k.tot], by rw [csum_app, csum_app, h.sum, k.sum], fun r => by rw [mk_app, mk_app, h.run, k.run, h.tot]⟩
theorem csum_keep (n : Nat) : csum [.keep n] = 0 := rfl
theorem csum_out (n : Nat) : csum [.out n] = n := by show (n : Int) + 0 = n; omega
theorem csum_put (ts : List Str) : csum [.put ts] = ts.length := by show (ts.length : Int) + 0 = _; omega
theorem mk_one (x : Cg) (r : List Str) : mk [x] r = x.made r := List.append_nil _
theorem tot_one (x : Cg) : tot [x] = x.used := by unfold tot; simp
theorem eqv_keep0 : Eqv [.keep 0] [] := ⟨rfl, rfl, fun r => by rw [mk_one]; rfl⟩
theorem eqv_out0 : Eqv [.out 0] [] := ⟨rfl, rfl, fun r => by rw [mk_one]; rfl⟩
theorem eqv_put0 : Eqv [.put []] [] := ⟨rfl, rfl, fun r => by rw [mk_one]; rfl⟩
theorem eqv_keep2 (a b : Nat) : Eqv ([.keep a] ++ [.keep b]) [.keep (a + b)] := by
  refine ⟨by rw [tot_app, tot_one, tot_one, tot_one]; rfl, by rw [csum_app, csum_keep, csum_keep, csum_keep]; rfl, fun r => ?_⟩
  rw [mk_app, mk_one, mk_one, mk_one, tot_one]
  show r.take a ++ (r.drop a).take b = r.take (a + b)
  rw [List.take_add]
theorem eqv_out2 (a b : Nat) : Eqv ([.out a] ++ [.out b]) [.out (a + b)] :=
  ⟨by rw [tot_app, tot_one, tot_one, tot_one]; rfl, by rw [csum_app, csum_out, csum_out, csum_out]; omega, fun r => by rw [mk_app, mk_one, mk_one, mk_one]; rfl⟩
theorem eqv_put2 (p q : List Str) : Eqv ([.put p] ++ [.put q]) [.put (p ++ q)] :=
  ⟨by rw [tot_app, tot_one, tot_one, tot_one]; rfl, by rw [csum_app, csum_put, csum_put, csum_put, List.length_append]; omega, fun r => by rw [mk_app, mk_one, mk_one, mk_one]; rfl⟩
theorem eqv_swap (p : List Str) (a : Nat) : Eqv ([.put p] ++ [.out a]) ([.out a] ++ [.put p]) :=
  ⟨by rw [tot_app, tot_app]; omega, by rw [csum_app, csum_app]; omega, fun r => by rw [mk_app, mk_app, mk_one, mk_one, mk_one, mk_one]; show p ++ [] = [] ++ p; simp⟩
def hand (ch : List Cg) (k o : Nat) (ps : List Str) : List Cg := ch ++ ([.keep k] ++ ([.out o] ++ [.put ps]))
theorem hand_keep (ch : List Cg) (k : Nat) : Eqv (hand ch k 0 [] ++ [.keep 1]) (hand ch (k + 1) 0 []) := by
  unfold hand
  have e : Eqv ([.out 0] ++ [.put []]) [] := eqv_out0.app eqv_put0
  rw [List.append_assoc, List.append_assoc]
  refine (Eqv.refl ch).app ?_
  refine ((Eqv.refl _).app ((e.app (Eqv.refl [.keep 1])))).trans ?_
  refine (eqv_keep2 k 1).trans ?_
  exact ((Eqv.refl [.keep (k + 1)]).app e).symm.trans (Eqv.refl _) |> fun h => (by simpa using h)
theorem hand_flush (ch : List Cg) (o : Nat) (ps : List Str) : Eqv (hand ch 0 o ps ++ [.keep 1]) (hand (ch ++ ([.out o] ++ [.put ps])) 1 0 []) := by
  unfold hand
  have e : Eqv ([.out 0] ++ [.put []]) [] := eqv_out0.app eqv_put0
  have l : Eqv (ch ++ ([.keep 0] ++ ([.out o] ++ [.put ps])) ++ [.keep 1]) (ch ++ ([] ++ ([.out o] ++ [.put ps])) ++ [.keep 1]) := ((Eqv.refl ch).app (eqv_keep0.app (Eqv.refl _))).app (Eqv.refl _)
  have r : Eqv (ch ++ ([.out o] ++ [.put ps]) ++ ([.keep 1] ++ ([.out 0] ++ [.put []]))) (ch ++ ([.out o] ++ [.put ps]) ++ ([.keep 1] ++ [])) := (Eqv.refl _).app ((Eqv.refl _).app e)
  exact l.trans (by simpa using r.symm)
theorem hand_k (ch : List Cg) (k : Nat) : Eqv (hand ch k 0 []) (hand (ch ++ [.keep k]) 0 0 []) := by
  unfold hand
  have r : Eqv (ch ++ [.keep k] ++ ([.keep 0] ++ ([.out 0] ++ [.put []]))) (ch ++ [.keep k] ++ ([] ++ ([.out 0] ++ [.put []]))) := (Eqv.refl _).app (eqv_keep0.app (Eqv.refl _))
  exact (by simpa using r.symm)
theorem hand_out (ch : List Cg) (o : Nat) (ps : List Str) : Eqv (hand ch 0 o ps ++ [.out 1]) (hand ch 0 (o + 1) ps) := by
  unfold hand
  rw [List.append_assoc, List.append_assoc, List.append_assoc]
  refine (Eqv.refl ch).app ((Eqv.refl _).app ?_)
  refine ((Eqv.refl _).app (eqv_swap ps 1)).trans ?_
  rw [← List.append_assoc]
  exact (eqv_out2 o 1).app (Eqv.refl _)
theorem hand_put (ch : List Cg) (o : Nat) (ps : List Str) (s : Str) : Eqv (hand ch 0 o ps ++ [.put [s]]) (hand ch 0 o (ps ++ [s])) := by
  unfold hand
  rw [List.append_assoc, List.append_assoc, List.append_assoc]
  exact (Eqv.refl ch).app ((Eqv.refl _).app ((Eqv.refl _).app (eqv_put2 ps [s])))
theorem eqv_nilr (c : List Cg) {d : List Cg} (h : Eqv d []) : Eqv (c ++ d) c := by
  have := (Eqv.refl c).app h
  rwa [List.append_nil] at this
def gath (o : Nat) (ps : List Str) : List Cg := (if 0 < o then [.out o] else []) ++ (if 0 < ps.length then [.put ps] else [])
theorem gath_eqv (o : Nat) (ps : List Str) : Eqv ([.out o] ++ [.put ps]) (gath o ps) := by
  unfold gath
  refine Eqv.app ?_ ?_
  · split
    · exact Eqv.refl _
    · have : o = 0 := by omega
      subst this; exact eqv_out0
  · split
    · exact Eqv.refl _
    · have : ps = [] := by cases ps with | nil => rfl | cons => simp at *
      subst this; exact eqv_put0
def Cg.kd : Cg → Nat
  | .keep _ => 0
  | .out _ => 1
  | .put _ => 2
def Cg.pos : Cg → Prop
  | .keep n => 0 < n
  | .out n => 0 < n
  | .put ts => 0 < ts.length
def nxtOk (x y : Cg) : Prop := x.kd ≠ y.kd ∧ ¬ (x.kd = 2 ∧ y.kd = 1)
structure Fm (c : List Cg) : Prop where
  pos : ∀ x ∈ c, x.pos
  nxt : ∀ (i : Nat) x y, c[i]? = some x → c[i + 1]? = some y → nxtOk x y
theorem Fm.nil : Fm [] := ⟨(fun _ z => nomatch z), fun i x y e _ => by cases e⟩
theorem Fm.snoc {c : List Cg} {y : Cg} (h : Fm c) (hy : y.pos) (hl : ∀ x, c[c.length - 1]? = some x → nxtOk x y) : Fm (c ++ [y]) := by
  refine ⟨fun x hx => ?_, fun i x z e1 e2 => ?_⟩
  · rcases List.mem_append.mp hx with q | q
    · exact h.pos x q
    · rw [List.mem_singleton.mp q]; exact hy
  · have hi : i + 1 < (c ++ [y]).length := (List.getElem?_eq_some_iff.mp e2).1
    rw [List.length_append, List.length_singleton] at hi
    rw [List.getElem?_append_left (by omega)] at e1
    by_cases h2 : i + 1 < c.length
    · rw [List.getElem?_append_left h2] at e2
      exact h.nxt i x z e1 e2
    · have : i = c.length - 1 := by omega
      subst this
      rw [List.getElem?_append_right (by omega), show c.length - 1 + 1 - c.length = 0 from by omega] at e2
      cases e2
      exact hl x e1
theorem last_snoc {α : Type} (c : List α) (y : α) : (c ++ [y])[(c ++ [y]).length - 1]? = some y := by
  rw [List.length_append, List.length_singleton, Nat.add_sub_cancel, List.getElem?_append_right (Nat.le_refl _), Nat.sub_self]
  rfl
def EndK (c : List Cg) : Prop := ∀ x, c[c.length - 1]? = some x → x.kd = 0
def EndN (c : List Cg) : Prop := ∀ x, c[c.length - 1]? = some x → x.kd ≠ 0
theorem fm_gath {c : List Cg} {o : Nat} {ps : List Str} (h : Fm c) (he : EndK c) (hp : 0 < o + ps.length) : Fm (c ++ gath o ps) ∧ EndN (c ++ gath o ps) := by
  unfold gath
  by_cases ho : 0 < o <;> by_cases hq : 0 < ps.length
  · rw [if_pos ho, if_pos hq, ← List.append_assoc]
    have h1 : Fm (c ++ [.out o]) := h.snoc ho fun x e => ⟨by rw [he x e]; show (0 : Nat) ≠ 1; decide, fun z => by rw [he x e] at z; exact absurd z.1 (by decide)⟩
    refine ⟨h1.snoc hq fun x e => ?_, fun x e => ?_⟩
    · rw [last_snoc] at e; cases e; exact ⟨(by show (1 : Nat) ≠ 2; decide), fun z => absurd z.1 (by show (1 : Nat) ≠ 2; decide)⟩
    · rw [last_snoc] at e; cases e; show (2 : Nat) ≠ 0; decide
  · rw [if_pos ho, if_neg hq, List.append_nil]
    refine ⟨h.snoc ho fun x e => ⟨by rw [he x e]; show (0 : Nat) ≠ 1; decide, fun z => by rw [he x e] at z; exact absurd z.1 (by decide)⟩, fun x e => ?_⟩
    rw [last_snoc] at e; cases e; show (1 : Nat) ≠ 0; decide
  · rw [if_neg ho, if_pos hq, List.nil_append]
    refine ⟨h.snoc hq fun x e => ⟨by rw [he x e]; show (0 : Nat) ≠ 2; decide, fun z => by rw [he x e] at z; exact absurd z.1 (by decide)⟩, fun x e => ?_⟩
    rw [last_snoc] at e; cases e; show (2 : Nat) ≠ 0; decide
  · omega
theorem fm_keep {c : List Cg} {k : Nat} (h : Fm c) (he : EndN c) (hk : 0 < k) : Fm (c ++ [.keep k]) ∧ EndK (c ++ [.keep k]) :=
  ⟨h.snoc hk fun x e => ⟨he x e, fun z => by cases z.2⟩, fun x e => by rw [last_snoc] at e; cases e; rfl⟩
def Cg.big : Cg → Prop
  | .keep n => n ≤ 3000
  | .out n => n ≤ 3000
  | .put ts => ts.length ≤ 3000
theorem mk_len2 : ∀ (c : List Cg) (r : List Str), (∀ x ∈ c, x.big) → (mk c r).length ≤ 3000 * c.length
  | [], _, _ => Nat.le_refl _
  | x :: c, r, h => by
    have a : (x.made r).length ≤ 3000 := by
      have := h x (by simp)
      cases x with
      | keep n => show (r.take n).length ≤ 3000; rw [List.length_take]; have : n ≤ 3000 := this; omega
      | out n => show 0 ≤ 3000; omega
      | put ts => exact this
    have b := mk_len2 c (r.drop x.used) (fun y hy => h y (List.mem_cons_of_mem _ hy))
    show (x.made r ++ mk c (r.drop x.used)).length ≤ _
    rw [List.length_append, List.length_cons]
    omega
theorem snoc_big {ch : List Cg} {x : Cg} (h : ∀ y ∈ ch, y.big) (hx : x.big) : ∀ y ∈ ch ++ [x], y.big := fun y hy => by
  rcases List.mem_append.mp hy with q | q
  · exact h y q
  · rw [List.mem_singleton.mp q]; exact hx
theorem huge {n : Nat} (h : n ≤ 15000000) : n ≤ sizeLine := Nat.le_trans h (by decide +kernel)
theorem huge' {n : Nat} (h : n ≤ 15000000) : n < sizeLine := Nat.lt_of_le_of_lt h (by decide +kernel)
end L2
namespace L2
open PySem PySem.Spec PyProof.Rows
def tP (R : List (List Int)) (i j : Nat) : Int := (R.getD i []).getD j 0
structure AreP (xs ts : List Str) (R : List (List Int)) : Prop where
  len : R.length = xs.length + 1
  row : ∀ r ∈ R, r.length = ts.length + 1
  zero : tP R xs.length ts.length = 0
  down : ∀ i j, i < xs.length → j ≤ ts.length → -1 ≤ tP R (i + 1) j - tP R i j ∧ tP R (i + 1) j - tP R i j ≤ 1
  right : ∀ i j, i ≤ xs.length → j < ts.length → -1 ≤ tP R i (j + 1) - tP R i j ∧ tP R i (j + 1) - tP R i j ≤ 1
  kept : ∀ (i j : Nat) x, xs[i]? = some x → ts[j]? = some x → tP R i j ≤ tP R (i + 1) (j + 1)
structure TT2 (H : Hp) (p : Addr) (rs : List Addr) (R : List (List Int)) : Prop where
  at' : H p = some (.lst (rs.map V.ref))
  len : rs.length = R.length
  row : ∀ (i : Nat) r z, rs[i]? = some r → R[i]? = some z → H r = some (.lst (z.map V.int))
  few : R.length ≤ 100
  fewr : ∀ z ∈ R, z.length ≤ 100
theorem TT2.same {H H' : Hp} {p : Addr} {rs : List Addr} {R : List (List Int)} (h : TT2 H p rs R) (s : Same H H') : TT2 H' p rs R := ⟨s _ _ h.at', h.len, fun i r z a b => s _ _ (h.row i r z a b), h.few, h.fewr⟩
theorem TT2.get {H : Hp} {p : Addr} {rs : List Addr} {R : List (List Int)} (h : TT2 H p rs R) {i : Nat} (hi : i < R.length) : ∃ r z, atI (rs.map V.ref) (i : Int) = some (.ref r) ∧ rs[i]? = some r ∧ R[i]? = some z ∧ H r = some (.lst (z.map V.int)) := by
  obtain ⟨r, e⟩ := get_of_lt (ts := rs) (j := i) (by rw [h.len]; exact hi)
  obtain ⟨z, ez⟩ := get_of_lt hi
  exact ⟨r, z, atI_nat (by rw [List.getElem?_map, e]; rfl), e, ez, h.row i r z e ez⟩
theorem TT2.at_i {H : Hp} {p : Addr} {rs : List Addr} {R : List (List Int)} (h : TT2 H p rs R) {i : Nat} {v : V} (e : (rs.map V.ref)[i]? = some v) : ∃ r z, v = .ref r ∧ rs[i]? = some r ∧ R[i]? = some z ∧ H r = some (.lst (z.map V.int)) := by
  rw [List.getElem?_map] at e
  cases q : rs[i]? with
  | none => rw [q] at e; cases e
  | some r =>
    rw [q] at e
    have hi : i < R.length := by have := (List.getElem?_eq_some_iff.mp q).1; rw [← h.len]; exact this
    obtain ⟨z, ez⟩ := get_of_lt hi
    exact ⟨r, z, (Option.some.inj e).symm, rfl, ez, h.row i r z q ez⟩
theorem int_at {z : List Int} {j : Nat} (h : j < z.length) : atI (z.map V.int) (j : Int) = some (V.int (z.getD j 0)) := atI_nat (by rw [List.getElem?_map, List.getElem?_eq_getElem h, List.getD_eq_getElem?_getD, List.getElem?_eq_getElem h]; rfl)
theorem tP_at {R : List (List Int)} {i : Nat} {z : List Int} (h : R[i]? = some z) (j : Nat) : tP R i j = z.getD j 0 := by
  unfold tP
  rw [List.getD_eq_getElem?_getD (l := R), h]
  rfl
def diffOk (us vs : List Int) : Bool := (us.zip vs).all fun p => decide (-1 ≤ p.1 - p.2) && decide (p.1 - p.2 ≤ 1)
theorem diffOk_iff {us vs : List Int} (h : us.length = vs.length) : diffOk us vs = true ↔ ∀ j, j < us.length → -1 ≤ us.getD j 0 - vs.getD j 0 ∧ us.getD j 0 - vs.getD j 0 ≤ 1 := by
  unfold diffOk
  rw [List.all_eq_true]
  constructor
  · intro q j hj
    have h1 : (us.zip vs)[j]? = some (us[j], vs[j]'(by omega)) := by
      rw [List.getElem?_eq_getElem (by rw [List.length_zip]; omega), List.getElem_zip]
    have := q _ (List.mem_of_getElem? h1)
    rw [Bool.and_eq_true] at this
    rw [List.getD_eq_getElem?_getD, List.getElem?_eq_getElem hj, List.getD_eq_getElem?_getD, List.getElem?_eq_getElem (by omega : j < vs.length)]
    exact ⟨of_decide_eq_true this.1, of_decide_eq_true this.2⟩
  · intro q p hp
    obtain ⟨j, hj, e⟩ := List.mem_iff_getElem.mp hp
    rw [List.length_zip] at hj
    rw [List.getElem_zip] at e
    have := q j (by omega)
    rw [List.getD_eq_getElem?_getD, List.getElem?_eq_getElem (by omega : j < us.length), List.getD_eq_getElem?_getD, List.getElem?_eq_getElem (by omega : j < vs.length)] at this
    rw [← e, Bool.and_eq_true]
    exact ⟨decide_eq_true this.1, decide_eq_true this.2⟩
theorem cut_init (z : List Int) : cutV (z.map V.int) none (some (-1)) = z.dropLast.map V.int := by
  unfold cutV
  rw [HT.sIx_none, List.length_map, List.drop_zero, List.dropLast_eq_take, List.map_take]
  congr 1
  unfold HT.sIx
  dsimp only
  rw [if_pos (by decide)]
  omega
theorem cut_tail (z : List Int) : cutV (z.map V.int) (some 1) none = z.tail.map V.int := by
  unfold cutV
  rw [show (some (1 : Int)) = some ((1 : Nat) : Int) from rfl, HT.sIx_nat, HT.sIx_none, List.length_map]
  cases z with
  | nil => rfl
  | cons a b => simp [List.take_of_length_le]
theorem cutR_init (z : List Addr) : cutV (z.map V.ref) none (some (-1)) = z.dropLast.map V.ref := by
  unfold cutV
  rw [HT.sIx_none, List.length_map, List.drop_zero, List.dropLast_eq_take, List.map_take]
  congr 1
  unfold HT.sIx
  dsimp only
  rw [if_pos (by decide)]
  omega
theorem cutR_tail (z : List Addr) : cutV (z.map V.ref) (some 1) none = z.tail.map V.ref := by
  unfold cutV
  rw [show (some (1 : Int)) = some ((1 : Nat) : Int) from rfl, HT.sIx_nat, HT.sIx_none, List.length_map]
  cases z with
  | nil => rfl
  | cons a b => simp [List.take_of_length_le]
theorem diffRow {z : List Int} {m : Nat} (h : z.length = m + 1) : diffOk z.dropLast z.tail = true ↔ ∀ j, j < m → -1 ≤ z.getD (j + 1) 0 - z.getD j 0 ∧ z.getD (j + 1) 0 - z.getD j 0 ≤ 1 := by
  rw [diffOk_iff (by rw [List.length_dropLast, List.length_tail])]
  have e1 : ∀ j, j < m → z.dropLast.getD j 0 = z.getD j 0 := fun j hj => by
    rw [List.getD_eq_getElem?_getD, List.getD_eq_getElem?_getD, List.getElem?_dropLast, if_pos (by omega)]
  have e2 : ∀ j, z.tail.getD j 0 = z.getD (j + 1) 0 := fun j => by
    rw [List.getD_eq_getElem?_getD, List.getD_eq_getElem?_getD, List.getElem?_tail]
  constructor
  · intro q j hj
    have := q j (by rw [List.length_dropLast]; omega)
    rw [e1 j hj, e2 j] at this
    omega
  · intro q j hj
    rw [List.length_dropLast] at hj
    have := q j (by omega)
    rw [e1 j (by omega), e2 j]
    omega
section
variable {K : PySem.W.Frag} {H : Hp}
theorem dvs_ints : ∀ (z : List Int), DVs K H (z.map V.int) (z.map PyData.int)
  | [] => .nil
  | a :: z => .cons (.int a) (dvs_ints z)
theorem dvs_rows : ∀ {rs : List Addr} {R : List (List Int)}, rs.length = R.length → (∀ (i : Nat) r z, rs[i]? = some r → R[i]? = some z → H r = some (.lst (z.map V.int))) → DVs K H (rs.map V.ref) (R.map fun z => PyData.list (z.map PyData.int))
  | [], [], _, _ => .nil
  | [], _ :: _, h, _ => by simp at h
  | _ :: _, [], h, _ => by simp at h
  | r :: rs, z :: R, h, q => .cons (.lst (SqL.of (q 0 r z rfl rfl)) (dvs_ints z)) (dvs_rows (by simpa using h) fun i r z a b => q (i + 1) r z (by simpa using a) (by simpa using b))
theorem dv_tab {p : Addr} {rs : List Addr} {R : List (List Int)} (h : TT2 H p rs R) : DV K H (.ref p) (.list (R.map fun z => PyData.list (z.map PyData.int))) := .lst (SqL.of h.at') (dvs_rows h.len h.row)
end
theorem lay_ints : ∀ z : List Int, PyData.canLayAll0 (z.map PyData.int) = true
  | [] => rfl
  | a :: z => by show (true && PyData.canLayAll0 (z.map PyData.int)) = true; rw [lay_ints z]; rfl
theorem lay_rows : ∀ R : List (List Int), PyData.canLayAll0 (R.map fun z => PyData.list (z.map PyData.int)) = true
  | [] => rfl
  | z :: R => by show (PyData.canLayAll0 (z.map PyData.int) && PyData.canLayAll0 (R.map fun z => PyData.list (z.map PyData.int))) = true; rw [lay_ints z, lay_rows R]; rfl
theorem dep_ints : ∀ z : List Int, PyData.depthAll (z.map PyData.int) = 0
  | [] => rfl
  | a :: z => by show max 0 (PyData.depthAll (z.map PyData.int)) = 0; rw [dep_ints z]; rfl
theorem dep_rows : ∀ R : List (List Int), PyData.depthAll (R.map fun z => PyData.list (z.map PyData.int)) ≤ 1
  | [] => by show 0 ≤ 1; decide
  | z :: R => by
    show max (PyData.depthAll (z.map PyData.int) + 1) (PyData.depthAll (R.map fun z => PyData.list (z.map PyData.int))) ≤ 1
    rw [dep_ints z]
    have := dep_rows R
    omega
end L2
set_option maxHeartbeats 40000000
namespace My
open PySem L2 PyProof.Rows
def top (i : Nat) : Stmt := PySem.Challenge.pw_pagefolk_k76_whole_no_change_cheaper.main.body.getD i (.Pass ⟨0, 0, 0, 0⟩)
abbrev s_fprice_row : Stmt := top 1
abbrev s_fprices : Stmt := top 2
abbrev s_fdiffer_little : Stmt := top 3
abbrev s_fis_square : Stmt := top 4
abbrev s_fare_prices : Stmt := top 5
abbrev s_falike_ahead : Stmt := top 6
abbrev s_fsteps_between : Stmt := top 7
abbrev s_fgathered : Stmt := top 8
abbrev s_fjoined : Stmt := top 9
abbrev s_fleast_change : Stmt := top 10
abbrev s_fcost_of : Stmt := top 11
abbrev s_f_law_begun : Stmt := top 13
abbrev s_f_law_draw : Stmt := top 14
abbrev s_f_law_menu : Stmt := top 15
abbrev s_f_law_texts : Stmt := top 16
abbrev s_f_law_near : Stmt := top 17
abbrev s_f_law_two : Stmt := top 18
abbrev s_f_law_costs : Stmt := top 19
abbrev s_f_law_bent : Stmt := top 20
abbrev s_f_law_free : Stmt := top 21
abbrev s_f_law_tables : Stmt := top 22
abbrev s_f_law_walked : Stmt := top 23
abbrev s_flaw : Stmt := top 24
structure Adr where
  fprice_row : Addr
  fprice_rowd : FuncData
  fprices : Addr
  fpricesd : FuncData
  fdiffer_little : Addr
  fdiffer_littled : FuncData
  fis_square : Addr
  fis_squared : FuncData
  fare_prices : Addr
  fare_pricesd : FuncData
  falike_ahead : Addr
  falike_aheadd : FuncData
  fsteps_between : Addr
  fsteps_betweend : FuncData
  fgathered : Addr
  fgatheredd : FuncData
  fjoined : Addr
  fjoinedd : FuncData
  fleast_change : Addr
  fleast_changed : FuncData
  fcost_of : Addr
  fcost_ofd : FuncData
  f_law_begun : Addr
  f_law_begund : FuncData
  f_law_draw : Addr
  f_law_drawd : FuncData
  f_law_menu : Addr
  f_law_menud : FuncData
  f_law_texts : Addr
  f_law_textsd : FuncData
  f_law_near : Addr
  f_law_neard : FuncData
  f_law_two : Addr
  f_law_twod : FuncData
  f_law_costs : Addr
  f_law_costsd : FuncData
  f_law_bent : Addr
  f_law_bentd : FuncData
  f_law_free : Addr
  f_law_freed : FuncData
  f_law_tables : Addr
  f_law_tablesd : FuncData
  f_law_walked : Addr
  f_law_walkedd : FuncData
  flaw : Addr
  flawd : FuncData
structure Txt (K : PySem.W.Frag) (mg : Str → Option Value) (d : Adr) (tk : Str → Tok) : Prop where
  b_all : mg "all" = none
  b_len : mg "len" = none
  b_list : mg "list" = none
  b_max : mg "max" = none
  b_min : mg "min" = none
  b_range : mg "range" = none
  b_sum : mg "sum" = none
  b_zip : mg "zip" = none
  F_fprice_row : Fun K "price_row" "price_row" s_fprice_row d.fprice_row d.fprice_rowd
  m_fprice_row : mg "price_row" = some (.ref d.fprice_row)
  k_fprice_row : PySem.W.keepIn K (.ref d.fprice_row) = true
  d_fprice_row : Binds K d.fprice_rowd ["text", "other", "below", "last"] []
  F_fprices : Fun K "prices" "prices" s_fprices d.fprices d.fpricesd
  m_fprices : mg "prices" = some (.ref d.fprices)
  k_fprices : PySem.W.keepIn K (.ref d.fprices) = true
  d_fprices : Binds K d.fpricesd ["one", "other"] []
  F_fdiffer_little : Fun K "differ_little" "differ_little" s_fdiffer_little d.fdiffer_little d.fdiffer_littled
  m_fdiffer_little : mg "differ_little" = some (.ref d.fdiffer_little)
  k_fdiffer_little : PySem.W.keepIn K (.ref d.fdiffer_little) = true
  d_fdiffer_little : Binds K d.fdiffer_littled ["some", "others"] []
  F_fis_square : Fun K "is_square" "is_square" s_fis_square d.fis_square d.fis_squared
  m_fis_square : mg "is_square" = some (.ref d.fis_square)
  k_fis_square : PySem.W.keepIn K (.ref d.fis_square) = true
  d_fis_square : Binds K d.fis_squared ["some", "many", "of_each"] []
  F_fare_prices : Fun K "are_prices" "are_prices" s_fare_prices d.fare_prices d.fare_pricesd
  m_fare_prices : mg "are_prices" = some (.ref d.fare_prices)
  k_fare_prices : PySem.W.keepIn K (.ref d.fare_prices) = true
  d_fare_prices : Binds K d.fare_pricesd ["one", "other", "some"] []
  F_falike_ahead : Fun K "alike_ahead" "alike_ahead" s_falike_ahead d.falike_ahead d.falike_aheadd
  m_falike_ahead : mg "alike_ahead" = some (.ref d.falike_ahead)
  k_falike_ahead : PySem.W.keepIn K (.ref d.falike_ahead) = true
  d_falike_ahead : Binds K d.falike_aheadd ["one", "other"] []
  F_fsteps_between : Fun K "steps_between" "steps_between" s_fsteps_between d.fsteps_between d.fsteps_betweend
  m_fsteps_between : mg "steps_between" = some (.ref d.fsteps_between)
  k_fsteps_between : PySem.W.keepIn K (.ref d.fsteps_between) = true
  d_fsteps_between : Binds K d.fsteps_betweend ["one", "other"] []
  F_fgathered : Fun K "gathered" "gathered" s_fgathered d.fgathered d.fgatheredd
  m_fgathered : mg "gathered" = some (.ref d.fgathered)
  k_fgathered : PySem.W.keepIn K (.ref d.fgathered) = true
  d_fgathered : Binds K d.fgatheredd ["outs", "puts"] []
  F_fjoined : Fun K "joined" "joined" s_fjoined d.fjoined d.fjoinedd
  m_fjoined : mg "joined" = some (.ref d.fjoined)
  k_fjoined : PySem.W.keepIn K (.ref d.fjoined) = true
  d_fjoined : Binds K d.fjoinedd ["steps"] []
  F_fleast_change : Fun K "least_change" "least_change" s_fleast_change d.fleast_change d.fleast_changed
  m_fleast_change : mg "least_change" = some (.ref d.fleast_change)
  k_fleast_change : PySem.W.keepIn K (.ref d.fleast_change) = true
  d_fleast_change : Binds K d.fleast_changed ["one", "other"] []
  F_fcost_of : Fun K "cost_of" "cost_of" s_fcost_of d.fcost_of d.fcost_ofd
  m_fcost_of : mg "cost_of" = some (.ref d.fcost_of)
  k_fcost_of : PySem.W.keepIn K (.ref d.fcost_of) = true
  d_fcost_of : Binds K d.fcost_ofd ["change"] []
  F_f_law_begun : Fun K "_law_begun" "_law_begun" s_f_law_begun d.f_law_begun d.f_law_begund
  m_f_law_begun : mg "_law_begun" = some (.ref d.f_law_begun)
  k_f_law_begun : PySem.W.keepIn K (.ref d.f_law_begun) = true
  d_f_law_begun : Binds K d.f_law_begund ["_law_script", "_law_k"] []
  F_f_law_draw : Fun K "_law_draw" "_law_draw" s_f_law_draw d.f_law_draw d.f_law_drawd
  m_f_law_draw : mg "_law_draw" = some (.ref d.f_law_draw)
  k_f_law_draw : PySem.W.keepIn K (.ref d.f_law_draw) = true
  d_f_law_draw : Binds K d.f_law_drawd ["_law_state", "_law_many"] []
  F_f_law_menu : Fun K "_law_menu" "_law_menu" s_f_law_menu d.f_law_menu d.f_law_menud
  m_f_law_menu : mg "_law_menu" = some (.ref d.f_law_menu)
  k_f_law_menu : PySem.W.keepIn K (.ref d.f_law_menu) = true
  d_f_law_menu : Binds K d.f_law_menud ["_law_script"] []
  F_f_law_texts : Fun K "_law_texts" "_law_texts" s_f_law_texts d.f_law_texts d.f_law_textsd
  m_f_law_texts : mg "_law_texts" = some (.ref d.f_law_texts)
  k_f_law_texts : PySem.W.keepIn K (.ref d.f_law_texts) = true
  d_f_law_texts : Binds K d.f_law_textsd ["_law_script", "_law_k", "_law_menu_here"] []
  F_f_law_near : Fun K "_law_near" "_law_near" s_f_law_near d.f_law_near d.f_law_neard
  m_f_law_near : mg "_law_near" = some (.ref d.f_law_near)
  k_f_law_near : PySem.W.keepIn K (.ref d.f_law_near) = true
  d_f_law_near : Binds K d.f_law_neard ["_law_script", "_law_k", "_law_menu_here", "_law_one"] []
  F_f_law_two : Fun K "_law_two" "_law_two" s_f_law_two d.f_law_two d.f_law_twod
  m_f_law_two : mg "_law_two" = some (.ref d.f_law_two)
  k_f_law_two : PySem.W.keepIn K (.ref d.f_law_two) = true
  d_f_law_two : Binds K d.f_law_twod ["_law_script"] []
  F_f_law_costs : Fun K "_law_costs" "_law_costs" s_f_law_costs d.f_law_costs d.f_law_costsd
  m_f_law_costs : mg "_law_costs" = some (.ref d.f_law_costs)
  k_f_law_costs : PySem.W.keepIn K (.ref d.f_law_costs) = true
  d_f_law_costs : Binds K d.f_law_costsd ["_law_one", "_law_other"] []
  F_f_law_bent : Fun K "_law_bent" "_law_bent" s_f_law_bent d.f_law_bent d.f_law_bentd
  m_f_law_bent : mg "_law_bent" = some (.ref d.f_law_bent)
  k_f_law_bent : PySem.W.keepIn K (.ref d.f_law_bent) = true
  d_f_law_bent : Binds K d.f_law_bentd ["_law_state", "_law_rows"] []
  F_f_law_free : Fun K "_law_free" "_law_free" s_f_law_free d.f_law_free d.f_law_freed
  m_f_law_free : mg "_law_free" = some (.ref d.f_law_free)
  k_f_law_free : PySem.W.keepIn K (.ref d.f_law_free) = true
  d_f_law_free : Binds K d.f_law_freed ["_law_state", "_law_one", "_law_other"] []
  F_f_law_tables : Fun K "_law_tables" "_law_tables" s_f_law_tables d.f_law_tables d.f_law_tablesd
  m_f_law_tables : mg "_law_tables" = some (.ref d.f_law_tables)
  k_f_law_tables : PySem.W.keepIn K (.ref d.f_law_tables) = true
  d_f_law_tables : Binds K d.f_law_tablesd ["_law_script", "_law_one", "_law_other"] []
  F_f_law_walked : Fun K "_law_walked" "_law_walked" s_f_law_walked d.f_law_walked d.f_law_walkedd
  m_f_law_walked : mg "_law_walked" = some (.ref d.f_law_walked)
  k_f_law_walked : PySem.W.keepIn K (.ref d.f_law_walked) = true
  d_f_law_walked : Binds K d.f_law_walkedd ["_law_state", "_law_one", "_law_other"] []
  F_flaw : Fun K "law" "law" s_flaw d.flaw d.flawd
  m_flaw : mg "law" = some (.ref d.flaw)
  k_flaw : PySem.W.keepIn K (.ref d.flaw) = true
  d_flaw : Binds K d.flawd ["_law_script"] []
def SR (H : Hp) (p : Addr) (n : Nat) : Prop := ∃ (a : Int) (b : Bool) (c e : Int), H p = some (.lst [.int a, .bl b, .int c, .int e]) ∧ 0 ≤ c ∧ c ≤ 2000 + n
theorem SR.same {H H' : Hp} {p : Addr} {n : Nat} (r : SR H p n) (s : Same H H') : SR H' p n := by
  obtain ⟨a, b, c, e, h, q⟩ := r
  exact ⟨a, b, c, e, s _ _ h, q⟩
theorem SR.some {H : Hp} {p : Addr} {n : Nat} (r : SR H p n) : ∃ u, H p = Option.some u := by
  obtain ⟨a, b, c, e, h, q⟩ := r
  exact ⟨_, h⟩
theorem SR.more {H : Hp} {p : Addr} {n m : Nat} (r : SR H p n) (h : n ≤ m) : SR H p m := by
  obtain ⟨a, b, c, e, h1, h2, h3⟩ := r
  exact ⟨a, b, c, e, h1, h2, by omega⟩
theorem SR.ne {H : Hp} {p q : Addr} {n : Nat} (r : SR H p n) (h : H q = none) : p ≠ q := by
  obtain ⟨u, e⟩ := r.some
  exact ne_of_none e h
structure TL (H : Hp) (p : Addr) (ts : List Str) : Prop where
  at' : H p = some (.lst (ts.map V.str))
  ok : ∀ t ∈ ts, IsT t
theorem TL.same {H H' : Hp} {p : Addr} {ts : List Str} (r : TL H p ts) (s : Same H H') : TL H' p ts := ⟨s _ _ r.at', r.ok⟩
def sp_f_law_whole (_ : PySem.W.Frag) : Sp := fun vs H Q _ => ∃ i, vs = [.int i] ∧ Q (.bl true) H
def sp_f_law_begun (K : PySem.W.Frag) : Sp := fun vs H Q _ => ∃ sp ns, ∃ k : Nat, vs = [.ref sp, .int (k : Int)] ∧ SqL K H sp (List.map V.int ns) ∧ k ≤ 63 ∧ ∀ H' p, Same H H' → H p = none → SR H' p 0 → Q (.ref p) H'
def sp_f_law_draw (_ : PySem.W.Frag) : Sp := fun vs H Q _ => ∃ p, ∃ n k : Nat, vs = [.ref p, .int (k : Int)] ∧ SR H p n ∧ n ≤ 100000 ∧ 0 < k ∧ k ≤ 1000 ∧ ∀ H', ∀ r : Nat, Same (del H p) H' → SR H' p (n + 1) → r < k → Q (.int (r : Int)) H'
def sp_f_law_menu (K : PySem.W.Frag) : Sp := fun vs H Q _ => ∃ sp ns, vs = [.ref sp] ∧ SqL K H sp (List.map V.int ns) ∧ ∀ H' p ms, Same H H' → H p = none → TL H' p ms → 0 < ms.length → ms.length ≤ 6 → Q (.ref p) H'
def sp_f_law_texts (K : PySem.W.Frag) : Sp := fun vs H Q _ => ∃ sp ns mp ms, ∃ k : Nat, vs = [.ref sp, .int (k : Int), .ref mp] ∧ SqL K H sp (List.map V.int ns) ∧ k ≤ 63 ∧ TL H mp ms ∧ 0 < ms.length ∧ ms.length ≤ 6 ∧
  ∀ H' p ts, Same H H' → H p = none → TL H' p ts → ts.length ≤ 40 → Q (.ref p) H'
section
variable {K : PySem.W.Frag} {vs : List V} {H : Hp} {Q : VK} {E : XK}
theorem len_f_law_whole (h : sp_f_law_whole K vs H Q E) : vs.length = 1 := by obtain ⟨_, rfl, _⟩ := h; rfl
theorem len_f_law_begun (h : sp_f_law_begun K vs H Q E) : vs.length = 2 := by obtain ⟨_, _, _, rfl, _⟩ := h; rfl
theorem len_f_law_draw (h : sp_f_law_draw K vs H Q E) : vs.length = 2 := by obtain ⟨_, _, _, rfl, _⟩ := h; rfl
theorem len_f_law_menu (h : sp_f_law_menu K vs H Q E) : vs.length = 1 := by obtain ⟨_, _, rfl, _⟩ := h; rfl
theorem len_f_law_texts (h : sp_f_law_texts K vs H Q E) : vs.length = 3 := by obtain ⟨_, _, _, _, _, rfl, _⟩ := h; rfl
end
theorem big {n : Nat} (h : n ≤ 1000) : n ≤ sizeLine := Nat.le_of_lt (small1000 h)
theorem TL.del {H H' : Hp} {p q : Addr} {ts : List Str} (h : TL H q ts) (n : q ≠ p) (s : Same (L2.del H p) H') : TL H' q ts := ⟨s _ _ (by rw [del_ne n]; exact h.at'), h.ok⟩
theorem SR.upd {H : Hp} {p q : Addr} {n : Nat} {o : HO} (r : SR H p n) (h : p ≠ q) : SR (L2.upd H q o) p n := by
  obtain ⟨a, b, c, e, h1, h2⟩ := r
  exact ⟨a, b, c, e, by rw [upd_ne h]; exact h1, h2⟩
structure TB (H0 H : Hp) (p : Addr) (xs ts : List Str) (rs : List Addr) : Prop where
  at' : H p = some (.lst (rs.map V.ref))
  len : rs.length = xs.length + 1
  row : ∀ (i : Nat) r, rs[i]? = some r → H r = some (.lst (rowV (xs.drop i) ts))
  new : ∀ r ∈ rs, H0 r = none ∧ r ≠ p
theorem TB.same {H0 H H' : Hp} {p : Addr} {xs ts : List Str} {rs : List Addr} (h : TB H0 H p xs ts rs) (s : Same H H') : TB H0 H' p xs ts rs := ⟨s _ _ h.at', h.len, fun i r e => s _ _ (h.row i r e), h.new⟩
theorem TB.get {H0 H : Hp} {p : Addr} {xs ts : List Str} {rs : List Addr} (h : TB H0 H p xs ts rs) {i : Nat} (hi : i ≤ xs.length) : ∃ r, atI (rs.map V.ref) (i : Int) = some (.ref r) ∧ H r = some (.lst (rowV (xs.drop i) ts)) := by
  obtain ⟨r, e⟩ := get_of_lt (ts := rs) (j := i) (by rw [h.len]; omega)
  exact ⟨r, atI_nat (by rw [List.getElem?_map, e]; rfl), h.row i r e⟩
theorem rowV_I (a ts : List Str) {j : Nat} (h : j ≤ ts.length) : atI (rowV a ts) (j : Int) = some (V.int (dI a (ts.drop j))) := atI_nat (rowV_at a ts h)
def sp_fprice_row (_ : PySem.W.Frag) : Sp := fun vs H Q _ => ∃ x op bp a ts l, vs = [.str x, .ref op, .ref bp, .int l] ∧ H op = some (.lst (ts.map V.str)) ∧ H bp = some (.lst (rowV a ts)) ∧ l = (a.length : Int) + 1 ∧ ts.length ≤ 1200 ∧ ∀ H' p, Same H H' → H p = none → H' p = some (.lst (rowV (x :: a) ts)) → Q (.ref p) H'
def sp_fprices (_ : PySem.W.Frag) : Sp := fun vs H Q _ => ∃ op qp xs ts, vs = [.ref op, .ref qp] ∧ H op = some (.lst (xs.map V.str)) ∧ H qp = some (.lst (ts.map V.str)) ∧ xs.length ≤ 1200 ∧ ts.length ≤ 1200 ∧ ∀ H' p rs, Same H H' → H p = none → TB H H' p xs ts rs → Q (.ref p) H'
def sp_f_law_near (K : PySem.W.Frag) : Sp := fun vs H Q _ => ∃ sp ns mp ms op ts, ∃ k : Nat, vs = [.ref sp, .int (k : Int), .ref mp, .ref op] ∧ SqL K H sp (List.map V.int ns) ∧ k ≤ 63 ∧ TL H mp ms ∧ 0 < ms.length ∧ ms.length ≤ 6 ∧ TL H op ts ∧ ts.length ≤ 40 ∧
  ∀ H' p zs, Same H H' → H p = none → TL H' p zs → zs.length ≤ 80 → Q (.ref p) H'
def sp_f_law_two (K : PySem.W.Frag) : Sp := fun vs H Q _ => ∃ sp ns, vs = [.ref sp] ∧ SqL K H sp (List.map V.int ns) ∧ ∀ H' p a b xs ts, Same H H' → H' p = some (.tup [.ref a, .ref b]) → TL H' a xs → xs.length ≤ 40 → TL H' b ts → ts.length ≤ 80 → Q (.ref p) H'
def sp_flaw (K : PySem.W.Frag) : Sp := fun vs H Q _ => ∃ sp ns, vs = [.ref sp] ∧ SqL K H sp (List.map V.int ns) ∧ ns.length ≤ 63 ∧ ∀ H', Same H H' → Q (.bl true) H'
section
variable {K : PySem.W.Frag} {vs : List V} {H : Hp} {Q : VK} {E : XK}
theorem len_fprice_row (h : sp_fprice_row K vs H Q E) : vs.length = 4 := by obtain ⟨_, _, _, _, _, _, rfl, _⟩ := h; rfl
theorem len_fprices (h : sp_fprices K vs H Q E) : vs.length = 2 := by obtain ⟨_, _, _, _, rfl, _⟩ := h; rfl
theorem len_f_law_near (h : sp_f_law_near K vs H Q E) : vs.length = 4 := by obtain ⟨_, _, _, _, _, _, _, rfl, _⟩ := h; rfl
theorem len_f_law_two (h : sp_f_law_two K vs H Q E) : vs.length = 1 := by obtain ⟨_, _, rfl, _⟩ := h; rfl
theorem len_flaw (h : sp_flaw K vs H Q E) : vs.length = 1 := by obtain ⟨_, _, rfl, _⟩ := h; rfl
end
theorem law_spec : ∀ (K : PySem.W.Frag) (H : Hp) (a : Addr) (ns : List Int), ns.length ≤ 63 → Only H → SqL K H a (ns.map V.int) → sp_flaw K [.ref a] H (fun v _ => v = .bl true) fun _ _ _ => False :=
  fun K H a ns h1 _ h3 => ⟨a, ns, rfl, h3, h1, fun _ _ => rfl⟩
structure CM (H : Hp) (p : Addr) (us : List V) (ch : List Cg) : Prop where
  at' : H p = some (.lst us)
  its : CgsAt H us ch
  ok : ∀ x ∈ ch, x.big
  few : ch.length ≤ 4900
theorem CM.same {H H' : Hp} {p : Addr} {vs : List V} {ch : List Cg} (r : CM H p vs ch) (s : Same H H') : CM H' p vs ch := ⟨s _ _ r.at', r.its.same s, r.ok, r.few⟩
def NwL (H0 H : Hp) (us : List V) : Prop := ∀ v ∈ us, ∀ q l, v = .ref q → H q = some (.tup [.str "put", .ref l]) → H0 l = none
theorem cg_some {H : Hp} {v : V} : ∀ {x : Cg}, CgAt H v x → ∃ q o, v = .ref q ∧ H q = some o
  | .keep _, ⟨q, e, h⟩ => ⟨q, _, e, h⟩
  | .out _, ⟨q, e, h⟩ => ⟨q, _, e, h⟩
  | .put _, ⟨q, l, e, h, hl⟩ => ⟨q, _, e, h⟩
theorem NwL.same {H0 H H' : Hp} {us : List V} {ch : List Cg} (n : NwL H0 H us) (c : CgsAt H us ch) (s : Same H H') : NwL H0 H' us := fun v hv q l e h => by
  obtain ⟨i, hi, ei⟩ := List.mem_iff_getElem.mp hv
  obtain ⟨x, _, hx⟩ := c.step (i := i) (v := v) (by rw [List.getElem?_eq_getElem hi, ei])
  obtain ⟨q', o, e', ho⟩ := cg_some hx
  rw [e] at e'
  cases e'
  have h2 := s _ _ ho
  rw [h] at h2
  cases h2
  exact n v hv q l e ho
def StpAt (H : Hp) (v : V) : Cg → Prop
  | .keep n => n = 1 ∧ ∃ q, v = .ref q ∧ H q = some (.tup [.str "keep", .str ""])
  | .out n => n = 1 ∧ ∃ q, v = .ref q ∧ H q = some (.tup [.str "out", .str ""])
  | .put ts => ∃ s q, ts = [s] ∧ v = .ref q ∧ H q = some (.tup [.str "put", .str s])
theorem StpAt.same {H H' : Hp} (s : Same H H') {v : V} : ∀ {x : Cg}, StpAt H v x → StpAt H' v x
  | .keep _, ⟨n, q, e, h⟩ => ⟨n, q, e, s _ _ h⟩
  | .out _, ⟨n, q, e, h⟩ => ⟨n, q, e, s _ _ h⟩
  | .put _, ⟨z, q, n, e, h⟩ => ⟨z, q, n, e, s _ _ h⟩
structure StsAt (H : Hp) (vs : List V) (c : List Cg) : Prop where
  len : vs.length = c.length
  at' : ∀ (i : Nat) v x, vs[i]? = some v → c[i]? = some x → StpAt H v x
theorem StsAt.same {H H' : Hp} (s : Same H H') {vs : List V} {c : List Cg} (h : StsAt H vs c) : StsAt H' vs c := ⟨h.len, fun i v x e1 e2 => (h.at' i v x e1 e2).same s⟩
theorem StsAt.nil {H : Hp} : StsAt H [] [] := ⟨rfl, fun i v x e1 e2 => by cases e1⟩
theorem StsAt.app {H : Hp} {vs ws : List V} {c d : List Cg} (h : StsAt H vs c) (k : StsAt H ws d) : StsAt H (vs ++ ws) (c ++ d) := by
  refine ⟨by rw [List.length_append, List.length_append, h.len, k.len], fun i w y e1 e2 => ?_⟩
  by_cases hi : i < vs.length
  · rw [List.getElem?_append_left hi] at e1
    rw [List.getElem?_append_left (by rw [← h.len]; exact hi)] at e2
    exact h.at' i w y e1 e2
  · rw [List.getElem?_append_right (by omega)] at e1
    rw [List.getElem?_append_right (by rw [← h.len]; omega), ← h.len] at e2
    exact k.at' _ w y e1 e2
theorem StsAt.one {H : Hp} {v : V} {x : Cg} (h : StpAt H v x) : StsAt H [v] [x] := ⟨rfl, fun i w y e1 e2 => by
  cases i with
  | zero => cases e1; cases e2; exact h
  | succ i => cases e1⟩
theorem StsAt.rep {H : Hp} {v : V} {x : Cg} (h : StpAt H v x) (n : Nat) : StsAt H (List.replicate n [v]).flatten (List.replicate n x) := by
  rw [List.flatten_replicate_singleton]
  refine ⟨by rw [List.length_replicate, List.length_replicate], fun i w y e1 e2 => ?_⟩
  rw [List.getElem?_replicate] at e1 e2
  split at e1
  · rename_i hi
    rw [if_pos hi] at e2
    cases e1; cases e2; exact h
  · cases e1
theorem StsAt.step {H : Hp} {vs : List V} {c : List Cg} (h : StsAt H vs c) {i : Nat} {v : V} (e : vs[i]? = some v) : ∃ x, c[i]? = some x ∧ StpAt H v x := by
  have hi : i < c.length := by have := (List.getElem?_eq_some_iff.mp e).1; rw [← h.len]; exact this
  exact ⟨c[i], List.getElem?_eq_getElem hi, h.at' i v _ e (List.getElem?_eq_getElem hi)⟩
theorem CgsAt.app {H : Hp} {vs ws : List V} {c d : List Cg} (h : CgsAt H vs c) (k : CgsAt H ws d) : CgsAt H (vs ++ ws) (c ++ d) := by
  refine ⟨by rw [List.length_append, List.length_append, h.len, k.len], fun i w y e1 e2 => ?_⟩
  by_cases hi : i < vs.length
  · rw [List.getElem?_append_left hi] at e1
    rw [List.getElem?_append_left (by rw [← h.len]; exact hi)] at e2
    exact h.at' i w y e1 e2
  · rw [List.getElem?_append_right (by omega)] at e1
    rw [List.getElem?_append_right (by rw [← h.len]; omega), ← h.len] at e2
    exact k.at' _ w y e1 e2
theorem NwL.app {H0 H : Hp} {us ws : List V} (h : NwL H0 H us) (k : NwL H0 H ws) : NwL H0 H (us ++ ws) := fun v hv => (List.mem_append.mp hv).elim (h v) (k v)
def sp_falike_ahead (_ : PySem.W.Frag) : Sp := fun vs H Q _ => ∃ (op qp : Addr) (xs ts : List Str), vs = [.ref op, .ref qp] ∧ H op = some (.lst (xs.map V.str)) ∧ H qp = some (.lst (ts.map V.str)) ∧ ∀ n : Nat, n ≤ xs.length → n ≤ ts.length → xs.take n = ts.take n → Q (.int (n : Int)) H
def sp_fgathered (_ : PySem.W.Frag) : Sp := fun vs H Q _ => ∃ (o : Nat) (pp : Addr) (ps : List Str), vs = [.int (o : Int), .ref pp] ∧ H pp = some (.lst (ps.map V.str)) ∧ ∀ H' p us, Same H H' → H p = none → H' p = some (.lst us) → CgsAt (L2.del H' p) us (gath o ps) → (∀ v ∈ us, ∀ q l, v = .ref q → H' q = some (.tup [.str "put", .ref l]) → l = pp) → Q (.ref p) H'
def sp_fjoined (_ : PySem.W.Frag) : Sp := fun vs H Q _ => ∃ sp us st, vs = [.ref sp] ∧ H sp = some (.lst us) ∧ StsAt H us st ∧ st.length ≤ 2400 ∧ ∀ H' p ws ch, Same H H' → H p = none → CM H' p ws ch → NwL H H' ws → (∀ v ∈ ws, ∀ q l, v = .ref q → H' q = some (.tup [.str "put", .ref l]) → l ≠ p) → Eqv st ch → Fm ch → Q (.ref p) H'
def sp_fsteps_between (_ : PySem.W.Frag) : Sp := fun vs H Q _ => ∃ (op qp : Addr) (xs ts : List Str), vs = [.ref op, .ref qp] ∧ H op = some (.lst (xs.map V.str)) ∧ H qp = some (.lst (ts.map V.str)) ∧ xs.length ≤ 1200 ∧ ts.length ≤ 1200 ∧
  ∀ H' p us st, Same H H' → H p = none → H' p = some (.lst us) → StsAt H' us st → st.length ≤ xs.length + ts.length → tot st = xs.length → mk st xs = ts → csum st = dI xs ts → Q (.ref p) H'
def sp_fleast_change (_ : PySem.W.Frag) : Sp := fun vs H Q _ => ∃ (op qp : Addr) (xs ts : List Str), vs = [.ref op, .ref qp] ∧ H op = some (.lst (xs.map V.str)) ∧ H qp = some (.lst (ts.map V.str)) ∧ xs.length ≤ 1200 ∧ ts.length ≤ 1200 ∧
  ∀ H' p ws ch, Same H H' → H p = none → CM H' p ws ch → NwL H H' ws → (∀ v ∈ ws, ∀ q l, v = .ref q → H' q = some (.tup [.str "put", .ref l]) → l ≠ p) → tot ch = xs.length → mk ch xs = ts → csum ch = dI xs ts → Fm ch → Q (.ref p) H'
def sp_fcost_of (_ : PySem.W.Frag) : Sp := fun vs H Q _ => ∃ cp us ch, vs = [.ref cp] ∧ CM H cp us ch ∧ ∀ H', Same H H' → Q (.int (csum ch)) H'
section
variable {K : PySem.W.Frag} {vs : List V} {H : Hp} {Q : VK} {E : XK}
theorem len_falike_ahead (h : sp_falike_ahead K vs H Q E) : vs.length = 2 := by obtain ⟨_, _, _, _, rfl, _⟩ := h; rfl
theorem len_fgathered (h : sp_fgathered K vs H Q E) : vs.length = 2 := by obtain ⟨_, _, _, rfl, _⟩ := h; rfl
theorem len_fjoined (h : sp_fjoined K vs H Q E) : vs.length = 1 := by obtain ⟨_, _, _, rfl, _⟩ := h; rfl
theorem len_fsteps_between (h : sp_fsteps_between K vs H Q E) : vs.length = 2 := by obtain ⟨_, _, _, _, rfl, _⟩ := h; rfl
theorem len_fleast_change (h : sp_fleast_change K vs H Q E) : vs.length = 2 := by obtain ⟨_, _, _, _, rfl, _⟩ := h; rfl
theorem len_fcost_of (h : sp_fcost_of K vs H Q E) : vs.length = 1 := by obtain ⟨_, _, _, rfl, _⟩ := h; rfl
end
def SBInv (H1 : Hp) (op qp tp lp : Addr) (xs ts : List Str) (m : Nat) (σ : List (Option V)) (H3 : Hp) : Prop := ∃ (a b : Nat) (us : List V) (st : List Cg),
  σ = [some (.ref op), some (.ref qp), some (.ref tp), some (.ref lp), some (.int (a : Int)), some (.int (b : Int))] ∧ Same H1 H3 ∧ H3 lp = some (.lst us) ∧ StsAt (L2.del H3 lp) us st ∧
  a ≤ xs.length ∧ b ≤ ts.length ∧ st.length ≤ a + b ∧ tot st = a ∧ mk st xs = ts.take b ∧ csum st + dI (xs.drop a) (ts.drop b) = dI xs ts ∧ m = (xs.length - a) + (ts.length - b)
theorem dl_upd {H : Hp} {p : Addr} {o : HO} : Same (L2.del H p) (L2.del (L2.upd H p o) p) := fun b u q => by
  by_cases e : b = p
  · subst e; rw [del_at] at q; cases q
  · rw [del_ne e] at q ⊢
    rw [upd_ne e]
    exact q
theorem sb_more {H1 H3 H4 : Hp} {op qp tp lp q : Addr} {xs ts : List Str} {a' b' : Nat} {us : List V} {st : List Cg} {x : Cg} (s3 : Same H1 H3) (g : H1 lp = none) (s4 : Same H3 H4) (c3 : StsAt (L2.del H3 lp) us st) (hq : StpAt (L2.del H4 lp) (.ref q) x)
    (h1 : a' ≤ xs.length) (h2 : b' ≤ ts.length) (h3 : st.length + 1 ≤ a' + b') (h4 : tot (st ++ [x]) = a') (h5 : mk (st ++ [x]) xs = ts.take b') (h6 : csum (st ++ [x]) + dI (xs.drop a') (ts.drop b') = dI xs ts) :
    SBInv H1 op qp tp lp xs ts ((xs.length - a') + (ts.length - b')) [some (.ref op), some (.ref qp), some (.ref tp), some (.ref lp), some (.int (a' : Int)), some (.int (b' : Int))] (L2.upd H4 lp (.lst (us ++ [.ref q]))) :=
  ⟨a', b', us ++ [.ref q], st ++ [x], rfl, (s3.trans s4).wr g, upd_same, ((c3.same s4.cuts).app (StsAt.one hq)).same dl_upd, h1, h2, by rw [List.length_append, List.length_singleton]; omega, h4, h5, h6, rfl⟩
theorem sb_keep {xs ts : List Str} {a b : Nat} {st : List Cg} {x : Str} (ht : tot st = a) (hm : mk st xs = ts.take b) (hc : csum st + dI (xs.drop a) (ts.drop b) = dI xs ts) (ex : xs[a]? = some x) (ey : ts[b]? = some x) :
    tot (st ++ [.keep 1]) = a + 1 ∧ mk (st ++ [.keep 1]) xs = ts.take (b + 1) ∧ csum (st ++ [.keep 1]) + dI (xs.drop (a + 1)) (ts.drop (b + 1)) = dI xs ts := by
  refine ⟨by rw [tot_snoc, ht]; rfl, ?_, ?_⟩
  · rw [mk_snoc, hm, ht, drop_at ex, take_snoc ey]; rfl
  · rw [csum_app, csum_keep]; rw [drop_at ex, drop_at ey, dI_eq] at hc; omega
theorem sb_out {xs ts : List Str} {a b : Nat} {st : List Cg} {x : Str} (ht : tot st = a) (hm : mk st xs = ts.take b) (hc : csum st + dI (xs.drop a) (ts.drop b) = dI xs ts) (ex : xs[a]? = some x) (hlt : dI (xs.drop (a + 1)) (ts.drop b) < dI (xs.drop a) (ts.drop b)) :
    tot (st ++ [.out 1]) = a + 1 ∧ mk (st ++ [.out 1]) xs = ts.take b ∧ csum (st ++ [.out 1]) + dI (xs.drop (a + 1)) (ts.drop b) = dI xs ts := by
  refine ⟨by rw [tot_snoc, ht]; rfl, ?_, ?_⟩
  · rw [mk_snoc, hm]; show _ ++ [] = _; rw [List.append_nil]
  · rw [drop_at ex] at hlt
    have := dI_out hlt
    rw [csum_app, csum_out]; rw [drop_at ex] at hc; omega
theorem sb_put {xs ts : List Str} {a b : Nat} {st : List Cg} {y : Str} (ht : tot st = a) (hm : mk st xs = ts.take b) (hc : csum st + dI (xs.drop a) (ts.drop b) = dI xs ts) (ey : ts[b]? = some y) (he : dI (xs.drop a) (ts.drop b) = 1 + dI (xs.drop a) (ts.drop (b + 1))) :
    tot (st ++ [.put [y]]) = a ∧ mk (st ++ [.put [y]]) xs = ts.take (b + 1) ∧ csum (st ++ [.put [y]]) + dI (xs.drop a) (ts.drop (b + 1)) = dI xs ts := by
  refine ⟨by rw [tot_snoc, ht]; rfl, ?_, ?_⟩
  · rw [mk_snoc, hm, take_snoc ey]; rfl
  · rw [csum_app, csum_put, List.length_singleton]; omega
abbrev dd (H : Hp) (p fp : Addr) : Hp := L2.del (L2.del H p) fp
theorem dd_same {H : Hp} {p fp : Addr} : Same (dd H p fp) H := del_same.trans del_same
theorem dd_get {H : Hp} {p fp b : Addr} {u : HO} (h : dd H p fp b = some u) : b ≠ p ∧ b ≠ fp ∧ H b = some u := by
  have h2 : b ≠ fp := fun z => by unfold dd at h; rw [z, del_at] at h; cases h
  unfold dd at h
  rw [del_ne h2] at h
  have h1 : b ≠ p := fun z => by rw [z, del_at] at h; cases h
  rw [del_ne h1] at h
  exact ⟨h1, h2, h⟩
theorem dd_put {H : Hp} {p fp b : Addr} {u : HO} (h1 : b ≠ p) (h2 : b ≠ fp) (h : H b = some u) : dd H p fp b = some u := by
  unfold dd
  rw [del_ne h2, del_ne h1]; exact h
theorem _root_.L2.CgsAt.to {H H' : Hp} {us : List V} {ch : List Cg} (c : CgsAt H us ch) (ht : ∀ q xs, H q = some (.tup xs) → H' q = some (.tup xs)) (hl : ∀ v ∈ us, ∀ q l zs, v = .ref q → H q = some (.tup [.str "put", .ref l]) → H l = some (.lst zs) → H' l = some (.lst zs)) : CgsAt H' us ch := by
  refine ⟨c.len, fun i v x e1 e2 => ?_⟩
  have h := c.at' i v x e1 e2
  cases x with
  | keep n => obtain ⟨q, e, h⟩ := h; exact ⟨q, e, ht _ _ h⟩
  | out n => obtain ⟨q, e, h⟩ := h; exact ⟨q, e, ht _ _ h⟩
  | put ts => obtain ⟨q, l, e, h, h2⟩ := h; exact ⟨q, l, e, ht _ _ h, hl v (List.mem_of_getElem? e1) q l _ e h h2⟩
theorem cg_tup {H : Hp} {v : V} : ∀ {x : Cg}, CgAt H v x → ∃ q xs, v = .ref q ∧ H q = some (.tup xs)
  | .keep _, ⟨q, e, h⟩ => ⟨q, _, e, h⟩
  | .out _, ⟨q, e, h⟩ => ⟨q, _, e, h⟩
  | .put _, ⟨q, l, e, h, hl⟩ => ⟨q, _, e, h⟩
theorem _root_.L2.CgsAt.back {H H' : Hp} {us : List V} {ch : List Cg} (c : CgsAt H us ch) (ht : ∀ q xs, H q = some (.tup xs) → H' q = some (.tup xs)) {v : V} (hv : v ∈ us) {q : Addr} {ys : List V} (e : v = .ref q) (h : H' q = some (.tup ys)) : H q = some (.tup ys) := by
  obtain ⟨i, hi, ei⟩ := List.mem_iff_getElem.mp hv
  obtain ⟨x, _, hx⟩ := c.step (i := i) (v := v) (by rw [List.getElem?_eq_getElem hi, ei])
  obtain ⟨q', xs, e', ho⟩ := cg_tup hx
  rw [e] at e'
  cases e'
  have h2 := ht _ _ ho
  rw [h] at h2
  cases h2
  exact ho
theorem _root_.L2.CgsAt.lst {H : Hp} {us : List V} {ch : List Cg} (c : CgsAt H us ch) {v : V} (hv : v ∈ us) {q l : Addr} (e : v = .ref q) (h : H q = some (.tup [.str "put", .ref l])) : ∃ zs, H l = some (.lst zs) := by
  obtain ⟨i, hi, ei⟩ := List.mem_iff_getElem.mp hv
  obtain ⟨x, _, hx⟩ := c.step (i := i) (v := v) (by rw [List.getElem?_eq_getElem hi, ei])
  cases x with
  | keep n =>
    obtain ⟨q', e', h'⟩ := hx
    rw [e] at e'; cases e'; rw [h] at h'
    cases (List.cons.inj (HO.tup.inj (Option.some.inj h'))).2
  | out n =>
    obtain ⟨q', e', h'⟩ := hx
    rw [e] at e'; cases e'; rw [h] at h'
    cases (List.cons.inj (HO.tup.inj (Option.some.inj h'))).2
  | put ts =>
    obtain ⟨q', l', e', h', h2⟩ := hx
    rw [e] at e'; cases e'; rw [h] at h'; cases h'
    exact ⟨_, h2⟩
theorem NwL.to {H0 H H' : Hp} {us : List V} {ch : List Cg} (n : NwL H0 H us) (c : CgsAt H us ch) (ht : ∀ q xs, H q = some (.tup xs) → H' q = some (.tup xs)) : NwL H0 H' us := fun v hv q l e h => n v hv q l e (c.back ht hv e h)
theorem gath_big {o : Nat} {ps : List Str} (h1 : o ≤ 3000) (h2 : ps.length ≤ 3000) : ∀ x ∈ gath o ps, x.big := fun x hx => by
  unfold gath at hx
  rcases List.mem_append.mp hx with h | h
  · split at h
    · rw [List.mem_singleton.mp h]; exact h1
    · cases h
  · split at h
    · rw [List.mem_singleton.mp h]; exact h2
    · cases h
theorem gath_len (o : Nat) (ps : List Str) : (gath o ps).length ≤ 2 := by
  unfold gath
  rw [List.length_append]
  split <;> split <;> simp
theorem app_big {c d : List Cg} (h : ∀ x ∈ c, x.big) (k : ∀ x ∈ d, x.big) : ∀ x ∈ c ++ d, x.big := fun x hx => (List.mem_append.mp hx).elim (h x) (k x)
theorem hand_gath (ch : List Cg) (o : Nat) (ps : List Str) : Eqv (hand ch 0 o ps) (ch ++ gath o ps) := by
  unfold hand
  exact (Eqv.refl ch).app ((eqv_keep0.app (gath_eqv o ps)).trans (Eqv.refl _))
theorem hand_keepEnd (ch : List Cg) (k : Nat) : Eqv (hand ch k 0 []) (ch ++ [.keep k]) := by
  have e : Eqv ([.out 0] ++ [.put []]) [] := eqv_out0.app eqv_put0
  unfold hand
  exact (Eqv.refl ch).app (eqv_nilr _ e)
theorem hand_cong {c d : List Cg} (h : Eqv c d) (k o : Nat) (ps : List Str) : Eqv (hand c k o ps) (hand d k o ps) := h.app (Eqv.refl _)
structure JSt (H H2 : Hp) (cp pp : Addr) (st : List Cg) (j : Nat) (us : List V) (ch : List Cg) (k o : Nat) (ps : List Str) : Prop where
  same : Same H H2
  newp : H pp = none
  ne : pp ≠ cp
  atc : H2 cp = some (.lst us)
  atp : H2 pp = some (.lst (ps.map V.str))
  its : CgsAt (dd H2 cp pp) us ch
  nw : NwL H H2 us
  eqv : Eqv (st.take j) (hand ch k o ps)
  one : k = 0 ∨ (o = 0 ∧ ps = [])
  fm : Fm ch
  endN : 0 < k → EndN ch
  endK : 0 < o + ps.length → EndK ch
  nil : k = 0 → o = 0 → ps = [] → ch = []
  lk : k ≤ j
  lo : o ≤ j
  lp : ps.length ≤ j
  lc : ch.length ≤ 2 * j
  big : ∀ x ∈ ch, x.big
theorem JSt.tups {H H2 : Hp} {cp pp : Addr} {st : List Cg} {j : Nat} {us : List V} {ch : List Cg} {k o : Nat} {ps : List Str} (J : JSt H H2 cp pp st j us ch k o ps) : CgsAt H2 us ch := J.its.same dd_same
theorem EndN_nil : EndN [] := fun x e => by cases e
theorem rep_keep : ∀ n : Nat, tot (List.replicate n (.keep 1)) = n ∧ csum (List.replicate n (.keep 1)) = 0 ∧ ∀ r, mk (List.replicate n (.keep 1)) r = r.take n
  | 0 => ⟨rfl, rfl, fun r => rfl⟩
  | n + 1 => by
    obtain ⟨a, b, c⟩ := rep_keep n
    rw [List.replicate_succ']
    refine ⟨by rw [tot_snoc, a]; rfl, by rw [csum_app, b, csum_keep]; rfl, fun r => ?_⟩
    rw [mk_snoc, c, a]
    show r.take n ++ (r.drop n).take 1 = _
    rw [List.take_add]
theorem mk_ext : ∀ (c : List Cg) (r s : List Str), tot c ≤ r.length → mk c (r ++ s) = mk c r
  | [], _, _, _ => rfl
  | x :: c, r, s, h => by
    have e : tot (x :: c) = x.used + tot c := by unfold tot; rw [List.map_cons, List.sum_cons]
    rw [e] at h
    show x.made (r ++ s) ++ mk c ((r ++ s).drop x.used) = x.made r ++ mk c (r.drop x.used)
    have h1 : x.made (r ++ s) = x.made r := by
      cases x with
      | keep n => show (r ++ s).take n = r.take n; exact List.take_append_of_le_length (by have : n + tot c ≤ r.length := h; omega)
      | out n => rfl
      | put ts => rfl
    rw [h1, List.drop_append_of_le_length (by omega), mk_ext c _ s (by rw [List.length_drop]; omega)]
theorem NwL.mono {H0 H1 H : Hp} {us : List V} (n : NwL H1 H us) (s : Same H0 H1) : NwL H0 H us := fun v hv q l e h => s.free (n v hv q l e h)
theorem ends_of {xs ts : List Str} {n k : Nat} (n1 : n ≤ xs.length) (n2 : n ≤ ts.length) (n3 : xs.take n = ts.take n) (k1 : k ≤ (xs.drop n).reverse.length) (k2 : k ≤ (ts.drop n).reverse.length) (k3 : (xs.drop n).reverse.take k = (ts.drop n).reverse.take k) :
    ∃ p s : List Str, p.length = n ∧ s.length = k ∧ xs = p ++ ((xs.drop n).take (xs.length - k - n) ++ s) ∧ ts = p ++ ((ts.drop n).take (ts.length - k - n) ++ s) := by
  rw [List.length_reverse, List.length_drop] at k1 k2
  have ea : (xs.drop n).drop (xs.length - k - n) = ((xs.drop n).reverse.take k).reverse := by
    rw [List.take_reverse (xs := xs.drop n), List.reverse_reverse, List.length_drop]
    congr 1
    omega
  have eb : (ts.drop n).drop (ts.length - k - n) = ((ts.drop n).reverse.take k).reverse := by
    rw [List.take_reverse (xs := ts.drop n), List.reverse_reverse, List.length_drop]
    congr 1
    omega
  refine ⟨xs.take n, (xs.drop n).drop (xs.length - k - n), by rw [List.length_take]; omega, by rw [List.length_drop, List.length_drop]; omega, ?_, ?_⟩
  · rw [List.take_append_drop, List.take_append_drop]
  · rw [ea, k3, ← eb, List.take_append_drop, n3, List.take_append_drop]
theorem eqv_strs : ∀ (xs ts : List Str), PyData.eqvAll (xs.map PyData.str) (ts.map PyData.str) = true → xs = ts
  | [], [], _ => rfl
  | [], _ :: _, h => by cases h
  | _ :: _, [], h => by cases h
  | x :: xs, t :: ts, h => by
    have h' : (x == t && PyData.eqvAll (xs.map PyData.str) (ts.map PyData.str)) = true := h
    rw [Bool.and_eq_true] at h'
    rw [beq_iff_eq.mp h'.1, eqv_strs xs ts h'.2]
theorem zero_eqv {xs ts : List Str} (hx : ∀ t ∈ xs, IsT t) : decide (V.int (dI xs ts) = V.int 0) = PyData.eqv (.list (xs.map PyData.str)) (.list (ts.map PyData.str)) := by
  by_cases e : xs = ts
  · subst e
    have ly : (PyData.list (xs.map PyData.str)).canLay0 = true := lay_strs hx
    rw [SeqAt.eqv_refl _ ly, dI_zero]
    exact decide_eq_true rfl
  · have h1 : PyData.eqv (.list (xs.map PyData.str)) (.list (ts.map PyData.str)) = false := by
      cases q : PyData.eqv (.list (xs.map PyData.str)) (.list (ts.map PyData.str)) with
      | false => rfl
      | true => exact absurd (eqv_strs xs ts q) e
    rw [h1]
    exact decide_eq_false fun z => e (dI_eq_zero (V.int.inj z))
theorem dep1 (xs ts : List Str) : min (PyData.list (xs.map PyData.str)).depth (PyData.list (ts.map PyData.str)).depth ≤ 64 := by
  show min (PyData.depthAll _ + 1) (PyData.depthAll _ + 1) ≤ 64
  rw [dep_strs, dep_strs]
  decide
def sp_fdiffer_little (_ : PySem.W.Frag) : Sp := fun vs H Q _ => ∃ (a b : Addr) (us ws : List Int), vs = [.ref a, .ref b] ∧ H a = some (.lst (us.map V.int)) ∧ H b = some (.lst (ws.map V.int)) ∧ us.length ≤ 100 ∧ ws.length ≤ 100 ∧ ∀ H', Same H H' → Q (.bl (diffOk us ws)) H'
def sp_fis_square (_ : PySem.W.Frag) : Sp := fun vs H Q _ => ∃ p rs R m k, vs = [.ref p, .int m, .int k] ∧ TT2 H p rs R ∧ ∀ H', Same H H' → Q (.bl (decide ((R.length : Int) = m) && R.all fun z => decide ((z.length : Int) = k))) H'
def sp_fare_prices (_ : PySem.W.Frag) : Sp := fun vs H Q _ => ∃ (op qp : Addr) (xs ts : List Str) (p : Addr) (rs : List Addr) (R : List (List Int)), vs = [.ref op, .ref qp, .ref p] ∧ H op = some (.lst (xs.map V.str)) ∧ H qp = some (.lst (ts.map V.str)) ∧ xs.length ≤ 12 ∧ ts.length ≤ 12 ∧ TT2 H p rs R ∧
  (AreP xs ts R → ∀ H', Same H H' → Q (.bl true) H') ∧ (¬ AreP xs ts R → ∀ H', Same H H' → Q (.bl false) H')
section
variable {K : PySem.W.Frag} {vs : List V} {H : Hp} {Q : VK} {E : XK}
theorem len_fdiffer_little (h : sp_fdiffer_little K vs H Q E) : vs.length = 2 := by obtain ⟨_, _, _, _, rfl, _⟩ := h; rfl
theorem len_fis_square (h : sp_fis_square K vs H Q E) : vs.length = 3 := by obtain ⟨_, _, _, _, _, rfl, _⟩ := h; rfl
theorem len_fare_prices (h : sp_fare_prices K vs H Q E) : vs.length = 3 := by obtain ⟨_, _, _, _, _, _, _, rfl, _⟩ := h; rfl
end
def sp_f_law_costs (_ : PySem.W.Frag) : Sp := fun vs H Q _ => ∃ (op qp : Addr) (xs ts : List Str), vs = [.ref op, .ref qp] ∧ H op = some (.lst (xs.map V.str)) ∧ H qp = some (.lst (ts.map V.str)) ∧ xs.length ≤ 12 ∧ ts.length ≤ 12 ∧
  ∀ H' p rs R, Same H H' → TT2 H' p rs R → R.length = xs.length + 1 → (∀ z ∈ R, z.length = ts.length + 1) → Q (.ref p) H'
def sp_f_law_bent (_ : PySem.W.Frag) : Sp := fun vs H Q _ => ∃ (d p : Addr) (n : Nat) (rs : List Addr) (R : List (List Int)), vs = [.ref d, .ref p] ∧ SR H d n ∧ n ≤ 5000 ∧ TT2 (L2.del H d) p rs R ∧ 0 < R.length ∧ R.length ≤ 13 ∧ (∃ w : Nat, 0 < w ∧ w ≤ 13 ∧ ∀ z ∈ R, z.length = w) ∧
  ∀ H' q rs' R', Same (L2.del H d) H' → SR H' d (n + 3) → TT2 (L2.del H' d) q rs' R' → (L2.del H d) q = none → (∀ r ∈ rs', (L2.del H d) r = none) → Q (.ref q) H'
def sp_f_law_free (_ : PySem.W.Frag) : Sp := fun vs H Q _ => ∃ (d op qp : Addr) (n : Nat) (xs ts : List Str), vs = [.ref d, .ref op, .ref qp] ∧ SR H d n ∧ n ≤ 5000 ∧ (L2.del H d) op = some (.lst (xs.map V.str)) ∧ (L2.del H d) qp = some (.lst (ts.map V.str)) ∧ xs.length ≤ 12 ∧ ts.length ≤ 12 ∧
  ∀ H' q rs' R', Same (L2.del H d) H' → TT2 (L2.del H' d) q rs' R' → (L2.del H d) q = none → (∀ r ∈ rs', (L2.del H d) r = none) → Q (.ref q) H'
def TabAt (H : Hp) (v : V) : Prop := ∃ q rs R, v = .ref q ∧ TT2 H q rs R
def sp_f_law_tables (K : PySem.W.Frag) : Sp := fun vs H Q _ => ∃ (sp op qp : Addr) (ns : List Int) (xs ts : List Str), vs = [.ref sp, .ref op, .ref qp] ∧ SqL K H sp (List.map V.int ns) ∧ H op = some (.lst (xs.map V.str)) ∧ H qp = some (.lst (ts.map V.str)) ∧ xs.length ≤ 12 ∧ ts.length ≤ 12 ∧
  ∀ H' p us, Same H H' → H' p = some (.lst us) → us.length ≤ 20 → (∀ v ∈ us, TabAt H' v) → Q (.ref p) H'
section
variable {K : PySem.W.Frag} {vs : List V} {H : Hp} {Q : VK} {E : XK}
theorem len_f_law_costs (h : sp_f_law_costs K vs H Q E) : vs.length = 2 := by obtain ⟨_, _, _, _, rfl, _⟩ := h; rfl
theorem len_f_law_bent (h : sp_f_law_bent K vs H Q E) : vs.length = 2 := by obtain ⟨_, _, _, _, _, rfl, _⟩ := h; rfl
theorem len_f_law_free (h : sp_f_law_free K vs H Q E) : vs.length = 3 := by obtain ⟨_, _, _, _, _, _, rfl, _⟩ := h; rfl
theorem len_f_law_tables (h : sp_f_law_tables K vs H Q E) : vs.length = 3 := by obtain ⟨_, _, _, _, _, _, rfl, _⟩ := h; rfl
end
def Okij (xs ts : List Str) (R : List (List Int)) (i j : Nat) : Prop := (i < xs.length → -1 ≤ tP R (i + 1) j - tP R i j ∧ tP R (i + 1) j - tP R i j ≤ 1) ∧ (j < ts.length → -1 ≤ tP R i (j + 1) - tP R i j ∧ tP R i (j + 1) - tP R i j ≤ 1) ∧
  ∀ x, xs[i]? = some x → ts[j]? = some x → tP R i j ≤ tP R (i + 1) (j + 1)
theorem ixN_nat {n : Nat} {k : Int} {j : Nat} (h : k = (j : Int)) (hj : j < n) : ixN n k = some j := by
  subst h
  unfold ixN
  rw [if_pos (by omega), if_pos (by omega)]
  simp
theorem ixN_last {n m : Nat} (h : n = m + 1) : ixN n (-1) = some m := by
  subst h
  unfold ixN
  rw [if_neg (by decide), if_pos (by omega)]
  congr 1
  omega
theorem set_ints (z : List Int) (j : Nat) (v : Int) : (z.map V.int).set j (V.int v) = (z.set j v).map V.int := by rw [List.map_set]
theorem rep_ints (n : Nat) (c : Int) : (List.replicate n [V.int c]).flatten = (List.replicate n c).map V.int := by rw [List.flatten_replicate_singleton, List.map_replicate]
theorem TT2.cons {H : Hp} {p q r : Addr} {rs : List Addr} {R : List (List Int)} {z : List Int} (h : TT2 H p rs R) (hq : H q = some (.lst (V.ref r :: rs.map V.ref))) (hr : H r = some (.lst (z.map V.int))) (f1 : R.length + 1 ≤ 100) (f2 : z.length ≤ 100) : TT2 H q (r :: rs) (z :: R) := by
  refine ⟨hq, by rw [List.length_cons, List.length_cons, h.len], fun i r' z' e1 e2 => ?_, f1, fun z' hz' => ?_⟩
  · cases i with
    | zero => cases e1; cases e2; exact hr
    | succ i => exact h.row i r' z' (by simpa using e1) (by simpa using e2)
  · rcases List.mem_cons.mp hz' with rfl | h'
    · exact f2
    · exact h.fewr z' h'
theorem TT2.snoc {H H' : Hp} {p q r : Addr} {rs : List Addr} {R : List (List Int)} {z : List Int} (h : TT2 H p rs R) (ht : ∀ (i : Nat) r' z', rs[i]? = some r' → R[i]? = some z' → H' r' = some (.lst (z'.map V.int))) (hq : H' q = some (.lst (rs.map V.ref ++ [V.ref r]))) (hr : H' r = some (.lst (z.map V.int))) (f1 : R.length + 1 ≤ 100) (f2 : z.length ≤ 100) : TT2 H' q (rs ++ [r]) (R ++ [z]) := by
  refine ⟨by rw [hq, List.map_append]; rfl, by rw [List.length_append, List.length_append, h.len]; rfl, fun i r' z' e1 e2 => ?_, by rw [List.length_append, List.length_singleton]; exact f1, fun z' hz' => ?_⟩
  · by_cases hi : i < rs.length
    · rw [List.getElem?_append_left hi] at e1
      rw [List.getElem?_append_left (by rw [← h.len]; exact hi)] at e2
      exact ht i r' z' e1 e2
    · rw [List.getElem?_append_right (by omega)] at e1
      rw [List.getElem?_append_right (by rw [← h.len]; omega), ← h.len] at e2
      cases hk : i - rs.length with
      | zero => rw [hk] at e1 e2; cases e1; cases e2; exact hr
      | succ k => rw [hk] at e1; cases e1
  · rcases List.mem_append.mp hz' with h' | h'
    · exact h.fewr z' h'
    · rw [List.mem_singleton.mp h']; exact f2
theorem del_upd {H : Hp} {d r : Addr} {o : HO} (n : r ≠ d) : L2.del (L2.upd H r o) d = L2.upd (L2.del H d) r o := by
  funext b
  by_cases e : b = r
  · subst e; rw [del_ne n, upd_same, upd_same]
  · rw [upd_ne e]
    by_cases e2 : b = d
    · subst e2; rw [del_at, del_at]
    · rw [del_ne e2, del_ne e2, upd_ne e]
theorem tt_wr {H : Hp} {p : Addr} {rs : List Addr} {R : List (List Int)} {rl : Addr} {z' : List Int} (h : TT2 H p rs R) (np : rl ≠ p) (f : z'.length ≤ 100) : ∃ R', TT2 (L2.upd H rl (.lst (z'.map V.int))) p rs R' ∧ R'.length = R.length := by
  have hl : ((rs.zip R).map fun q => if q.1 = rl then z' else q.2).length = R.length := by rw [List.length_map, List.length_zip, h.len, Nat.min_self]
  refine ⟨(rs.zip R).map fun q => if q.1 = rl then z' else q.2, ⟨by rw [upd_ne np.symm]; exact h.at', by rw [hl]; exact h.len, fun i r z e1 e2 => ?_, by rw [hl]; exact h.few, fun z hz => ?_⟩, hl⟩
  · rw [List.getElem?_map] at e2
    cases q : (rs.zip R)[i]? with
    | none => rw [q] at e2; cases e2
    | some w' =>
      rw [q] at e2
      obtain ⟨a, b⟩ := w'
      rw [List.getElem?_zip_eq_some] at q
      have ea : a = r := by have := q.1; rw [e1] at this; exact (Option.some.inj this).symm
      subst ea
      have e2' : (if a = rl then z' else b) = z := Option.some.inj e2
      by_cases he : a = rl
      · rw [if_pos he] at e2'; rw [he, upd_same, e2']
      · rw [if_neg he] at e2'; rw [upd_ne he, ← e2']; exact h.row i a b e1 q.2
  · obtain ⟨q, hq, e⟩ := List.mem_map.mp hz
    rw [← e]
    split
    · exact f
    · obtain ⟨a, b⟩ := q
      exact h.fewr b (List.of_mem_zip hq).2
structure TW (H : Hp) (p : Addr) (rs : List Addr) : Prop where
  at' : H p = some (.lst (rs.map V.ref))
  few : rs.length ≤ 100
  row : ∀ r ∈ rs, ∃ z : List Int, z.length ≤ 100 ∧ H r = some (.lst (z.map V.int))
theorem TW.tt {H : Hp} {p : Addr} {rs : List Addr} (h : TW H p rs) : ∃ R, TT2 H p rs R := by
  have all : ∀ rs : List Addr, (∀ r ∈ rs, ∃ z : List Int, z.length ≤ 100 ∧ H r = some (.lst (z.map V.int))) → ∃ R : List (List Int), rs.length = R.length ∧ (∀ (i : Nat) r z, rs[i]? = some r → R[i]? = some z → H r = some (.lst (z.map V.int))) ∧ ∀ z ∈ R, z.length ≤ 100 := fun rs => by
    induction rs with
    | nil => exact fun _ => ⟨[], rfl, (fun i r z a => by cases a), (fun _ z => nomatch z)⟩
    | cons r rs ih =>
      intro h
      obtain ⟨R, a, b, c⟩ := ih fun r hr => h r (List.mem_cons_of_mem _ hr)
      obtain ⟨z, lz, hz⟩ := h r (by simp)
      refine ⟨z :: R, by rw [List.length_cons, List.length_cons, a], fun i r' z' e1 e2 => ?_, fun z' hz' => ?_⟩
      · cases i with
        | zero => cases e1; cases e2; exact hz
        | succ i => exact b i r' z' (by simpa using e1) (by simpa using e2)
      · rcases List.mem_cons.mp hz' with rfl | h'
        · omega
        · exact c z' h'
  obtain ⟨R, a, b, c⟩ := all rs h.row
  exact ⟨R, h.at', a, b, by rw [← a]; have := h.few; omega, c⟩
theorem TW.same {H H' : Hp} {p : Addr} {rs : List Addr} (h : TW H p rs) (s : Same H H') : TW H' p rs := ⟨s _ _ h.at', h.few, fun r hr => by
  obtain ⟨z, a, b⟩ := h.row r hr
  exact ⟨z, a, s _ _ b⟩⟩
theorem TW.wr {H : Hp} {p ra : Addr} {rs : List Addr} {z : List Int} (h : TW H p rs) (n : ra ≠ p) (lz : z.length ≤ 100) : TW (L2.upd H ra (.lst (z.map V.int))) p rs := ⟨by rw [upd_ne n.symm]; exact h.at', h.few, fun r hr => by
  by_cases e : r = ra
  · rw [e, upd_same]; exact ⟨z, lz, rfl⟩
  · rw [upd_ne e]; exact h.row r hr⟩
theorem TW.lst {H : Hp} {p : Addr} {rs rs' : List Addr} (h : TW H p rs) (hp : ∀ r ∈ rs', r ≠ p ∧ ∃ z : List Int, z.length ≤ 100 ∧ H r = some (.lst (z.map V.int))) (few : rs'.length ≤ 100) : TW (L2.upd H p (.lst (rs'.map V.ref))) p rs' := ⟨upd_same, few, fun r hr => by
  obtain ⟨a, b⟩ := hp r hr
  rw [upd_ne a]; exact b⟩
theorem dd_upd {H : Hp} {p fp : Addr} {o : HO} : Same (dd H p fp) (dd (upd H fp o) p fp) := fun b u q => by
  unfold dd at q ⊢
  by_cases e : b = fp
  · subst e; rw [del_at] at q; cases q
  · rw [del_ne e] at q ⊢
    by_cases e2 : b = p
    · subst e2; rw [del_at] at q; cases q
    · rw [del_ne e2] at q ⊢
      rw [upd_ne e]
      exact q
def Tb (H : Hp) (d fp : Addr) (v : V) : Prop := ∃ q rx, v = .ref q ∧ TW (dd H d fp) q rx
theorem Tb.same {H H' : Hp} {d fp : Addr} {v : V} (h : Tb H d fp v) (s : Same (dd H d fp) (dd H' d fp)) : Tb H' d fp v := by
  obtain ⟨q, rx, e, t⟩ := h
  exact ⟨q, rx, e, t.same s⟩
theorem TT2.tw {H : Hp} {p : Addr} {rs : List Addr} {R : List (List Int)} (h : TT2 H p rs R) (f1 : R.length ≤ 100) (f2 : ∀ z ∈ R, z.length ≤ 100) : TW H p rs := ⟨h.at', by rw [h.len]; exact f1, fun r hr => by
  obtain ⟨i, hi, e⟩ := List.mem_iff_getElem.mp hr
  obtain ⟨z, ez⟩ := get_of_lt (ts := R) (j := i) (by rw [← h.len]; exact hi)
  exact ⟨z, f2 z (List.mem_of_getElem? ez), h.row i r z (by rw [List.getElem?_eq_getElem hi, e]) ez⟩⟩
theorem erase_map {α β : Type} (f : α → β) : ∀ (l : List α) (k : Nat), (l.map f).eraseIdx k = (l.eraseIdx k).map f
  | [], _ => rfl
  | _ :: _, 0 => rfl
  | a :: l, k + 1 => by
    show f a :: (l.map f).eraseIdx k = f a :: (l.eraseIdx k).map f
    rw [erase_map f l k]
theorem tw_del {H : Hp} {d q : Addr} {rx : List Addr} (h : TW H q rx) (n1 : q ≠ d) (n2 : ∀ r ∈ rx, r ≠ d) : TW (L2.del H d) q rx := ⟨by rw [del_ne n1]; exact h.at', h.few, fun r hr => by
  obtain ⟨z, a, b⟩ := h.row r hr
  exact ⟨z, a, by rw [del_ne (n2 r hr)]; exact b⟩⟩
def Mk (Hb : Hp) (i : Nat) (ys : List V) (H' : Hp) : Prop := ∃ rx : List Addr, ys = rx.map V.ref ∧ rx.length = i ∧ Same Hb H' ∧ ∀ r ∈ rx, Hb r = none ∧ ∃ z : List Int, z.length ≤ 100 ∧ H' r = some (.lst (z.map V.int))
theorem mk_nil (Hb : Hp) : Mk Hb 0 [] Hb := ⟨[], rfl, rfl, Same.refl _, fun _ z => nomatch z⟩
theorem mk_more {Hb H' H'' : Hp} {i : Nat} {ys : List V} {l : Addr} {z : List Int} (m : Mk Hb i ys H') (s : Same H' H'') (f : H' l = none) (e : H'' l = some (.lst (z.map V.int))) (lz : z.length ≤ 100) : Mk Hb (i + 1) (ys ++ [.ref l]) H'' := by
  obtain ⟨rx, rfl, hrx, sX, eX⟩ := m
  refine ⟨rx ++ [l], by rw [List.map_append]; rfl, by rw [List.length_append, List.length_singleton, hrx], sX.trans s, fun r' hr' => ?_⟩
  rcases List.mem_append.mp hr' with h | h
  · obtain ⟨f1, z', a, b⟩ := eX r' h
    exact ⟨f1, z', a, s _ _ b⟩
  · rw [List.mem_singleton.mp h]
    exact ⟨sX.free f, z, lz, e⟩
theorem mk_end {Hb H' : Hp} {i : Nat} {ys : List V} {q : Addr} (m : Mk Hb i ys H') (hi : i ≤ 100) (hq : H' q = none) : ∃ rx, Same Hb (L2.upd H' q (.lst ys)) ∧ TW (L2.upd H' q (.lst ys)) q rx ∧ Hb q = none ∧ ∀ r ∈ rx, Hb r = none := by
  obtain ⟨rx, rfl, hrx, sX, eX⟩ := m
  refine ⟨rx, sX.up hq, ⟨upd_same, by omega, fun r hr => ?_⟩, sX.free hq, fun r hr => (eX r hr).1⟩
  obtain ⟨_, z', a, b⟩ := eX r hr
  exact ⟨z', a, (Same.new hq) _ _ b⟩
theorem lay3 {xs ts : List Str} (hx : ∀ t ∈ xs, IsT t) (ht : ∀ t ∈ ts, IsT t) (R : List (List Int)) : (PyData.list [.list (xs.map PyData.str), .list (ts.map PyData.str), .list (R.map fun z => PyData.list (z.map PyData.int))]).canLay0 = true := by
  show (PyData.canLayAll0 (xs.map PyData.str) && (PyData.canLayAll0 (ts.map PyData.str) && (PyData.canLayAll0 (R.map fun z => PyData.list (z.map PyData.int)) && true))) = true
  rw [lay_strs hx, lay_strs ht, lay_rows R]
  rfl
theorem dep3 (xs ts : List Str) (R : List (List Int)) : min (PyData.list [.list (xs.map PyData.str), .list (ts.map PyData.str), .list (R.map fun z => PyData.list (z.map PyData.int))]).depth (PyData.list [.list (xs.map PyData.str), .list (ts.map PyData.str), .list (R.map fun z => PyData.list (z.map PyData.int))]).depth ≤ 64 := by
  have e : (PyData.list [.list (xs.map PyData.str), .list (ts.map PyData.str), .list (R.map fun z => PyData.list (z.map PyData.int))]).depth = max (PyData.depthAll (xs.map PyData.str) + 1) (max (PyData.depthAll (ts.map PyData.str) + 1) (max (PyData.depthAll (R.map fun z => PyData.list (z.map PyData.int)) + 1) 0)) + 1 := rfl
  have := dep_rows R
  rw [e, dep_strs, dep_strs]
  omega
def sp_f_law_walked (_ : PySem.W.Frag) : Sp := fun vs H Q _ => ∃ (d op qp : Addr) (n : Nat) (xs ts : List Str), vs = [.ref d, .ref op, .ref qp] ∧ SR H d n ∧ n ≤ 5000 ∧ (L2.del H d) op = some (.lst (xs.map V.str)) ∧ (L2.del H d) qp = some (.lst (ts.map V.str)) ∧ xs.length ≤ 12 ∧ ts.length ≤ 12 ∧
  ∀ H' c, Same (L2.del H d) H' → SR H' d (n + 24) → dI xs ts ≤ c → Q (.int c) H'
theorem len_f_law_walked {K : PySem.W.Frag} {vs : List V} {H : Hp} {Q : VK} {E : XK} (h : sp_f_law_walked K vs H Q E) : vs.length = 3 := by obtain ⟨_, _, _, _, _, _, rfl, _⟩ := h; rfl
def WkInv (H : Hp) (d op qp : Addr) (n : Nat) (xs ts : List Str) (m : Nat) (σ : List (Option V)) (H3 : Hp) : Prop := ∃ (c i j : Nat) (u6 u7 : Option V), σ = [some (.ref d), some (.ref op), some (.ref qp), some (.int (c : Int)), some (.int (i : Int)), some (.int (j : Int)), u6, u7] ∧ Same (L2.del H d) H3 ∧ SR H3 d (n + (i + j)) ∧ i ≤ xs.length ∧ j ≤ ts.length ∧ dI xs ts ≤ (c : Int) + dI (xs.drop i) (ts.drop j) ∧ m = (xs.length - i) + (ts.length - j)
theorem areP_le {xs ts : List Str} {R : List (List Int)} (h : AreP xs ts R) : ∀ (m i j : Nat), m = (xs.length - i) + (ts.length - j) → i ≤ xs.length → j ≤ ts.length → tP R i j ≤ dI (xs.drop i) (ts.drop j) := by
  intro m
  induction m using Nat.strongRecOn with
  | ind m ih =>
    intro i j hm hi hj
    by_cases h1 : i < xs.length
    · obtain ⟨x, ex⟩ := get_of_lt h1
      have ha := ih ((xs.length - (i + 1)) + (ts.length - j)) (by omega) (i + 1) j rfl (by omega) hj
      have hd := h.down i j h1 hj
      by_cases h2 : j < ts.length
      · obtain ⟨y, ey⟩ := get_of_lt h2
        have hb := ih ((xs.length - i) + (ts.length - (j + 1))) (by omega) i (j + 1) rfl hi (by omega)
        have hr := h.right i j hi h2
        by_cases he : x = y
        · subst he
          have hk := h.kept i j x ex ey
          have hc := ih ((xs.length - (i + 1)) + (ts.length - (j + 1))) (by omega) (i + 1) (j + 1) rfl (by omega) (by omega)
          rw [drop_at ex, drop_at ey, dI_eq]
          omega
        · rw [drop_at ex] at hb
          rw [drop_at ey] at ha
          rw [drop_at ex, drop_at ey, dI_ne he]
          split <;> omega
      · have e1 : ts.drop j = [] := List.drop_eq_nil_iff.mpr (by omega)
        rw [e1] at ha ⊢
        rw [drop_at ex]
        rw [dI_nil2] at ha ⊢
        rw [List.length_cons]
        omega
    · have e0 : xs.drop i = [] := List.drop_eq_nil_iff.mpr (by omega)
      by_cases h2 : j < ts.length
      · obtain ⟨y, ey⟩ := get_of_lt h2
        have hb := ih ((xs.length - i) + (ts.length - (j + 1))) (by omega) i (j + 1) rfl hi (by omega)
        have hr := h.right i j hi h2
        rw [e0] at hb ⊢
        rw [drop_at ey, dI_nil_cons]
        omega
      · have ei : i = xs.length := by omega
        have ej : j = ts.length := by omega
        subst ei ej
        rw [List.drop_length, List.drop_length, h.zero]
        exact (dI_bounds _ _).1
def RI (xs ts : List Str) : List (List Int) := (List.range (xs.length + 1)).map fun i => (List.range (ts.length + 1)).map fun j => dI (xs.drop i) (ts.drop j)
theorem RI_at (xs ts : List Str) {i : Nat} (h : i ≤ xs.length) : (RI xs ts)[i]? = some ((List.range (ts.length + 1)).map fun j => dI (xs.drop i) (ts.drop j)) := map_range_get (fun i => (List.range (ts.length + 1)).map fun j => dI (xs.drop i) (ts.drop j)) (Nat.lt_succ_of_le h)
theorem RI_tP (xs ts : List Str) {i j : Nat} (h : i ≤ xs.length) (hj : j ≤ ts.length) : tP (RI xs ts) i j = dI (xs.drop i) (ts.drop j) := by
  rw [tP_at (RI_at xs ts h), List.getD_eq_getElem?_getD, map_range_get (fun j => dI (xs.drop i) (ts.drop j)) (Nat.lt_succ_of_le hj)]
  rfl
theorem RI_len (xs ts : List Str) : (RI xs ts).length = xs.length + 1 := by unfold RI; rw [List.length_map, List.length_range]
theorem RI_row (xs ts : List Str) : ∀ r ∈ RI xs ts, r.length = ts.length + 1 := fun r hr => by
  obtain ⟨i, _, e⟩ := List.mem_map.mp hr
  rw [← e, List.length_map, List.length_range]
theorem RI_are (xs ts : List Str) : AreP xs ts (RI xs ts) := by
  refine ⟨RI_len xs ts, RI_row xs ts, ?_, fun i j hi hj => ?_, fun i j hi hj => ?_, fun i j x e1 e2 => ?_⟩
  · rw [RI_tP xs ts (Nat.le_refl _) (Nat.le_refl _), List.drop_length, List.drop_length]; rfl
  · obtain ⟨x, ex⟩ := get_of_lt hi
    rw [RI_tP xs ts (by omega) hj, RI_tP xs ts (by omega) hj, drop_at ex]
    exact dI_more x _ _
  · obtain ⟨y, ey⟩ := get_of_lt hj
    rw [RI_tP xs ts hi (by omega), RI_tP xs ts hi (by omega), drop_at ey]
    exact dI_more2 y _ _
  · have h1 := (List.getElem?_eq_some_iff.mp e1).1
    have h2 := (List.getElem?_eq_some_iff.mp e2).1
    rw [RI_tP xs ts (by omega) (by omega), RI_tP xs ts (by omega) (by omega), drop_at e1, drop_at e2, dI_eq]
    exact Int.le_refl _
theorem TB.tt {H0 H : Hp} {p : Addr} {xs ts : List Str} {rs : List Addr} (h : TB H0 H p xs ts rs) (l1 : xs.length ≤ 12) (l2 : ts.length ≤ 12) : TT2 H p rs (RI xs ts) := by
  refine ⟨h.at', by rw [RI_len]; exact h.len, fun i r z e1 e2 => ?_, by rw [RI_len]; omega, fun z hz => by rw [RI_row xs ts z hz]; omega⟩
  have hi : i < rs.length := (List.getElem?_eq_some_iff.mp e1).1
  rw [RI_at xs ts (by rw [h.len] at hi; omega)] at e2
  cases e2
  rw [h.row i r e1]
  unfold rowV
  rw [List.map_map]
  rfl
theorem sc_fprice_row : FnScope ["text", "other", "below", "last", "row", "place"] ["text", "other", "below", "last"] (defScope s_fprice_row) := ⟨rfl, rfl, rfl, by decide +kernel, rfl, by decide +kernel, by decide +kernel⟩
theorem sc_fdiffer_little : FnScope ["some", "others"] ["some", "others"] (defScope s_fdiffer_little) := ⟨rfl, rfl, rfl, by decide +kernel, rfl, by decide +kernel, by decide +kernel⟩
theorem sc_fis_square : FnScope ["some", "many", "of_each"] ["some", "many", "of_each"] (defScope s_fis_square) := ⟨rfl, rfl, rfl, by decide +kernel, rfl, by decide +kernel, by decide +kernel⟩
theorem sc_falike_ahead : FnScope ["one", "other", "many"] ["one", "other"] (defScope s_falike_ahead) := ⟨rfl, rfl, rfl, by decide +kernel, rfl, by decide +kernel, by decide +kernel⟩
theorem sc_fgathered : FnScope ["outs", "puts", "change"] ["outs", "puts"] (defScope s_fgathered) := ⟨rfl, rfl, rfl, by decide +kernel, rfl, by decide +kernel, by decide +kernel⟩
theorem sc_fcost_of : FnScope ["change"] ["change"] (defScope s_fcost_of) := ⟨rfl, rfl, rfl, by decide +kernel, rfl, by decide +kernel, by decide +kernel⟩
theorem sc_f_law_begun : FnScope ["_law_script", "_law_k", "_law_cell"] ["_law_script", "_law_k"] (defScope s_f_law_begun) := ⟨rfl, rfl, rfl, by decide +kernel, rfl, by decide +kernel, by decide +kernel⟩
theorem sc_f_law_draw : FnScope ["_law_state", "_law_many", "_law_number"] ["_law_state", "_law_many"] (defScope s_f_law_draw) := ⟨rfl, rfl, rfl, by decide +kernel, rfl, by decide +kernel, by decide +kernel⟩
theorem sc_f_law_costs : FnScope ["_law_one", "_law_other", "_law_rows", "_law_i", "_law_text", "_law_ahead", "_law_row", "_law_k", "_law_j"] ["_law_one", "_law_other"] (defScope s_f_law_costs) := ⟨rfl, rfl, rfl, by decide +kernel, rfl, by decide +kernel, by decide +kernel⟩
theorem sc_fprices : FnScope ["one", "other", "rows", "place"] ["one", "other"] (defScope s_fprices) := ⟨rfl, rfl, rfl, by decide +kernel, rfl, by decide +kernel, by decide +kernel⟩
theorem sc_fare_prices : FnScope ["one", "other", "some", "row", "text", "below", "kept"] ["one", "other", "some"] (defScope s_fare_prices) := ⟨rfl, rfl, rfl, by decide +kernel, rfl, by decide +kernel, by decide +kernel⟩
theorem sc_fjoined : FnScope ["steps", "change", "kept", "outs", "puts", "kind", "text"] ["steps"] (defScope s_fjoined) := ⟨rfl, rfl, rfl, by decide +kernel, rfl, by decide +kernel, by decide +kernel⟩
theorem sc_f_law_menu : FnScope ["_law_script", "_law_state", "_law_signs", "_law_found", "_law_k", "_law_text"] ["_law_script"] (defScope s_f_law_menu) := ⟨rfl, rfl, rfl, by decide +kernel, rfl, by decide +kernel, by decide +kernel⟩
theorem sc_f_law_texts : FnScope ["_law_script", "_law_k", "_law_menu_here", "_law_state", "_law_found", "_law_turn"] ["_law_script", "_law_k", "_law_menu_here"] (defScope s_f_law_texts) := ⟨rfl, rfl, rfl, by decide +kernel, rfl, by decide +kernel, by decide +kernel⟩
theorem sc_f_law_near : FnScope ["_law_script", "_law_k", "_law_menu_here", "_law_one", "_law_state", "_law_found", "_law_text", "_law_way"] ["_law_script", "_law_k", "_law_menu_here", "_law_one"] (defScope s_f_law_near) := ⟨rfl, rfl, rfl, by decide +kernel, rfl, by decide +kernel, by decide +kernel⟩
theorem sc_f_law_bent : FnScope ["_law_state", "_law_rows", "_law_made", "_law_way", "_law_at", "_law_to"] ["_law_state", "_law_rows"] (defScope s_f_law_bent) := ⟨rfl, rfl, rfl, by decide +kernel, rfl, by decide +kernel, by decide +kernel⟩
theorem sc_f_law_free : FnScope ["_law_state", "_law_one", "_law_other", "_law_many", "_law_rows", "_law_i"] ["_law_state", "_law_one", "_law_other"] (defScope s_f_law_free) := ⟨rfl, rfl, rfl, by decide +kernel, rfl, by decide +kernel, by decide +kernel⟩
theorem sc_f_law_walked : FnScope ["_law_state", "_law_one", "_law_other", "_law_found", "_law_i", "_law_j", "_law_way", "_law_both"] ["_law_state", "_law_one", "_law_other"] (defScope s_f_law_walked) := ⟨rfl, rfl, rfl, by decide +kernel, rfl, by decide +kernel, by decide +kernel⟩
theorem sc_fsteps_between : FnScope ["one", "other", "table", "steps", "at", "its"] ["one", "other"] (defScope s_fsteps_between) := ⟨rfl, rfl, rfl, by decide +kernel, rfl, by decide +kernel, by decide +kernel⟩
theorem sc_f_law_two : FnScope ["_law_script", "_law_menu_here", "_law_one"] ["_law_script"] (defScope s_f_law_two) := ⟨rfl, rfl, rfl, by decide +kernel, rfl, by decide +kernel, by decide +kernel⟩
theorem sc_f_law_tables : FnScope ["_law_script", "_law_one", "_law_other", "_law_rows", "_law_state", "_law_found", "_law_turn"] ["_law_script", "_law_one", "_law_other"] (defScope s_f_law_tables) := ⟨rfl, rfl, rfl, by decide +kernel, rfl, by decide +kernel, by decide +kernel⟩
theorem sc_fleast_change : FnScope ["one", "other", "ahead", "behind", "steps"] ["one", "other"] (defScope s_fleast_change) := ⟨rfl, rfl, rfl, by decide +kernel, rfl, by decide +kernel, by decide +kernel⟩
theorem sc_flaw : FnScope ["_law_script", "_law_one", "_law_other", "_law_costs_here", "_law_k", "_law_state", "_law_turn", "_law_told", "_law_some"] ["_law_script"] (defScope s_flaw) := ⟨rfl, rfl, rfl, by decide +kernel, rfl, by decide +kernel, by decide +kernel⟩
section
variable {P : Program} {w : World} {K : PySem.W.Frag} {mg : Str → Option Value} {base : Heap} {d : Adr} {tk : Str → Tok}
theorem ok_fprice_row (T : Txt K mg d tk) : FnOk P w K mg base CX0 1 d.fprice_row d.fprice_rowd ["text", "other", "below", "last"] (sp_fprice_row K) := by
  refine T.F_fprice_row.ok sc_fprice_row (fun vs H Q E h => len_fprice_row h) (fun cdv A outer s H vs Q E hr h => ?_)
  have hu : (A.deeper (envOfC "price_row" (defScope s_fprice_row) s.heap.objs.size d.fprice_row cdv)).units < cLine := hr.units0
  refine ⟨_, (@pss_cons _ _ _ _ _ (@ps_set _ _ (4) _ _ _ _ sc_fprice_row.nd rfl (Or.inl rfl) (@pe_lstA _ _ _ _ (@pa_cons _ _ _ _ _ (@pv _ 3 _ _ rfl (Or.inl rfl) rfl rfl) (@pa_nil _) (by rfl))) (by rfl) (by first | exact .inl rfl | exact .inr rfl)) (@pss_cons _ _ _ _ _ (@ps_for _ _ _ _ _ _ _ _ PassesOwn.never rfl (@pi_rangeD _ _ _ _ _ _ _ _ (by rfl) T.b_range (@pa_cons _ _ _ _ _ (@pe_op _ _ _ _ _ _ _ _ op_sub (@pe_callB _ _ _ _ _ _ _ _ _ call_len_seq (by rfl) T.b_len boot_len (@pa_cons _ _ _ _ _ (@pv _ 1 _ _ rfl (Or.inl rfl) rfl rfl) (@pa_nil _) (by rfl)) (by decide) (by decide) (by rfl) (by rfl)) (@pe_int _ _ _ _)) (@pa_cons _ _ _ _ _ (@pe_un _ _ _ _ _ _ un_neg (@pe_int _ _ _ _)) (@pa_cons _ _ _ _ _ (@pe_un _ _ _ _ _ _ un_neg (@pe_int _ _ _ _)) (@pa_nil _) (by rfl)) (by rfl)) (by rfl)) (by rfl) (by rfl)) (@pg_name _ _ (5) _ sc_fprice_row.nd rfl (Or.inl rfl) (by first | exact .inl rfl | exact .inr rfl)) (@pss_one _ _ _ (@ps_if _ _ _ _ _ _ _ _ (@pt_cmpR _ _ _ _ _ _ _ _ op_eq (@pv _ 0 _ _ rfl (Or.inl rfl) rfl rfl) (@pe_ix _ _ _ _ _ _ _ ix_list (@pv _ 1 _ _ rfl (Or.inl rfl) rfl rfl) (@pv _ 5 _ _ rfl (Or.inl rfl) rfl rfl) (fun _ _ => rfl)) (nomark _)) (@pss_one _ _ _ (@ps_expr _ _ _ _ (@pe_bm _ _ _ _ _ _ _ _ _ _ _ _ PySem.F.plainAttrs_list PySem.F.slot_list_append PySem.F.type_list_append mt_append (@pv _ 4 _ _ rfl (Or.inl rfl) rfl rfl) (@pa_cons _ _ _ _ _ (@pe_ix _ _ _ _ _ _ _ ix_list (@pv _ 2 _ _ rfl (Or.inl rfl) rfl rfl) (@pe_op _ _ _ _ _ _ _ _ op_add (@pv _ 5 _ _ rfl (Or.inl rfl) rfl rfl) (@pe_int _ _ _ _)) (fun _ _ => rfl)) (@pa_nil _) (by rfl)) (by rfl) (by rfl) (by rfl) (by rfl) (by rfl)) (by rfl))) (@pss_one _ _ _ (@ps_expr _ _ _ _ (@pe_bm _ _ _ _ _ _ _ _ _ _ _ _ PySem.F.plainAttrs_list PySem.F.slot_list_append PySem.F.type_list_append mt_append (@pv _ 4 _ _ rfl (Or.inl rfl) rfl rfl) (@pa_cons _ _ _ _ _ (@pe_op _ _ _ _ _ _ _ _ op_add (@pe_int _ _ _ _) (@pe_callB _ _ _ _ _ _ _ _ _ (call_min2 rfl) (by rfl) T.b_min boot_min (@pa_cons _ _ _ _ _ (@pe_ix _ _ _ _ _ _ _ ix_list (@pv _ 2 _ _ rfl (Or.inl rfl) rfl rfl) (@pv _ 5 _ _ rfl (Or.inl rfl) rfl rfl) (fun _ _ => rfl)) (@pa_cons _ _ _ _ _ (@pe_ix _ _ _ _ _ _ _ ix_list (@pv _ 4 _ _ rfl (Or.inl rfl) rfl rfl) (@pe_un _ _ _ _ _ _ un_neg (@pe_int _ _ _ _)) (fun _ _ => rfl)) (@pa_nil _) (by rfl)) (by rfl)) (by decide) (by decide) (by rfl) (by rfl))) (@pa_nil _) (by rfl)) (by rfl) (by rfl) (by rfl) (by rfl) (by rfl)) (by rfl))))) (by intro _; rfl)) (@pss_one _ _ _ (@ps_ret _ _ _ _ (@pe_revL _ _ _ _ _ _ _ (@pv _ 4 _ _ rfl (Or.inl rfl) rfl rfl) (@po_some _ _ _ (@pe_un _ _ _ _ _ _ un_neg (@pe_int _ _ _ _)))))))), ?_⟩
  obtain ⟨x, op, bp, a, ts, l, rfl, ht, hb, hl, hm, kk⟩ := h
  refine ⟨_, rfl, szOk rfl, fun rp H1 g1 s1 e1 => ?_⟩
  have e1' : H1 rp = some (.lst (rowR (x :: a) ts 0)) := by rw [e1, rowR_zero, hl]; rfl
  have hlen : ((ts.map V.str).length : Int) = (ts.length : Int) := by rw [List.length_map]
  have hn : (((ts.map V.str).length : Int) - 1 - -1).toNat = ts.length := by omega
  refine ⟨_, rfl, op, _, rfl, .inl (SqL.of (s1 _ _ ht)), _, _, rfl, rfl, _, rfl, _, rfl, _, _, rfl, ⟨by omega, by omega, by decide, by decide⟩, for_down (n := (((ts.map V.str).length : Int) - 1 - -1).toNat) (fun k σ H2 => ∃ u5 : Option V, σ = [some (.str x), some (.ref op), some (.ref bp), some (.int l), some (.ref rp), u5] ∧ Same H H2 ∧ H2 rp = some (.lst (rowR (x :: a) ts k)))
    ⟨none, rfl, s1, e1'⟩ ?_ ?_⟩
  · rintro k σ H2 hk ⟨u5, rfl, s2, e2⟩
    have hk' : k < ts.length := by omega
    have ei : ((ts.map V.str).length : Int) - 1 - (k : Int) = ((ts.length - 1 - k : Nat) : Int) := by omega
    rw [ei]
    obtain ⟨y, hy⟩ := get_of_lt (ts := ts) (j := ts.length - 1 - k) (by omega)
    have hd : ts.drop (ts.length - (k + 1)) = y :: ts.drop (ts.length - k) := by
      rw [show ts.length - (k + 1) = ts.length - 1 - k from by omega, drop_at hy, show ts.length - 1 - k + 1 = ts.length - k from by omega]
    have rl := rowR_len (x :: a) ts k
    have sm : (rowR (x :: a) ts k).length < sizeLine := small6000 (by omega)
    refine ⟨_, rfl, _, rfl, _, rfl, op, _, _, _, rfl, rfl, SqL.of (s2 _ _ ht), strs_at hy, rfl, _, rfl, ?_⟩
    by_cases he : x = y
    · refine itT (decide_eq_true (by rw [he])) ?_
      refine ⟨_, rfl, .inl ⟨rfl, _, SqL.of e2⟩, _, rfl, _, rfl, _, _, rfl, rfl, bp, _, ((ts.length - k : Nat) : Int), V.int (dI a (ts.drop (ts.length - k))), rfl, ?_, SqL.of (s2 _ _ hb), rowV_I a ts (by omega), rp, _, _, rfl, rfl, e2, sm, ?_⟩
      · show V.int _ = V.int _
        congr 1
        omega
      · exact ⟨_, rfl, s2.wr g1, by rw [upd_same, rowR_snoc, hd, he, dI_eq]⟩
    · refine itF (decide_eq_false (fun z => he (V.str.inj z))) ?_
      refine ⟨_, rfl, .inl ⟨rfl, _, SqL.of e2⟩, _, rfl, _, rfl, bp, _, _, _, rfl, rfl, SqL.of (s2 _ _ hb), rowV_I a ts (by omega), _, rfl, _, rfl, rp, _, _, _, rfl, rfl, SqL.of e2, atI_end rl (rowR_at (x :: a) ts (Nat.le_refl k)), _, _, rfl, _, _, rfl, rfl, rp, _, _, rfl, rfl, e2, sm, ?_⟩
      refine ⟨_, rfl, s2.wr g1, ?_⟩
      rw [upd_same, rowR_snoc, hd, dI_ne he, show ts.drop (ts.length - 1 - k) = y :: ts.drop (ts.length - k) from by rw [← hd]; congr 1; omega]
  · rintro σ H2 ⟨u5, rfl, s2, e2⟩
    rw [hn] at e2
    refine ⟨_, rfl, _, rfl, _, rfl, rfl, rp, _, rfl, SqL.of e2, fun p H3 g3 s3 e3 => kk H3 p (s2.trans s3) (s2.free g3) ?_⟩
    rw [e3, rowR_rev]
theorem ok_fdiffer_little (T : Txt K mg d tk) : FnOk P w K mg base CX0 1 d.fdiffer_little d.fdiffer_littled ["some", "others"] (sp_fdiffer_little K) := by
  refine T.F_fdiffer_little.ok sc_fdiffer_little (fun vs H Q E h => len_fdiffer_little h) (fun cdv A outer s H vs Q E hr h => ?_)
  have hu : (A.deeper (envOfC "differ_little" (defScope s_fdiffer_little) s.heap.objs.size d.fdiffer_little cdv)).units < cLine := hr.units0
  refine ⟨_, (@pss_one _ _ _ (@ps_ret _ _ _ _ (@pe_callB _ _ _ _ _ _ _ _ _ (call_all rfl) (by rfl) T.b_all boot_all (@pa_cons _ _ _ _ _ (@pe_lcomp _ _ _ _ _ _ _ (["price", "other"]) ([]) _ _ _ _ _ rfl (@pi_zip _ _ _ _ _ _ _ _ _ (by rfl) T.b_zip (@pa_cons _ _ _ _ _ (@pv _ 0 _ _ rfl (Or.inl rfl) rfl rfl) (@pa_cons _ _ _ _ _ (@pv _ 1 _ _ rfl (Or.inl rfl) rfl rfl) (@pa_nil _) (by rfl)) (by rfl)) (by rfl) (by rfl)) ⟨rfl, by decide +kernel, by decide +kernel⟩ (caps0 (by decide +kernel)) (fun _ _ _ => (@pg_tup _ _ _ _ _ (2) rfl (@pgs_cons _ _ _ _ _ (@pg_name _ _ (0) _ (by show List.Nodup (["price", "other"] : List Str); decide +kernel) rfl (Or.inl rfl) (by first | exact .inl rfl | exact .inr rfl)) (@pgs_cons _ _ _ _ _ (@pg_name _ _ (1) _ (by show List.Nodup (["price", "other"] : List Str); decide +kernel) rfl (Or.inl rfl) (by first | exact .inl rfl | exact .inr rfl)) (@pgs_nil _) (by rfl)) (by rfl)) (by rfl) (by rfl))) (fun _ => fresh_pair rfl rfl (by decide)) (fun _ _ _ => (@pts_nil _)) (fun _ _ _ => (@pe_chain _ _ _ _ _ _ _ _ _ _ _ _ op_le op_le (@pe_un _ _ _ _ _ _ un_neg (@pe_int _ _ _ _)) (@pe_op _ _ _ _ _ _ _ _ op_sub (@pv _ 0 _ _ rfl (Or.inl rfl) rfl rfl) (@pv _ 1 _ _ rfl (Or.inl rfl) rfl rfl)) (@pe_int _ _ _ _) (by with_unfolding_all rfl))) (by intro _; rfl)) (@pa_nil _) (by rfl)) (by decide) (by decide) (by rfl) (by rfl)))), ?_⟩
  obtain ⟨a, b, us, ws, rfl, ha, hb, hl, hl2, kk⟩ := h
  refine ⟨_, rfl, _, rfl, a, b, rfl, ⟨_, SqL.of ha⟩, ⟨_, SqL.of hb⟩, lc_zip (xs := us.map V.int) (ys := ws.map V.int) (big (by rw [List.length_map]; omega)) (fun i zs H' => zs = (((us.zip ws).take i).map fun p => V.bl (decide (-1 ≤ p.1 - p.2) && decide (p.1 - p.2 ≤ 1))) ∧ Same H H') ⟨rfl, Same.refl H⟩ (fun i zs H' q => ⟨SqL.of (q.2 _ _ ha), SqL.of (q.2 _ _ hb)⟩) (fun i x y zs H' p K1 K0 hx hy q hp k1 k0 => ?_) fun H' p zs q hz hp => ?_⟩
  · obtain ⟨rfl, s1⟩ := q
    rw [List.getElem?_map] at hx hy
    cases e1 : us[i]? with
    | none => rw [e1] at hx; cases hx
    | some u =>
      cases e2 : ws[i]? with
      | none => rw [e2] at hy; cases hy
      | some w' =>
        rw [e1] at hx
        rw [e2] at hy
        cases hx
        cases hy
        have ez : (us.zip ws)[i]? = some (u, w') := by rw [List.getElem?_zip_eq_some]; exact ⟨e1, e2⟩
        have et := take_snoc ez
        refine ⟨p, _, rfl, SqT.of upd_same, rfl, _, _, rfl, _, _, rfl, rfl, ?_⟩
        refine iteT (B := K0 _) ?_
        refine ⟨_, rfl, _, rfl, _, rfl, _, _, rfl, rfl, _, _, rfl, rfl, _, rfl, ?_⟩
        by_cases h1 : (-1 : Int) ≤ u - w'
        · refine itT (decide_eq_true h1) ⟨_, _, rfl, rfl, k1 _ _ ⟨?_, s1.up hp⟩⟩
          rw [et, List.map_append]
          show _ = _ ++ [V.bl (decide ((-1 : Int) ≤ u - w') && decide (u - w' ≤ 1))]
          rw [decide_eq_true h1]
          rfl
        · refine itF (decide_eq_false h1) (k1 _ _ ⟨?_, s1.up hp⟩)
          rw [et, List.map_append]
          show _ = _ ++ [V.bl (decide ((-1 : Int) ≤ u - w') && decide (u - w' ≤ 1))]
          rw [decide_eq_false h1]
          rfl
  · obtain ⟨rfl, s1⟩ := q
    have et : (us.zip ws).take (min (us.map V.int).length (ws.map V.int).length) = us.zip ws := List.take_of_length_le (by rw [List.length_zip, List.length_map, List.length_map]; exact Nat.le_refl _)
    rw [et]
    refine ⟨p, (us.zip ws).map fun p => (decide (-1 ≤ p.1 - p.2) && decide (p.1 - p.2 ≤ 1)), rfl, ?_, ?_⟩
    · rw [List.map_map]
      exact SqL.of upd_same
    · rw [List.all_map]
      exact kk _ (s1.up hp)
theorem ok_fis_square (T : Txt K mg d tk) : FnOk P w K mg base CX0 1 d.fis_square d.fis_squared ["some", "many", "of_each"] (sp_fis_square K) := by
  refine T.F_fis_square.ok sc_fis_square (fun vs H Q E h => len_fis_square h) (fun cdv A outer s H vs Q E hr h => ?_)
  have hu : (A.deeper (envOfC "is_square" (defScope s_fis_square) s.heap.objs.size d.fis_square cdv)).units < cLine := hr.units0
  refine ⟨_, (@pss_one _ _ _ (@ps_ret _ _ _ _ (@pe_and _ _ _ _ _ _ _ (@pe_cmpR _ _ _ _ _ _ _ _ op_eq (@pe_callB _ _ _ _ _ _ _ _ _ call_len_seq (by rfl) T.b_len boot_len (@pa_cons _ _ _ _ _ (@pv _ 0 _ _ rfl (Or.inl rfl) rfl rfl) (@pa_nil _) (by rfl)) (by decide) (by decide) (by rfl) (by rfl)) (@pv _ 1 _ _ rfl (Or.inl rfl) rfl rfl) (nomark _)) (@pe_one _ _ _ _ _ (@pe_callB _ _ _ _ _ _ _ _ _ (call_all rfl) (by rfl) T.b_all boot_all (@pa_cons _ _ _ _ _ (@pe_lcomp _ _ _ _ _ _ _ (["row"]) ([("of_each", 2)]) _ _ _ _ _ rfl (@pi_list _ _ _ _ (@pv _ 0 _ _ rfl (Or.inl rfl) rfl rfl)) ⟨rfl, by decide +kernel, by decide +kernel⟩ (caps_def (defScope s_fis_square) ["some", "many", "of_each"] rfl rfl (fun _ h => cell_has h) (by decide +kernel) (by decide +kernel) (by decide +kernel)) (fun _ _ _ => (@pg_name _ _ (0) _ (by show List.Nodup (["row", "of_each"] : List Str); decide +kernel) rfl (Or.inl rfl) (by first | exact .inl rfl | exact .inr rfl))) (fun _ => fresh_name rfl) (fun _ _ _ => (@pts_nil _)) (fun _ _ _ => (@pe_cmpR _ _ _ _ _ _ _ _ op_eq (@pe_callB _ _ _ _ _ _ _ _ _ (call_len_seqK (K := K) rfl) (by rfl) T.b_len boot_len (@pa_cons _ _ _ _ _ (@pv _ 0 _ _ rfl (Or.inl rfl) rfl rfl) (@pa_nil _) (by rfl)) (by decide) (by decide) (by rfl) (by rfl)) (@pv _ 1 _ _ rfl (Or.inr (Or.inl rfl)) rfl rfl) (nomark _))) (by intro _; rfl)) (@pa_nil _) (by rfl)) (by decide) (by decide) (by rfl) (by rfl)))))), ?_⟩
  obtain ⟨p, rs, R, m, k, rfl, tt, kk⟩ := h
  have hlr : (rs.map V.ref).length = R.length := by rw [List.length_map, tt.len]
  refine ⟨_, rfl, p, _, rfl, .inl (SqL.of tt.at'), _, rfl, rfl, _, rfl, ?_⟩
  by_cases hm : (R.length : Int) = m
  · refine itT (decide_eq_true (by rw [hlr, hm])) ?_
    rw [decide_eq_true hm, Bool.true_and] at kk
    have few := tt.few
    refine ⟨_, rfl, p, rfl, ⟨_, SqL.of tt.at'⟩, lc_any (xs := rs.map V.ref) (big (by omega)) (fun i ys H' => ys = ((R.take i).map fun z => V.bl (decide ((z.length : Int) = k))) ∧ H' = H) ⟨rfl, rfl⟩ (fun _ _ H' q => by rw [q.2]; exact SqL.of tt.at') (fun j x ys H' K1 K0 hxj q k1 k0 => ?_) fun H' q ys P _ hq => ?_⟩
    · obtain ⟨rfl, rfl⟩ := q
      obtain ⟨r, z, rfl, e1, e2, e3⟩ := tt.at_i hxj
      refine iteT (B := K0 H') ?_
      refine ⟨_, rfl, r, _, rfl, .inl (SqL.of e3), _, rfl, rfl, k1 _ _ ⟨?_, rfl⟩⟩
      rw [take_snoc e2, List.map_append]
      show _ ++ [V.bl (decide (V.int ((z.map V.int).length : Int) = V.int k))] = _ ++ [V.bl (decide ((z.length : Int) = k))]
      congr 3
      rw [List.length_map]
      by_cases h : (z.length : Int) = k
      · rw [decide_eq_true h, decide_eq_true (by rw [h])]
      · rw [decide_eq_false h, decide_eq_false fun z => h (V.int.inj z)]
    · obtain ⟨rfl, rfl⟩ := P
      rw [hlr, List.take_length]
      refine ⟨q, R.map fun z => decide ((z.length : Int) = k), rfl, ?_, ?_⟩
      · rw [List.map_map]
        exact SqL.of upd_same
      · rw [List.all_map]
        exact kk _ (Same.new hq)
  · refine itF (decide_eq_false fun z => hm (by have := V.int.inj z; omega)) ?_
    rw [decide_eq_false hm, Bool.false_and] at kk
    exact kk H (Same.refl H)
theorem ok_falike_ahead (T : Txt K mg d tk) : FnOk P w K mg base CX0 1 d.falike_ahead d.falike_aheadd ["one", "other"] (sp_falike_ahead K) := by
  refine T.F_falike_ahead.ok sc_falike_ahead (fun vs H Q E h => len_falike_ahead h) (fun cdv A outer s H vs Q E hr h => ?_)
  have hu : (A.deeper (envOfC "alike_ahead" (defScope s_falike_ahead) s.heap.objs.size d.falike_ahead cdv)).units < cLine := hr.units0
  refine ⟨_, (@pss_cons _ _ _ _ _ (@ps_set _ _ (2) _ _ _ _ sc_falike_ahead.nd rfl (Or.inl rfl) (@pe_int _ _ _ _) (by rfl) (by first | exact .inl rfl | exact .inr rfl)) (@pss_cons _ _ _ _ _ (@ps_while _ _ _ _ _ _ PassesOwn.never (@PW.pt _ _ _ (@pw_and _ _ _ _ _ _ _ (@pt_cmpR _ _ _ _ _ _ _ _ op_lt (@pv _ 2 _ _ rfl (Or.inl rfl) rfl rfl) (@pe_callB _ _ _ _ _ _ _ _ _ (call_min2 rfl) (by rfl) T.b_min boot_min (@pa_cons _ _ _ _ _ (@pe_callB _ _ _ _ _ _ _ _ _ call_len_seq (by rfl) T.b_len boot_len (@pa_cons _ _ _ _ _ (@pv _ 0 _ _ rfl (Or.inl rfl) rfl rfl) (@pa_nil _) (by rfl)) (by decide) (by decide) (by rfl) (by rfl)) (@pa_cons _ _ _ _ _ (@pe_callB _ _ _ _ _ _ _ _ _ call_len_seq (by rfl) T.b_len boot_len (@pa_cons _ _ _ _ _ (@pv _ 1 _ _ rfl (Or.inl rfl) rfl rfl) (@pa_nil _) (by rfl)) (by decide) (by decide) (by rfl) (by rfl)) (@pa_nil _) (by rfl)) (by rfl)) (by decide) (by decide) (by rfl) (by rfl)) (nomark _)) (@pw_and1 _ _ _ _ (@pt_cmpR _ _ _ _ _ _ _ _ op_eq (@pe_ix _ _ _ _ _ _ _ ix_list (@pv _ 0 _ _ rfl (Or.inl rfl) rfl rfl) (@pv _ 2 _ _ rfl (Or.inl rfl) rfl rfl) (fun _ _ => rfl)) (@pe_ix _ _ _ _ _ _ _ ix_list (@pv _ 1 _ _ rfl (Or.inl rfl) rfl rfl) (@pv _ 2 _ _ rfl (Or.inl rfl) rfl rfl) (fun _ _ => rfl)) (nomark _))))) (@pss_one _ _ _ (@ps_aug _ _ (2) _ _ _ _ _ _ sc_falike_ahead.nd rfl (Or.inl rfl) (@pe_int _ _ _ _) ip_add (by first | exact .inl rfl | exact .inr rfl)))) (@pss_one _ _ _ (@ps_ret _ _ _ _ (@pv _ 2 _ _ rfl (Or.inl rfl) rfl rfl))))), ?_⟩
  obtain ⟨op, qp, xs, ts, rfl, hx, ht, kk⟩ := h
  have hlx : (xs.map V.str).length = xs.length := List.length_map ..
  have hlt : (ts.map V.str).length = ts.length := List.length_map ..
  refine ⟨fun m σ H2 => ∃ n : Nat, σ = [some (.ref op), some (.ref qp), some (.int (n : Int))] ∧ H2 = H ∧ n ≤ xs.length ∧ n ≤ ts.length ∧ xs.take n = ts.take n ∧ m = xs.length - n, ⟨_, 0, rfl, rfl, Nat.zero_le _, Nat.zero_le _, rfl, rfl⟩, ?_⟩
  rintro m σ H2 ⟨n, rfl, rfl, h1, h2, h3, rfl⟩
  refine ⟨_, rfl, _, rfl, op, _, rfl, .inl (SqL.of hx), _, rfl, qp, _, rfl, .inl (SqL.of ht), _, _, rfl, _, _, rfl, rfl, _, rfl, ite2 (fun hb => ?_) fun hb => itF rfl ⟨_, rfl, kk n h1 h2 h3⟩⟩
  have hb := of_decide_eq_true hb
  have hn : n < xs.length ∧ n < ts.length := by
    by_cases hc : ((ts.map V.str).length : Int) < ((xs.map V.str).length : Int)
    · rw [if_pos hc] at hb; omega
    · rw [if_neg hc] at hb; omega
  obtain ⟨x, ex⟩ := get_of_lt hn.1
  obtain ⟨y, ey⟩ := get_of_lt hn.2
  refine ⟨_, rfl, _, rfl, op, _, _, _, rfl, rfl, SqL.of hx, strs_at ex, _, rfl, _, rfl, qp, _, _, _, rfl, rfl, SqL.of ht, strs_at ey, rfl, _, rfl, ite2 (fun he => ?_) fun _ => ⟨_, rfl, kk n h1 h2 h3⟩⟩
  have he : x = y := V.str.inj (of_decide_eq_true he)
  refine ⟨fun σ' H' => ∃ k : Nat, σ' = [some (.ref op), some (.ref qp), some (.int (k : Int))] ∧ H' = H2 ∧ k ≤ xs.length ∧ k ≤ ts.length ∧ xs.take k = ts.take k ∧ xs.length - (n + 1) = xs.length - k, fun σ' H' ⟨k, q1, q2, q3, q4, q5, q6⟩ => ⟨_, by omega, k, q1, q2, q3, q4, q5, q6⟩, ?_⟩
  exact ⟨_, rfl, _, _, rfl, rfl, n + 1, rfl, rfl, by omega, by omega, by rw [take_snoc ex, take_snoc ey, h3, he], rfl⟩
theorem ok_fgathered (T : Txt K mg d tk) : FnOk P w K mg base CX0 1 d.fgathered d.fgatheredd ["outs", "puts"] (sp_fgathered K) := by
  refine T.F_fgathered.ok sc_fgathered (fun vs H Q E h => len_fgathered h) (fun cdv A outer s H vs Q E hr h => ?_)
  have hu : (A.deeper (envOfC "gathered" (defScope s_fgathered) s.heap.objs.size d.fgathered cdv)).units < cLine := hr.units0
  refine ⟨_, (@pss_cons _ _ _ _ _ (@ps_set _ _ (2) _ _ _ _ sc_fgathered.nd rfl (Or.inl rfl) (@pe_ifExp _ _ _ _ _ _ _ _ (@pt_cmpR _ _ _ _ _ _ _ _ op_gt (@pv _ 0 _ _ rfl (Or.inl rfl) rfl rfl) (@pe_int _ _ _ _) (nomark _)) (@pe_lstA _ _ _ _ (@pa_cons _ _ _ _ _ (@pe_tupA _ _ _ _ _ (@pa_cons _ _ _ _ _ (@pe_str _ _ _ _) (@pa_cons _ _ _ _ _ (@pv _ 0 _ _ rfl (Or.inl rfl) rfl rfl) (@pa_nil _) (by rfl)) (by rfl))) (@pa_nil _) (by rfl))) (@pe_lstA _ _ _ _ (@pa_nil _))) (by rfl) (by first | exact .inl rfl | exact .inr rfl)) (@pss_one _ _ _ (@ps_ret _ _ _ _ (@pe_op _ _ _ _ _ _ _ _ op_catA (@pv _ 2 _ _ rfl (Or.inl rfl) rfl rfl) (@pe_ifExp _ _ _ _ _ _ _ _ (@pt_cmpR _ _ _ _ _ _ _ _ op_gt (@pe_callB _ _ _ _ _ _ _ _ _ call_len_seq (by rfl) T.b_len boot_len (@pa_cons _ _ _ _ _ (@pv _ 1 _ _ rfl (Or.inl rfl) rfl rfl) (@pa_nil _) (by rfl)) (by decide) (by decide) (by rfl) (by rfl)) (@pe_int _ _ _ _) (nomark _)) (@pe_lstA _ _ _ _ (@pa_cons _ _ _ _ _ (@pe_tupA _ _ _ _ _ (@pa_cons _ _ _ _ _ (@pe_str _ _ _ _) (@pa_cons _ _ _ _ _ (@pv _ 1 _ _ rfl (Or.inl rfl) rfl rfl) (@pa_nil _) (by rfl)) (by rfl))) (@pa_nil _) (by rfl))) (@pe_lstA _ _ _ _ (@pa_nil _))))))), ?_⟩
  obtain ⟨o, pp, ps, rfl, hp, kk⟩ := h
  by_cases ho : 0 < o
  · refine ⟨_, rfl, _, _, rfl, rfl, _, rfl, itT (decide_eq_true (by omega)) ⟨_, rfl, szOk rfl, fun q1 H1 g1 s1 e1 => ⟨szOk rfl, fun l1 H2 g2 s2 e2 => ?_⟩⟩⟩
    have s12 := s1.trans s2
    have e1' := s2 _ _ e1
    by_cases hq : 0 < ps.length
    · refine ⟨_, rfl, _, rfl, pp, _, rfl, .inl (SqL.of (s12 _ _ hp)), _, _, rfl, rfl, _, rfl, itT (decide_eq_true (by rw [List.length_map]; omega)) ⟨_, rfl, szOk rfl, fun q3 H3 g3 s3 e3 => ⟨szOk rfl, fun l2 H4 g4 s4 e4 => ?_⟩⟩⟩
      have s24 := s3.trans s4
      refine ⟨l1, l2, _, _, rfl, rfl, s24 _ _ e2, e4, szOk rfl, fun l3 H5 g5 s5 e5 => ?_⟩
      have s25 := s24.trans s5
      have n3 : q3 ≠ l3 := ne_of_none (s4 _ _ e3) g5
      have np : pp ≠ l3 := ne_of_none (s24 _ _ (s12 _ _ hp)) g5
      have n1 : q1 ≠ l3 := ne_of_none (s24 _ _ e1') g5
      refine kk H5 l3 _ (s12.trans s25) ((s12.trans s24).free g5) e5 ?_ ?_
      · unfold gath
        rw [if_pos ho, if_pos hq]
        exact CgsAt.snoc (CgsAt.snoc CgsAt.nil (x := .out o) ⟨q1, rfl, by rw [del_ne n1]; exact s25 _ _ e1'⟩) (x := .put ps) ⟨q3, pp, rfl, by rw [del_ne n3]; exact s5 _ _ (s4 _ _ e3), by rw [del_ne np]; exact s25 _ _ (s12 _ _ hp)⟩
      · intro v hv q l ev hl
        rcases List.mem_append.mp hv with h | h
        · rw [List.mem_singleton.mp h] at ev; cases ev; rw [s25 _ _ e1'] at hl; cases hl
        · rw [List.mem_singleton.mp h] at ev; cases ev; rw [s5 _ _ (s4 _ _ e3)] at hl; cases hl; rfl
    · refine ⟨_, rfl, _, rfl, pp, _, rfl, .inl (SqL.of (s12 _ _ hp)), _, _, rfl, rfl, _, rfl, itF (decide_eq_false (by rw [List.length_map]; omega)) ⟨szOk rfl, fun l2 H4 g4 s24 e4 => ?_⟩⟩
      refine ⟨l1, l2, _, _, rfl, rfl, s24 _ _ e2, e4, szOk rfl, fun l3 H5 g5 s5 e5 => ?_⟩
      have s25 := s24.trans s5
      have n1 : q1 ≠ l3 := ne_of_none (s24 _ _ e1') g5
      refine kk H5 l3 _ (s12.trans s25) ((s12.trans s24).free g5) e5 ?_ ?_
      · unfold gath
        rw [if_pos ho, if_neg hq]
        exact CgsAt.snoc CgsAt.nil (x := .out o) ⟨q1, rfl, by rw [del_ne n1]; exact s25 _ _ e1'⟩
      · intro v hv q l ev hl
        rcases List.mem_append.mp hv with h | h
        · rw [List.mem_singleton.mp h] at ev; cases ev; rw [s25 _ _ e1'] at hl; cases hl
        · cases h
  · refine ⟨_, rfl, _, _, rfl, rfl, _, rfl, itF (decide_eq_false (by omega)) ⟨szOk rfl, fun l1 H2 g2 s12 e2 => ?_⟩⟩
    by_cases hq : 0 < ps.length
    · refine ⟨_, rfl, _, rfl, pp, _, rfl, .inl (SqL.of (s12 _ _ hp)), _, _, rfl, rfl, _, rfl, itT (decide_eq_true (by rw [List.length_map]; omega)) ⟨_, rfl, szOk rfl, fun q3 H3 g3 s3 e3 => ⟨szOk rfl, fun l2 H4 g4 s4 e4 => ?_⟩⟩⟩
      have s24 := s3.trans s4
      refine ⟨l1, l2, _, _, rfl, rfl, s24 _ _ e2, e4, szOk rfl, fun l3 H5 g5 s5 e5 => ?_⟩
      have s25 := s24.trans s5
      have n3 : q3 ≠ l3 := ne_of_none (s4 _ _ e3) g5
      have np : pp ≠ l3 := ne_of_none (s24 _ _ (s12 _ _ hp)) g5
      refine kk H5 l3 _ (s12.trans s25) ((s12.trans s24).free g5) e5 ?_ ?_
      · unfold gath
        rw [if_neg ho, if_pos hq]
        exact CgsAt.snoc CgsAt.nil (x := .put ps) ⟨q3, pp, rfl, by rw [del_ne n3]; exact s5 _ _ (s4 _ _ e3), by rw [del_ne np]; exact s25 _ _ (s12 _ _ hp)⟩
      · intro v hv q l ev hl
        rcases List.mem_append.mp hv with h | h
        · cases h
        · rw [List.mem_singleton.mp h] at ev; cases ev; rw [s5 _ _ (s4 _ _ e3)] at hl; cases hl; rfl
    · refine ⟨_, rfl, _, rfl, pp, _, rfl, .inl (SqL.of (s12 _ _ hp)), _, _, rfl, rfl, _, rfl, itF (decide_eq_false (by rw [List.length_map]; omega)) ⟨szOk rfl, fun l2 H4 g4 s24 e4 => ?_⟩⟩
      refine ⟨l1, l2, _, _, rfl, rfl, s24 _ _ e2, e4, szOk rfl, fun l3 H5 g5 s5 e5 => ?_⟩
      have s25 := s24.trans s5
      refine kk H5 l3 _ (s12.trans s25) ((s12.trans s24).free g5) e5 ?_ ?_
      · unfold gath
        rw [if_neg ho, if_neg hq]
        exact CgsAt.nil
      · intro v hv q l ev hl
        cases hv
theorem ok_fcost_of (T : Txt K mg d tk) : FnOk P w K mg base CX0 1 d.fcost_of d.fcost_ofd ["change"] (sp_fcost_of K) := by
  refine T.F_fcost_of.ok sc_fcost_of (fun vs H Q E h => len_fcost_of h) (fun cdv A outer s H vs Q E hr h => ?_)
  have hu : (A.deeper (envOfC "cost_of" (defScope s_fcost_of) s.heap.objs.size d.fcost_of cdv)).units < cLine := hr.units0
  refine ⟨_, (@pss_one _ _ _ (@ps_ret _ _ _ _ (@pe_callB _ _ _ _ _ _ _ _ _ (call_sumI 1000000 rfl) (by rfl) T.b_sum boot_sum (@pa_cons _ _ _ _ _ (@pe_lcomp _ _ _ _ _ _ _ (["kind", "told"]) ([]) _ _ _ _ _ rfl (@pi_list _ _ _ _ (@pv _ 0 _ _ rfl (Or.inl rfl) rfl rfl)) ⟨rfl, by decide +kernel, by decide +kernel⟩ (caps0 (by decide +kernel)) (fun _ _ _ => (@pg_tup _ _ _ _ _ (2) rfl (@pgs_cons _ _ _ _ _ (@pg_name _ _ (0) _ (by show List.Nodup (["kind", "told"] : List Str); decide +kernel) rfl (Or.inl rfl) (by first | exact .inl rfl | exact .inr rfl)) (@pgs_cons _ _ _ _ _ (@pg_name _ _ (1) _ (by show List.Nodup (["kind", "told"] : List Str); decide +kernel) rfl (Or.inl rfl) (by first | exact .inl rfl | exact .inr rfl)) (@pgs_nil _) (by rfl)) (by rfl)) (by rfl) (by rfl))) (fun _ => fresh_pair rfl rfl (by decide)) (fun _ _ _ => (@pts_one _ _ _ (@pt_cmpR _ _ _ _ _ _ _ _ op_ne (@pv _ 0 _ _ rfl (Or.inl rfl) rfl rfl) (@pe_str _ _ _ _) (nomark _)))) (fun _ _ _ => (@pe_ifExp _ _ _ _ _ _ _ _ (@pt_cmpR _ _ _ _ _ _ _ _ op_eq (@pv _ 0 _ _ rfl (Or.inl rfl) rfl rfl) (@pe_str _ _ _ _) (nomark _)) (@pe_callB _ _ _ _ _ _ _ _ _ (call_len_seqK (K := K) rfl) (by rfl) T.b_len boot_len (@pa_cons _ _ _ _ _ (@pv _ 1 _ _ rfl (Or.inl rfl) rfl rfl) (@pa_nil _) (by rfl)) (by decide) (by decide) (by rfl) (by rfl)) (@pv _ 1 _ _ rfl (Or.inl rfl) rfl rfl))) (by intro _; rfl)) (@pa_nil _) (by rfl)) (by decide) (by decide) (by rfl) (by rfl)))), ?_⟩
  obtain ⟨cp, us, ch, rfl, hc, k⟩ := h
  have hfew := hc.few
  have hul : us.length ≤ 4900 := by rw [hc.its.len]; exact hfew
  refine ⟨_, rfl, cp, rfl, ⟨_, SqL.of hc.at'⟩, lc_any (xs := us) (huge (by omega)) (fun j ys H' => H' = H ∧ ys = (csts (ch.take j)).map V.int) ⟨rfl, rfl⟩ (fun _ _ H' q => by rw [q.1]; exact SqL.of hc.at') (fun j x ys H' K1 K0 hx q k1 k0 => ?_) fun H' q ys p0 hy hq => ?_⟩
  · obtain ⟨rfl, rfl⟩ := q
    obtain ⟨y, hyy, hat⟩ := hc.its.step hx
    have et : ch.take (j + 1) = ch.take j ++ [y] := take_snoc hyy
    cases y with
    | keep n =>
      obtain ⟨q, rfl, hq⟩ := hat
      refine ⟨q, _, rfl, SqT.of hq, rfl, _, _, rfl, _, _, rfl, rfl, ?_⟩
      refine ⟨_, rfl, rfl, _, rfl, itF (by decide +kernel) ?_⟩
      exact k0 _ ⟨rfl, by rw [et, csts_snoc]; show _ = List.map V.int (csts (ch.take j) ++ []); rw [List.append_nil]⟩
    | out n =>
      obtain ⟨q, rfl, hq⟩ := hat
      refine ⟨q, _, rfl, SqT.of hq, rfl, _, _, rfl, _, _, rfl, rfl, ?_⟩
      refine ⟨_, rfl, rfl, _, rfl, itT (by decide +kernel) ?_⟩
      refine ⟨_, rfl, rfl, _, rfl, itF (by decide +kernel) ?_⟩
      exact ⟨_, rfl, k1 _ _ ⟨rfl, by rw [et, csts_snoc, List.map_append]; rfl⟩⟩
    | put zs =>
      obtain ⟨q, l, rfl, hq, hl2⟩ := hat
      refine ⟨q, _, rfl, SqT.of hq, rfl, _, _, rfl, _, _, rfl, rfl, ?_⟩
      refine ⟨_, rfl, rfl, _, rfl, itT (by decide +kernel) ?_⟩
      refine ⟨_, rfl, rfl, _, rfl, itT (by decide +kernel) ?_⟩
      refine ⟨_, rfl, l, _, rfl, .inl (SqL.of hl2), ?_⟩
      rw [List.length_map]
      exact k1 _ _ ⟨rfl, by rw [et, csts_snoc, List.map_append]; rfl⟩
  · obtain ⟨rfl, rfl⟩ := p0
    rw [show ch.take us.length = ch from by rw [hc.its.len]; exact List.take_length]
    refine ⟨q, csts ch, rfl, .inl (SqL.of upd_same), fun n hn => ?_, ?_, k _ (Same.new hq)⟩
    · obtain ⟨y, hy, e⟩ := List.mem_filterMap.mp hn
      have := hc.ok y hy
      cases y with
      | keep m => cases e
      | out m => cases e; have : m ≤ 3000 := this; omega
      | put zs => cases e; have : zs.length ≤ 3000 := this; omega
    · have : (csts ch).length ≤ ch.length := List.length_filterMap_le _ _
      omega
theorem ok_f_law_begun (T : Txt K mg d tk) : FnOk P w K mg base CX0 1 d.f_law_begun d.f_law_begund ["_law_script", "_law_k"] (sp_f_law_begun K) := by
  refine T.F_f_law_begun.ok sc_f_law_begun (fun vs H Q E h => len_f_law_begun h) (fun cdv A outer s H vs Q E hr h => ?_)
  have hu : (A.deeper (envOfC "_law_begun" (defScope s_f_law_begun) s.heap.objs.size d.f_law_begun cdv)).units < cLine := hr.units0
  refine ⟨_, (@pss_cons _ _ _ _ _ (@ps_set _ _ (2) _ _ _ _ sc_f_law_begun.nd rfl (Or.inl rfl) (@pe_int _ _ _ _) (by rfl) (by first | exact .inl rfl | exact .inr rfl)) (@pss_cons _ _ _ _ _ (@ps_if _ _ _ _ _ _ _ _ (@pt_cmpR _ _ _ _ _ _ _ _ op_lt (@pv _ 1 _ _ rfl (Or.inl rfl) rfl rfl) (@pe_callB _ _ _ _ _ _ _ _ _ call_len_seq (by rfl) T.b_len boot_len (@pa_cons _ _ _ _ _ (@pv _ 0 _ _ rfl (Or.inl rfl) rfl rfl) (@pa_nil _) (by rfl)) (by decide) (by decide) (by rfl) (by rfl)) (nomark _)) (@pss_one _ _ _ (@ps_set _ _ (2) _ _ _ _ sc_f_law_begun.nd rfl (Or.inl rfl) (@pe_ix _ _ _ _ _ _ _ ix_any (@pv _ 0 _ _ rfl (Or.inl rfl) rfl rfl) (@pv _ 1 _ _ rfl (Or.inl rfl) rfl rfl) (fun _ _ => rfl)) (by rfl) (by first | exact .inl rfl | exact .inr rfl))) (@pss_nil _)) (@pss_one _ _ _ (@ps_ret _ _ _ _ (@pe_lstA _ _ _ _ (@pa_cons _ _ _ _ _ (@pv _ 2 _ _ rfl (Or.inl rfl) rfl rfl) (@pa_cons _ _ _ _ _ (@pe_and _ _ _ _ _ _ _ (@pe_cmpR _ _ _ _ _ _ _ _ op_ge (@pv _ 2 _ _ rfl (Or.inl rfl) rfl rfl) (@pe_op _ _ _ _ _ _ _ _ op_pow (@pe_int _ _ _ _) (@pe_int _ _ _ _)) (nomark _)) (@pe_one _ _ _ _ _ (@pe_cmpR _ _ _ _ _ _ _ _ op_eq (@pe_op _ _ _ _ _ _ _ _ op_mod (@pe_ix _ _ _ _ _ _ _ ix_list (@pv _ 0 _ _ rfl (Or.inl rfl) rfl rfl) (@pe_int _ _ _ _) (fun _ _ => rfl)) (@pe_int _ _ _ _)) (@pe_int _ _ _ _) (nomark _)))) (@pa_cons _ _ _ _ _ (@pe_op _ _ _ _ _ _ _ _ op_add (@pe_op _ _ _ _ _ _ _ _ op_mul (@pe_int _ _ _ _) (@pv _ 1 _ _ rfl (Or.inl rfl) rfl rfl)) (@pe_int _ _ _ _)) (@pa_cons _ _ _ _ _ (@pv _ 2 _ _ rfl (Or.inl rfl) rfl rfl) (@pa_nil _) (by rfl)) (by rfl)) (by rfl)) (by rfl))))))), ?_⟩
  obtain ⟨sp, ns, k, rfl, hs, hk, kk⟩ := h
  refine ⟨_, rfl, _, rfl, sp, _, rfl, .inl hs, _, _, rfl, rfl, _, rfl, ?_⟩
  refine ite2 (fun hb => ?_) fun hb => ?_
  · have hb := of_decide_eq_true hb
    refine ⟨_, rfl, _, rfl, sp, _, _, rfl, rfl, hs, by omega, hb, fun v hv => ?_⟩
    obtain ⟨m, _, rfl⟩ := List.mem_map.mp hv
    refine ⟨_, rfl, _, rfl, _, _, rfl, rfl, ⟨by decide, by decide, by decide⟩, _, _, rfl, rfl, _, rfl, ?_⟩
    refine ite2 (fun _ => ?_) fun _ => ?_
    · rw [List.length_map] at hb
      obtain ⟨a0, h0⟩ : ∃ i, atI (List.map V.int ns) 0 = some (.int i) := ⟨ns[0]'(by omega), atI_nat (j := 0) (by rw [List.getElem?_map, List.getElem?_eq_getElem (by omega : 0 < ns.length)]; rfl)⟩
      refine ⟨_, rfl, sp, _, 0, .int a0, rfl, rfl, hs, h0, _, _, rfl, rfl, (by show (0 : Int) < 2; decide), rfl, ?_⟩
      refine ⟨_, rfl, _, _, rfl, rfl, .inl ⟨by decide, by decide⟩, _, _, rfl, rfl, _, rfl, szOk rfl, fun p H1 g s e => kk H1 p s g ⟨_, _, _, _, e, by omega, by omega⟩⟩
    · refine ⟨_, rfl, _, _, rfl, rfl, .inl ⟨by decide, by decide⟩, _, _, rfl, rfl, _, rfl, szOk rfl, fun p H1 g s e => kk H1 p s g ⟨_, _, _, _, e, by omega, by omega⟩⟩
  · refine ⟨_, rfl, _, rfl, _, _, rfl, rfl, ⟨by decide, by decide, by decide⟩, _, _, rfl, rfl, _, rfl, itF (by decide +kernel) ?_⟩
    refine ⟨_, rfl, _, _, rfl, rfl, .inl ⟨by decide, by decide⟩, _, _, rfl, rfl, _, rfl, szOk rfl, fun p H1 g s e => kk H1 p s g ⟨_, _, _, _, e, by omega, by omega⟩⟩
theorem ok_f_law_draw (T : Txt K mg d tk) : FnOk P w K mg base CX0 1 d.f_law_draw d.f_law_drawd ["_law_state", "_law_many"] (sp_f_law_draw K) := by
  refine T.F_f_law_draw.ok sc_f_law_draw (fun vs H Q E h => len_f_law_draw h) (fun cdv A outer s H vs Q E hr h => ?_)
  have hu : (A.deeper (envOfC "_law_draw" (defScope s_f_law_draw) s.heap.objs.size d.f_law_draw cdv)).units < cLine := hr.units0
  refine ⟨_, (@pss_cons _ _ _ _ _ (@ps_set _ _ (2) _ _ _ _ sc_f_law_draw.nd rfl (Or.inl rfl) (@pe_ix _ _ _ _ _ _ _ ix_list (@pv _ 0 _ _ rfl (Or.inl rfl) rfl rfl) (@pe_int _ _ _ _) (fun _ _ => rfl)) (by rfl) (by first | exact .inl rfl | exact .inr rfl)) (@pss_cons _ _ _ _ _ (@ps_if _ _ _ _ _ _ _ _ (@PW.pt _ _ _ (@pw_and _ _ _ _ _ _ _ (@pt_val _ _ _ (@pe_ix _ _ _ _ _ _ _ ix_list (@pv _ 0 _ _ rfl (Or.inl rfl) rfl rfl) (@pe_int _ _ _ _) (fun _ _ => rfl)) (by intro _; rfl)) (@pw_and1 _ _ _ _ (@pt_cmpR _ _ _ _ _ _ _ _ op_gt (@pv _ 2 _ _ rfl (Or.inl rfl) rfl rfl) (@pe_int _ _ _ _) (nomark _))))) (@pss_cons _ _ _ _ _ (@ps_asg _ _ _ _ _ _ (@pe_op _ _ _ _ _ _ _ _ op_fdiv (@pv _ 2 _ _ rfl (Or.inl rfl) rfl rfl) (@pv _ 1 _ _ rfl (Or.inl rfl) rfl rfl)) (@pg_sub _ _ _ _ _ _ _ (@pv _ 0 _ _ rfl (Or.inl rfl) rfl rfl) (@pe_int _ _ _ _) set_list (by intro _; rfl)) (by rfl) (by rfl) (by rfl)) (@pss_one _ _ _ (@ps_ret _ _ _ _ (@pe_op _ _ _ _ _ _ _ _ op_mod (@pv _ 2 _ _ rfl (Or.inl rfl) rfl rfl) (@pv _ 1 _ _ rfl (Or.inl rfl) rfl rfl))))) (@pss_nil _)) (@pss_cons _ _ _ _ _ (@ps_asg _ _ _ _ _ _ (@pe_op _ _ _ _ _ _ _ _ op_add (@pe_ix _ _ _ _ _ _ _ ix_list (@pv _ 0 _ _ rfl (Or.inl rfl) rfl rfl) (@pe_int _ _ _ _) (fun _ _ => rfl)) (@pe_int _ _ _ _)) (@pg_sub _ _ _ _ _ _ _ (@pv _ 0 _ _ rfl (Or.inl rfl) rfl rfl) (@pe_int _ _ _ _) set_list (by intro _; rfl)) (by rfl) (by rfl) (by rfl)) (@pss_cons _ _ _ _ _ (@ps_asg _ _ _ _ _ _ (@pe_op _ _ _ _ _ _ _ _ op_mod (@pe_op _ _ _ _ _ _ _ _ op_add (@pe_op _ _ _ _ _ _ _ _ op_add (@pe_op _ _ _ _ _ _ _ _ op_mul (@pe_op _ _ _ _ _ _ _ _ op_mod (@pe_ix _ _ _ _ _ _ _ ix_list (@pv _ 0 _ _ rfl (Or.inl rfl) rfl rfl) (@pe_int _ _ _ _) (fun _ _ => rfl)) (@pe_int _ _ _ _)) (@pe_int _ _ _ _)) (@pe_op _ _ _ _ _ _ _ _ op_mul (@pe_op _ _ _ _ _ _ _ _ op_mul (@pe_int _ _ _ _) (@pe_ix _ _ _ _ _ _ _ ix_list (@pv _ 0 _ _ rfl (Or.inl rfl) rfl rfl) (@pe_int _ _ _ _) (fun _ _ => rfl))) (@pe_ix _ _ _ _ _ _ _ ix_list (@pv _ 0 _ _ rfl (Or.inl rfl) rfl rfl) (@pe_int _ _ _ _) (fun _ _ => rfl)))) (@pe_int _ _ _ _)) (@pe_int _ _ _ _)) (@pg_sub _ _ _ _ _ _ _ (@pv _ 0 _ _ rfl (Or.inl rfl) rfl rfl) (@pe_int _ _ _ _) set_list (by intro _; rfl)) (by rfl) (by rfl) (by rfl)) (@pss_one _ _ _ (@ps_ret _ _ _ _ (@pe_op _ _ _ _ _ _ _ _ op_mod (@pe_op _ _ _ _ _ _ _ _ op_fdiv (@pe_op _ _ _ _ _ _ _ _ op_mod (@pe_op _ _ _ _ _ _ _ _ op_mul (@pe_ix _ _ _ _ _ _ _ ix_list (@pv _ 0 _ _ rfl (Or.inl rfl) rfl rfl) (@pe_int _ _ _ _) (fun _ _ => rfl)) (@pe_int _ _ _ _)) (@pe_int _ _ _ _)) (@pe_int _ _ _ _)) (@pv _ 1 _ _ rfl (Or.inl rfl) rfl rfl)))))))), ?_⟩
  obtain ⟨p, n, k, rfl, ⟨a, b, c, e, hp, c0, c1⟩, hn, k0, k1000, kk⟩ := h
  have hk : (0 : Int) < (k : Int) := by omega
  refine ⟨_, rfl, p, _, 0, .int a, rfl, rfl, SqL.of hp, rfl, ?_⟩
  refine ⟨_, rfl, p, _, 1, .bl b, rfl, rfl, SqL.of hp, rfl, _, rfl, ?_⟩
  have slow : ∀ x : Int, ∃ r : Nat, x % (k : Int) = (r : Int) ∧ r < k := fun x => by
    obtain ⟨r, hr⟩ := Int.eq_ofNat_of_zero_le (mod_lo x hk)
    have := mod_hi x hk
    exact ⟨r, hr, by omega⟩
  refine ite2 (fun _ => ⟨_, rfl, _, _, rfl, rfl, _, rfl, ite2 (fun _ => ?_) fun _ => ?_⟩) fun _ => itF rfl ?_
  · refine ⟨_, rfl, _, rfl, _, _, rfl, rfl, ⟨hk, by omega⟩, _, rfl, p, _, 0, 0, rfl, rfl, hp, rfl, ?_⟩
    refine ⟨_, rfl, _, rfl, _, _, rfl, rfl, hk, ?_⟩
    obtain ⟨r, hr, hlt⟩ := slow a
    show Q (V.int (a % (k : Int))) _
    rw [hr]
    exact kk _ r (del_same.wr del_at) ⟨_, _, _, _, upd_same, c0, by omega⟩ hlt
  all_goals
    refine ⟨_, rfl, p, _, 2, .int c, rfl, rfl, SqL.of hp, rfl, _, _, rfl, rfl, _, rfl, p, _, 2, 2, rfl, rfl, hp, rfl, ?_⟩
    refine ⟨_, rfl, p, _, 3, .int e, rfl, rfl, SqL.of upd_same, rfl, _, _, rfl, rfl, (by show (0 : Int) < 2147483647; decide), _, _, rfl, rfl, .inr ⟨by decide, by decide⟩, _, rfl, p, _, 2, .int (c + 1), rfl, rfl, SqL.of upd_same, rfl, _, _, rfl, rfl, .inl ⟨by decide, by decide⟩, _, rfl, p, _, 2, .int (c + 1), rfl, rfl, SqL.of upd_same, rfl, _, _, rfl, rfl, .inr ⟨by omega, by omega⟩, _, _, rfl, rfl, _, _, rfl, rfl, _, _, rfl, rfl, (by show (0 : Int) < 2147483647; decide), _, rfl, p, _, 3, 3, rfl, rfl, upd_same, rfl, ?_⟩
    refine ⟨_, rfl, p, _, 3, _, rfl, rfl, SqL.of upd_same, rfl, _, _, rfl, rfl, .inr ⟨by decide, by decide⟩, _, _, rfl, rfl, (by show (0 : Int) < 2147483629; decide), _, _, rfl, rfl, ⟨by decide, by decide⟩, _, rfl, _, _, rfl, rfl, hk, ?_⟩
    obtain ⟨r, hr, hlt⟩ := slow (((e % 2147483647 * 48271 + 7919 * (c + 1) * (c + 1) + 11) % 2147483647) * 69621 % 2147483629 / 64)
    show Q (V.int (((e % 2147483647 * 48271 + 7919 * (c + 1) * (c + 1) + 11) % 2147483647) * 69621 % 2147483629 / 64 % (k : Int))) _
    rw [hr]
    exact kk _ r ((del_same.wr del_at).wr del_at) ⟨_, _, _, _, upd_same, by omega, by omega⟩ hlt
theorem ok_f_law_costs (T : Txt K mg d tk) : FnOk P w K mg base CX0 1 d.f_law_costs d.f_law_costsd ["_law_one", "_law_other"] (sp_f_law_costs K) := by
  refine T.F_f_law_costs.ok sc_f_law_costs (fun vs H Q E h => len_f_law_costs h) (fun cdv A outer s H vs Q E hr h => ?_)
  have hu : (A.deeper (envOfC "_law_costs" (defScope s_f_law_costs) s.heap.objs.size d.f_law_costs cdv)).units < cLine := hr.units0
  refine ⟨_, (@pss_cons _ _ _ _ _ (@ps_set _ _ (2) _ _ _ _ sc_f_law_costs.nd rfl (Or.inl rfl) (@pe_lstA _ _ _ _ (@pa_cons _ _ _ _ _ (@pe_lcomp _ _ _ _ _ _ _ (["_law_j"]) ([("_law_other", 1)]) _ _ _ _ _ rfl (@pi_range1 _ _ _ _ _ _ (by rfl) T.b_range (@pa_cons _ _ _ _ _ (@pe_op _ _ _ _ _ _ _ _ op_add (@pe_callB _ _ _ _ _ _ _ _ _ call_len_seq (by rfl) T.b_len boot_len (@pa_cons _ _ _ _ _ (@pv _ 1 _ _ rfl (Or.inr (Or.inl rfl)) rfl rfl) (@pa_nil _) (by rfl)) (by decide) (by decide) (by rfl) (by rfl)) (@pe_int _ _ _ _)) (@pa_nil _) (by rfl)) (by rfl)) ⟨rfl, by decide +kernel, by decide +kernel⟩ (caps_def (defScope s_f_law_costs) ["_law_one", "_law_other", "_law_rows", "_law_i", "_law_text", "_law_ahead", "_law_row", "_law_k", "_law_j"] rfl rfl (fun _ h => cell_has h) (by decide +kernel) (by decide +kernel) (by decide +kernel)) (fun _ _ _ => (@pg_name _ _ (0) _ (by show List.Nodup (["_law_j", "_law_other"] : List Str); decide +kernel) rfl (Or.inl rfl) (by first | exact .inl rfl | exact .inr rfl))) (fun _ => fresh_name rfl) (fun _ _ _ => (@pts_nil _)) (fun _ _ _ => (@pe_op _ _ _ _ _ _ _ _ op_sub (@pe_callB _ _ _ _ _ _ _ _ _ (call_len_seqK (K := K) rfl) (by rfl) T.b_len boot_len (@pa_cons _ _ _ _ _ (@pv _ 1 _ _ rfl (Or.inr (Or.inl rfl)) rfl rfl) (@pa_nil _) (by rfl)) (by decide) (by decide) (by rfl) (by rfl)) (@pv _ 0 _ _ rfl (Or.inl rfl) rfl rfl))) (by intro _; rfl)) (@pa_nil _) (by rfl))) (by rfl) (by first | exact .inl rfl | exact .inr rfl)) (@pss_cons _ _ _ _ _ (@ps_for _ _ _ _ _ _ _ _ PassesOwn.never rfl (@pi_range1 _ _ _ _ _ _ (by rfl) T.b_range (@pa_cons _ _ _ _ _ (@pe_callB _ _ _ _ _ _ _ _ _ call_len_seq (by rfl) T.b_len boot_len (@pa_cons _ _ _ _ _ (@pv _ 0 _ _ rfl (Or.inl rfl) rfl rfl) (@pa_nil _) (by rfl)) (by decide) (by decide) (by rfl) (by rfl)) (@pa_nil _) (by rfl)) (by rfl)) (@pg_name _ _ (3) _ sc_f_law_costs.nd rfl (Or.inl rfl) (by first | exact .inl rfl | exact .inr rfl)) (@pss_cons _ _ _ _ _ (@ps_set _ _ (4) _ _ _ _ sc_f_law_costs.nd rfl (Or.inl rfl) (@pe_ix _ _ _ _ _ _ _ ix_list (@pv _ 0 _ _ rfl (Or.inl rfl) rfl rfl) (@pe_op _ _ _ _ _ _ _ _ op_sub (@pe_op _ _ _ _ _ _ _ _ op_sub (@pe_callB _ _ _ _ _ _ _ _ _ call_len_seq (by rfl) T.b_len boot_len (@pa_cons _ _ _ _ _ (@pv _ 0 _ _ rfl (Or.inl rfl) rfl rfl) (@pa_nil _) (by rfl)) (by decide) (by decide) (by rfl) (by rfl)) (@pe_int _ _ _ _)) (@pv _ 3 _ _ rfl (Or.inl rfl) rfl rfl)) (fun _ _ => rfl)) (by rfl) (by first | exact .inl rfl | exact .inr rfl)) (@pss_cons _ _ _ _ _ (@ps_set _ _ (5) _ _ _ _ sc_f_law_costs.nd rfl (Or.inl rfl) (@pe_ix _ _ _ _ _ _ _ ix_list (@pv _ 2 _ _ rfl (Or.inl rfl) rfl rfl) (@pe_int _ _ _ _) (fun _ _ => rfl)) (by rfl) (by first | exact .inl rfl | exact .inr rfl)) (@pss_cons _ _ _ _ _ (@ps_set _ _ (6) _ _ _ _ sc_f_law_costs.nd rfl (Or.inl rfl) (@pe_op _ _ _ _ _ _ _ _ op_repA (@pe_lstA _ _ _ _ (@pa_cons _ _ _ _ _ (@pe_op _ _ _ _ _ _ _ _ op_add (@pe_callB _ _ _ _ _ _ _ _ _ call_len_seq (by rfl) T.b_len boot_len (@pa_cons _ _ _ _ _ (@pv _ 5 _ _ rfl (Or.inl rfl) rfl rfl) (@pa_nil _) (by rfl)) (by decide) (by decide) (by rfl) (by rfl)) (@pv _ 3 _ _ rfl (Or.inl rfl) rfl rfl)) (@pa_nil _) (by rfl))) (@pe_callB _ _ _ _ _ _ _ _ _ call_len_seq (by rfl) T.b_len boot_len (@pa_cons _ _ _ _ _ (@pv _ 5 _ _ rfl (Or.inl rfl) rfl rfl) (@pa_nil _) (by rfl)) (by decide) (by decide) (by rfl) (by rfl))) (by rfl) (by first | exact .inl rfl | exact .inr rfl)) (@pss_cons _ _ _ _ _ (@ps_asg _ _ _ _ _ _ (@pe_op _ _ _ _ _ _ _ _ op_add (@pv _ 3 _ _ rfl (Or.inl rfl) rfl rfl) (@pe_int _ _ _ _)) (@pg_sub _ _ _ _ _ _ _ (@pv _ 6 _ _ rfl (Or.inl rfl) rfl rfl) (@pe_un _ _ _ _ _ _ un_neg (@pe_int _ _ _ _)) set_list (by intro _; rfl)) (by rfl) (by rfl) (by rfl)) (@pss_cons _ _ _ _ _ (@ps_for _ _ _ _ _ _ _ _ PassesOwn.never rfl (@pi_range1 _ _ _ _ _ _ (by rfl) T.b_range (@pa_cons _ _ _ _ _ (@pe_callB _ _ _ _ _ _ _ _ _ call_len_seq (by rfl) T.b_len boot_len (@pa_cons _ _ _ _ _ (@pv _ 1 _ _ rfl (Or.inr (Or.inl rfl)) rfl rfl) (@pa_nil _) (by rfl)) (by decide) (by decide) (by rfl) (by rfl)) (@pa_nil _) (by rfl)) (by rfl)) (@pg_name _ _ (7) _ sc_f_law_costs.nd rfl (Or.inl rfl) (by first | exact .inl rfl | exact .inr rfl)) (@pss_cons _ _ _ _ _ (@ps_set _ _ (8) _ _ _ _ sc_f_law_costs.nd rfl (Or.inl rfl) (@pe_op _ _ _ _ _ _ _ _ op_sub (@pe_op _ _ _ _ _ _ _ _ op_sub (@pe_callB _ _ _ _ _ _ _ _ _ call_len_seq (by rfl) T.b_len boot_len (@pa_cons _ _ _ _ _ (@pv _ 1 _ _ rfl (Or.inr (Or.inl rfl)) rfl rfl) (@pa_nil _) (by rfl)) (by decide) (by decide) (by rfl) (by rfl)) (@pe_int _ _ _ _)) (@pv _ 7 _ _ rfl (Or.inl rfl) rfl rfl)) (by rfl) (by first | exact .inl rfl | exact .inr rfl)) (@pss_cons _ _ _ _ _ (@ps_asg _ _ _ _ _ _ (@pe_op _ _ _ _ _ _ _ _ op_add (@pe_int _ _ _ _) (@pe_callB _ _ _ _ _ _ _ _ _ (call_min2 rfl) (by rfl) T.b_min boot_min (@pa_cons _ _ _ _ _ (@pe_ix _ _ _ _ _ _ _ ix_list (@pv _ 5 _ _ rfl (Or.inl rfl) rfl rfl) (@pv _ 8 _ _ rfl (Or.inl rfl) rfl rfl) (fun _ _ => rfl)) (@pa_cons _ _ _ _ _ (@pe_ix _ _ _ _ _ _ _ ix_list (@pv _ 6 _ _ rfl (Or.inl rfl) rfl rfl) (@pe_op _ _ _ _ _ _ _ _ op_add (@pv _ 8 _ _ rfl (Or.inl rfl) rfl rfl) (@pe_int _ _ _ _)) (fun _ _ => rfl)) (@pa_nil _) (by rfl)) (by rfl)) (by decide) (by decide) (by rfl) (by rfl))) (@pg_sub _ _ _ _ _ _ _ (@pv _ 6 _ _ rfl (Or.inl rfl) rfl rfl) (@pv _ 8 _ _ rfl (Or.inl rfl) rfl rfl) set_list (by intro _; rfl)) (by rfl) (by rfl) (by rfl)) (@pss_one _ _ _ (@ps_if _ _ _ _ _ _ _ _ (@pt_cmpR _ _ _ _ _ _ _ _ op_eq (@pv _ 4 _ _ rfl (Or.inl rfl) rfl rfl) (@pe_ix _ _ _ _ _ _ _ ix_list (@pv _ 1 _ _ rfl (Or.inr (Or.inl rfl)) rfl rfl) (@pv _ 8 _ _ rfl (Or.inl rfl) rfl rfl) (fun _ _ => rfl)) (nomark _)) (@pss_one _ _ _ (@ps_asg _ _ _ _ _ _ (@pe_ix _ _ _ _ _ _ _ ix_list (@pv _ 5 _ _ rfl (Or.inl rfl) rfl rfl) (@pe_op _ _ _ _ _ _ _ _ op_add (@pv _ 8 _ _ rfl (Or.inl rfl) rfl rfl) (@pe_int _ _ _ _)) (fun _ _ => rfl)) (@pg_sub _ _ _ _ _ _ _ (@pv _ 6 _ _ rfl (Or.inl rfl) rfl rfl) (@pv _ 8 _ _ rfl (Or.inl rfl) rfl rfl) set_list (by intro _; rfl)) (by rfl) (by rfl) (by rfl))) (@pss_nil _))))) (by intro _; rfl)) (@pss_one _ _ _ (@ps_set _ _ (2) _ _ _ _ sc_f_law_costs.nd rfl (Or.inl rfl) (@pe_op _ _ _ _ _ _ _ _ op_catA (@pe_lstA _ _ _ _ (@pa_cons _ _ _ _ _ (@pv _ 6 _ _ rfl (Or.inl rfl) rfl rfl) (@pa_nil _) (by rfl))) (@pv _ 2 _ _ rfl (Or.inl rfl) rfl rfl)) (by rfl) (by first | exact .inl rfl | exact .inr rfl)))))))) (by intro _; rfl)) (@pss_one _ _ _ (@ps_ret _ _ _ _ (@pv _ 2 _ _ rfl (Or.inl rfl) rfl rfl))))), ?_⟩
  obtain ⟨op, qp, xs, ts, rfl, hx, ht, hxl, htl, kk⟩ := h
  have hlx : (xs.map V.str).length = xs.length := List.length_map ..
  have hlt : (ts.map V.str).length = ts.length := List.length_map ..
  refine ⟨_, rfl, qp, _, rfl, .inl (SqL.of ht), _, _, rfl, rfl, _, rfl, by omega, by omega, lc_range (n := (((ts.map V.str).length : Int) + 1).toNat) (big (by omega)) (fun i ys H' => (∃ zs : List Int, ys = zs.map V.int ∧ zs.length = i) ∧ H' = H) ⟨⟨[], rfl, rfl⟩, rfl⟩ (fun i ys H' K1 K0 hi q k1 k0 => ?_) fun H' q ys P _ hq => ?_⟩
  · obtain ⟨⟨zs, rfl, hz⟩, rfl⟩ := q
    refine iteT (B := K0 H') ?_
    exact ⟨_, rfl, qp, _, rfl, .inl (SqL.of ht), _, rfl, _, _, rfl, rfl, k1 _ _ ⟨⟨zs ++ [_], by rw [List.map_append]; rfl, by rw [List.length_append, List.length_singleton, hz]⟩, rfl⟩⟩
  obtain ⟨⟨z0, rfl, hz0⟩, rfl⟩ := P
  have lz0 : z0.length = ts.length + 1 := by omega
  refine ⟨szOk rfl, fun lp0 H2 g2 s2 e2 => ?_⟩
  have s02 : Same H' H2 := (Same.new hq).trans s2
  have tt0 : TT2 H2 lp0 [q] [z0] := by
    refine ⟨e2, rfl, fun i r z a b => ?_, (by show 1 ≤ 100; decide), fun z hz => by rw [List.mem_singleton.mp hz]; omega⟩
    cases i with
    | zero => cases a; cases b; exact s2 _ _ upd_same
    | succ i => cases a
  refine ⟨_, rfl, op, _, rfl, .inl (SqL.of (s02 _ _ hx)), _, rfl, by omega, by omega, for_range (n := ((xs.map V.str).length : Int).toNat) (fun i σ H3 => ∃ (lp : Addr) (rs : List Addr) (R : List (List Int)) (u3 u4 u5 u6 u7 u8 : Option V), σ = [some (.ref op), some (.ref qp), some (.ref lp), u3, u4, u5, u6, u7, u8] ∧ Same H' H3 ∧ TT2 H3 lp rs R ∧ R.length = i + 1 ∧ ∀ z ∈ R, z.length = ts.length + 1)
    ⟨lp0, [q], [z0], none, none, none, none, none, none, rfl, s02, tt0, rfl, fun z hz => by rw [List.mem_singleton.mp hz]; exact lz0⟩ ?_ ?_⟩
  · rintro i σ H3 hi ⟨lp, rs, R, u3, u4, u5, u6, u7, u8, rfl, s3, tt, hR, hrow⟩
    rw [Int.zero_add]
    have hi' : i < xs.length := by omega
    obtain ⟨x, ex⟩ := get_of_lt (ts := xs) (j := xs.length - 1 - i) (by omega)
    refine ⟨_, rfl, _, rfl, op, _, rfl, .inl (SqL.of (s3 _ _ hx)), _, _, rfl, rfl, _, rfl, _, _, rfl, rfl, op, _, ((xs.length - 1 - i : Nat) : Int), .str x, rfl, ?_, SqL.of (s3 _ _ hx), strs_at ex, ?_⟩
    · show V.int _ = V.int _
      congr 1
      omega
    obtain ⟨r0, za, h1, h2, h3, h4⟩ := tt.get (i := 0) (by omega)
    have la := hrow za (List.mem_of_getElem? h3)
    have hla : (za.map V.int).length = ts.length + 1 := by rw [List.length_map]; exact la
    refine ⟨_, rfl, lp, _, 0, .ref r0, rfl, rfl, SqL.of tt.at', h1, ?_⟩
    refine ⟨_, rfl, r0, _, rfl, .inl (SqL.of h4), _, rfl, _, _, rfl, rfl, szOk rfl, fun w1 H4 g4 s4 e4 => ?_⟩
    refine ⟨_, rfl, r0, _, rfl, .inl (SqL.of (s4 _ _ h4)), w1, _, _, rfl, rfl, e4, by omega, by omega, big (by rw [List.length_singleton]; omega), fun rp H5 g5 s5 e5 => ?_⟩
    rw [rep_ints] at e5
    have hrp : H3 rp = none := s4.free g5
    have fr : H' rp = none := s3.free hrp
    have s35 := s4.trans s5
    refine ⟨_, rfl, _, _, rfl, rfl, _, rfl, _, rfl, rp, _, -1, ts.length, rfl, rfl, e5, ixN_last (by rw [List.length_map, List.length_replicate]; omega), ?_⟩
    rw [set_ints]
    refine ⟨_, rfl, qp, _, rfl, .inl (SqL.of ((s35.wr hrp) _ _ (s3 _ _ ht))), _, rfl, by omega, by omega, for_range (n := ((ts.map V.str).length : Int).toNat) (fun k σ H6 => ∃ (zs : List Int) (u7 u8 : Option V), σ = [some (.ref op), some (.ref qp), some (.ref lp), some (.int (i : Int)), some (.str x), some (.ref r0), some (.ref rp), u7, u8] ∧ Same H3 H6 ∧ H6 rp = some (.lst (zs.map V.int)) ∧ zs.length = ts.length + 1)
      ⟨_, _, _, rfl, s35.wr hrp, upd_same, by rw [List.length_set, List.length_replicate]; omega⟩ ?_ ?_⟩
    · rintro k σ H6 hk ⟨zs, u7, u8, rfl, s6, e6, lz⟩
      rw [Int.zero_add]
      have hk' : k < ts.length := by omega
      have ej : V.int (((ts.map V.str).length : Int) - 1 - (k : Int)) = V.int ((ts.length - 1 - k : Nat) : Int) := by congr 1; omega
      have ej1 : V.int (((ts.map V.str).length : Int) - 1 - (k : Int) + 1) = V.int ((ts.length - 1 - k + 1 : Nat) : Int) := by congr 1; omega
      have ek : ((ts.map V.str).length : Int) - 1 - (k : Int) = ((ts.length - 1 - k : Nat) : Int) := by omega
      obtain ⟨y, ey⟩ := get_of_lt (ts := ts) (j := ts.length - 1 - k) (by omega)
      refine ⟨_, rfl, qp, _, rfl, .inl (SqL.of (s6 _ _ (s3 _ _ ht))), _, _, rfl, rfl, _, rfl, _, _, rfl, rfl, ?_⟩
      refine ⟨_, rfl, _, rfl, r0, _, ((ts.length - 1 - k : Nat) : Int), _, rfl, ej, SqL.of (s6 _ _ h4), int_at (by omega), _, rfl, _, rfl, _, _, rfl, rfl, rp, _, ((ts.length - 1 - k + 1 : Nat) : Int), _, rfl, ej1, SqL.of e6, int_at (by omega), _, _, rfl, _, _, rfl, rfl, _, rfl, _, rfl, rp, _, _, ts.length - 1 - k, rfl, rfl, e6, ixN_nat ek (by rw [List.length_map]; omega), ?_⟩
      rw [set_ints]
      refine ⟨_, rfl, _, rfl, _, rfl, qp, _, _, _, rfl, ej, SqL.of ((s6.wr hrp) _ _ (s3 _ _ ht)), strs_at ey, rfl, _, rfl, ite2 (fun _ => ?_) fun _ => ?_⟩
      · refine ⟨_, rfl, _, rfl, _, _, rfl, rfl, r0, _, ((ts.length - 1 - k + 1 : Nat) : Int), _, rfl, ej1, SqL.of ((s6.wr hrp) _ _ h4), int_at (by omega), _, rfl, _, rfl, rp, _, _, ts.length - 1 - k, rfl, rfl, upd_same, ixN_nat ek (by rw [List.length_map, List.length_set]; omega), ?_⟩
        rw [set_ints]
        exact ⟨_, _, _, rfl, (s6.wr hrp).wr hrp, upd_same, by rw [List.length_set, List.length_set]; exact lz⟩
      · exact ⟨_, _, _, rfl, s6.wr hrp, upd_same, by rw [List.length_set]; exact lz⟩
    · rintro σ H6 ⟨zs, u7, u8, rfl, s6, e6, lz⟩
      refine ⟨_, rfl, szOk rfl, fun w2 H7 g7 s7 e7 => ?_⟩
      have tt7 := tt.same (s6.trans s7)
      refine ⟨_, rfl, w2, lp, _, _, rfl, rfl, e7, tt7.at', big (by rw [List.length_singleton, List.length_map, tt.len]; omega), fun lp2 H8 g8 s8 e8 => ?_⟩
      refine ⟨lp2, rp :: rs, zs :: R, _, _, _, _, _, _, rfl, s3.trans (s6.trans (s7.trans s8)), TT2.cons (tt7.same s8) e8 (s8 _ _ (s7 _ _ e6)) (by omega) (by omega), by rw [List.length_cons, hR], fun z hz => ?_⟩
      rcases List.mem_cons.mp hz with rfl | h'
      · exact lz
      · exact hrow z h'
  · rintro σ H3 ⟨lp, rs, R, u3, u4, u5, u6, u7, u8, rfl, s3, tt, hR, hrow⟩
    exact ⟨_, rfl, kk H3 lp rs R s3 tt (by omega) hrow⟩
theorem ok_fprices (T : Txt K mg d tk) (gfprice_row : FnOk P w K mg base CX0 1 d.fprice_row d.fprice_rowd ["text", "other", "below", "last"] (sp_fprice_row K)) : FnOk P w K mg base CX0 2 d.fprices d.fpricesd ["one", "other"] (sp_fprices K) := by
  refine T.F_fprices.ok sc_fprices (fun vs H Q E h => len_fprices h) (fun cdv A outer s H vs Q E hr h => ?_)
  have hu : (A.deeper (envOfC "prices" (defScope s_fprices) s.heap.objs.size d.fprices cdv)).units < cLine := hr.units0
  refine ⟨_, (@pss_cons _ _ _ _ _ (@ps_set _ _ (2) _ _ _ _ sc_fprices.nd rfl (Or.inl rfl) (@pe_lstA _ _ _ _ (@pa_cons _ _ _ _ _ (@pe_listRngD _ _ _ _ _ _ _ _ _ rfl (by rfl) T.b_range (by rfl) T.b_list (@pa_cons _ _ _ _ _ (@pe_callB _ _ _ _ _ _ _ _ _ call_len_seq (by rfl) T.b_len boot_len (@pa_cons _ _ _ _ _ (@pv _ 1 _ _ rfl (Or.inl rfl) rfl rfl) (@pa_nil _) (by rfl)) (by decide) (by decide) (by rfl) (by rfl)) (@pa_cons _ _ _ _ _ (@pe_un _ _ _ _ _ _ un_neg (@pe_int _ _ _ _)) (@pa_cons _ _ _ _ _ (@pe_un _ _ _ _ _ _ un_neg (@pe_int _ _ _ _)) (@pa_nil _) (by rfl)) (by rfl)) (by rfl)) (by rfl) (by rfl) (by rfl)) (@pa_nil _) (by rfl))) (by rfl) (by first | exact .inl rfl | exact .inr rfl)) (@pss_cons _ _ _ _ _ (@ps_for _ _ _ _ _ _ _ _ PassesOwn.never rfl (@pi_rangeD _ _ _ _ _ _ _ _ (by rfl) T.b_range (@pa_cons _ _ _ _ _ (@pe_op _ _ _ _ _ _ _ _ op_sub (@pe_callB _ _ _ _ _ _ _ _ _ call_len_seq (by rfl) T.b_len boot_len (@pa_cons _ _ _ _ _ (@pv _ 0 _ _ rfl (Or.inl rfl) rfl rfl) (@pa_nil _) (by rfl)) (by decide) (by decide) (by rfl) (by rfl)) (@pe_int _ _ _ _)) (@pa_cons _ _ _ _ _ (@pe_un _ _ _ _ _ _ un_neg (@pe_int _ _ _ _)) (@pa_cons _ _ _ _ _ (@pe_un _ _ _ _ _ _ un_neg (@pe_int _ _ _ _)) (@pa_nil _) (by rfl)) (by rfl)) (by rfl)) (by rfl) (by rfl)) (@pg_name _ _ (3) _ sc_fprices.nd rfl (Or.inl rfl) (by first | exact .inl rfl | exact .inr rfl)) (@pss_one _ _ _ (@ps_expr _ _ _ _ (@pe_bm _ _ _ _ _ _ _ _ _ _ _ _ PySem.F.plainAttrs_list PySem.F.slot_list_append PySem.F.type_list_append mt_append (@pv _ 2 _ _ rfl (Or.inl rfl) rfl rfl) (@pa_cons _ _ _ _ _ (@pe_call _ _ _ _ _ _ _ _ _ _ _ _ _ _ _ _ gfprice_row (hr.mono (by decide)) (by rfl) T.m_fprice_row T.k_fprice_row T.d_fprice_row .nil pass0 (@pa_cons _ _ _ _ _ (@pe_ix _ _ _ _ _ _ _ ix_list (@pv _ 0 _ _ rfl (Or.inl rfl) rfl rfl) (@pv _ 3 _ _ rfl (Or.inl rfl) rfl rfl) (fun _ _ => rfl)) (@pa_cons _ _ _ _ _ (@pv _ 1 _ _ rfl (Or.inl rfl) rfl rfl) (@pa_cons _ _ _ _ _ (@pe_ix _ _ _ _ _ _ _ ix_list (@pv _ 2 _ _ rfl (Or.inl rfl) rfl rfl) (@pe_un _ _ _ _ _ _ un_neg (@pe_int _ _ _ _)) (fun _ _ => rfl)) (@pa_cons _ _ _ _ _ (@pe_op _ _ _ _ _ _ _ _ op_sub (@pe_callB _ _ _ _ _ _ _ _ _ call_len_seq (by rfl) T.b_len boot_len (@pa_cons _ _ _ _ _ (@pv _ 0 _ _ rfl (Or.inl rfl) rfl rfl) (@pa_nil _) (by rfl)) (by decide) (by decide) (by rfl) (by rfl)) (@pv _ 3 _ _ rfl (Or.inl rfl) rfl rfl)) (@pa_nil _) (by rfl)) (by rfl)) (by rfl)) (by rfl)) (by decide) (by rfl) (by rfl)) (@pa_nil _) (by rfl)) (by rfl) (by rfl) (by rfl) (by rfl) (by rfl)) (by rfl))) (by intro _; rfl)) (@pss_one _ _ _ (@ps_ret _ _ _ _ (@pe_revL _ _ _ _ _ _ _ (@pv _ 2 _ _ rfl (Or.inl rfl) rfl rfl) (@po_some _ _ _ (@pe_un _ _ _ _ _ _ un_neg (@pe_int _ _ _ _)))))))), ?_⟩
  obtain ⟨op, qp, xs, ts, rfl, hx, ht, hxl, htl, kk⟩ := h
  have hlen : ((ts.map V.str).length : Int) = (ts.length : Int) := by rw [List.length_map]
  have hlen2 : ((xs.map V.str).length : Int) = (xs.length : Int) := by rw [List.length_map]
  have hn0 : (((ts.map V.str).length : Int) - -1).toNat = ts.length + 1 := by omega
  have hn : (((xs.map V.str).length : Int) - 1 - -1).toNat = xs.length := by omega
  refine ⟨_, rfl, qp, _, rfl, .inl (SqL.of ht), _, rfl, _, rfl, _, _, rfl, ⟨by omega, by omega, by decide, by decide⟩, by rw [hn0]; exact big6000 (by omega), by rw [hn0]; omega, fun r0 H1 g1 s1 e1 => ⟨szOk rfl, fun lp H2 g2 s2 e2 => ?_⟩⟩
  have e1' : H1 r0 = some (.lst (rowV [] ts)) := by rw [e1, hn0, hlen, rowV_nil]
  have fl : H lp = none := s1.free g2
  refine ⟨_, rfl, op, _, rfl, .inl (SqL.of ((s1.trans s2) _ _ hx)), _, _, rfl, rfl, _, rfl, _, rfl, _, _, rfl, ⟨by omega, by omega, by decide, by decide⟩, for_down (n := (((xs.map V.str).length : Int) - 1 - -1).toNat) (fun k σ H3 => ∃ (rs : List Addr) (u3 : Option V), σ = [some (.ref op), some (.ref qp), some (.ref lp), u3] ∧ Same H H3 ∧ H3 lp = some (.lst (rs.map V.ref)) ∧ rs.length = k + 1 ∧ (∀ r ∈ rs, H r = none ∧ r ≠ lp) ∧
      ∀ (i : Nat) r, rs[i]? = some r → H3 r = some (.lst (rowV (xs.drop (xs.length - i)) ts)))
    ⟨[r0], none, rfl, s1.trans s2, e2, rfl, fun r hr => ?_, fun i r e => ?_⟩ ?_ ?_⟩
  · rw [List.mem_singleton.mp hr]
    exact ⟨g1, ne_of_none e1 g2⟩
  · cases i with
    | zero =>
      cases e
      rw [Nat.sub_zero, List.drop_length]
      exact s2 _ _ e1'
    | succ i => cases e
  · rintro k σ H3 hk ⟨rs, u3, rfl, s3, e3, hl, hr, hrow⟩
    have hk' : k < xs.length := by omega
    have ei : ((xs.map V.str).length : Int) - 1 - (k : Int) = ((xs.length - 1 - k : Nat) : Int) := by omega
    rw [ei]
    obtain ⟨y, hy⟩ := get_of_lt (ts := xs) (j := xs.length - 1 - k) (by omega)
    obtain ⟨r, hrk⟩ := get_of_lt (ts := rs) (j := k) (by omega)
    refine ⟨_, rfl, .inl ⟨rfl, _, SqL.of e3⟩, _, rfl, _, rfl, op, _, _, _, rfl, rfl, SqL.of (s3 _ _ hx), strs_at hy, _, rfl, _, rfl, _, rfl, lp, _, _, .ref r, rfl, rfl, SqL.of e3, atI_end (n := k) (by rw [List.length_map, hl]) (by rw [List.getElem?_map, hrk]; rfl), _, rfl, op, _, rfl, .inl (SqL.of (s3 _ _ hx)), _, rfl, _, _, rfl, rfl, ?_⟩
    refine ⟨y, qp, r, xs.drop (xs.length - k), ts, _, rfl, s3 _ _ ht, hrow k r hrk, by rw [List.length_drop]; omega, htl, fun H4 p s4 g4 e4 => ?_⟩
    refine ⟨lp, _, _, rfl, rfl, s4 _ _ e3, small6000 (by rw [List.length_map]; omega), ?_⟩
    have np : p ≠ lp := fun z => ne_of_none e3 g4 z.symm
    refine ⟨rs ++ [p], _, rfl, (s3.trans s4).wr fl, by rw [upd_same, List.map_append]; rfl, by rw [List.length_append, List.length_singleton, hl], fun r' hr' => ?_, fun i r' e => ?_⟩
    · rcases List.mem_append.mp hr' with q | q
      · exact hr r' q
      · rw [List.mem_singleton.mp q]
        exact ⟨s3.free g4, np⟩
    · have hne : r' ≠ lp := by
        rcases List.mem_append.mp (List.mem_of_getElem? e) with q | q
        · exact (hr r' q).2
        · rw [List.mem_singleton.mp q]; exact np
      rw [upd_ne hne]
      by_cases hi : i < rs.length
      · rw [List.getElem?_append_left hi] at e
        exact s4 _ _ (hrow i r' e)
      · have hi2 : i = k + 1 := by
          have := (List.getElem?_eq_some_iff.mp e).1
          rw [List.length_append, List.length_singleton] at this
          omega
        subst hi2
        rw [List.getElem?_append_right (by omega), hl, Nat.sub_self] at e
        cases e
        rw [e4, show xs.drop (xs.length - (k + 1)) = y :: xs.drop (xs.length - k) from by
          rw [show xs.length - (k + 1) = xs.length - 1 - k from by omega, drop_at hy, show xs.length - 1 - k + 1 = xs.length - k from by omega]]
  · rintro σ H3 ⟨rs, u3, rfl, s3, e3, hl, hr, hrow⟩
    rw [hn] at hl
    refine ⟨_, rfl, _, rfl, _, rfl, rfl, lp, _, rfl, SqL.of e3, fun p H4 g4 s4 e4 => ?_⟩
    refine kk H4 p rs.reverse (s3.trans s4) (s3.free g4) ⟨by rw [e4, List.map_reverse], by rw [List.length_reverse, hl], fun i r e => ?_, fun r h => ?_⟩
    · have hi : i < rs.length := by
        have := (List.getElem?_eq_some_iff.mp e).1
        rw [List.length_reverse] at this
        exact this
      rw [List.getElem?_reverse hi, hl] at e
      have q := s4 _ _ (hrow _ r e)
      rw [show xs.length - (xs.length + 1 - 1 - i) = i from by omega] at q
      exact q
    · have h := List.mem_reverse.mp h
      refine ⟨(hr r h).1, fun z => ?_⟩
      obtain ⟨i, hi, e⟩ := List.mem_iff_getElem.mp h
      have q := hrow i r (by rw [List.getElem?_eq_getElem hi, e])
      rw [z, g4] at q
      cases q
theorem ok_fare_prices (T : Txt K mg d tk) (gfdiffer_little : FnOk P w K mg base CX0 1 d.fdiffer_little d.fdiffer_littled ["some", "others"] (sp_fdiffer_little K)) (gfis_square : FnOk P w K mg base CX0 1 d.fis_square d.fis_squared ["some", "many", "of_each"] (sp_fis_square K)) : FnOk P w K mg base CX0 2 d.fare_prices d.fare_pricesd ["one", "other", "some"] (sp_fare_prices K) := by
  refine T.F_fare_prices.ok sc_fare_prices (fun vs H Q E h => len_fare_prices h) (fun cdv A outer s H vs Q E hr h => ?_)
  have hu : (A.deeper (envOfC "are_prices" (defScope s_fare_prices) s.heap.objs.size d.fare_prices cdv)).units < cLine := hr.units0
  refine ⟨_, (@pss_cons _ _ _ _ _ (@ps_if _ _ _ _ _ _ _ _ (@PW.pt _ _ _ (@pw_or _ _ _ _ _ _ _ (@pt_not _ _ _ _ (@pt_val _ _ _ (@pe_call _ _ _ _ _ _ _ _ _ _ _ _ _ _ _ _ gfis_square (hr.mono (by decide)) (by rfl) T.m_fis_square T.k_fis_square T.d_fis_square .nil pass0 (@pa_cons _ _ _ _ _ (@pv _ 2 _ _ rfl (Or.inl rfl) rfl rfl) (@pa_cons _ _ _ _ _ (@pe_op _ _ _ _ _ _ _ _ op_add (@pe_callB _ _ _ _ _ _ _ _ _ call_len_seq (by rfl) T.b_len boot_len (@pa_cons _ _ _ _ _ (@pv _ 0 _ _ rfl (Or.inl rfl) rfl rfl) (@pa_nil _) (by rfl)) (by decide) (by decide) (by rfl) (by rfl)) (@pe_int _ _ _ _)) (@pa_cons _ _ _ _ _ (@pe_op _ _ _ _ _ _ _ _ op_add (@pe_callB _ _ _ _ _ _ _ _ _ call_len_seq (by rfl) T.b_len boot_len (@pa_cons _ _ _ _ _ (@pv _ 1 _ _ rfl (Or.inr (Or.inl rfl)) rfl rfl) (@pa_nil _) (by rfl)) (by decide) (by decide) (by rfl) (by rfl)) (@pe_int _ _ _ _)) (@pa_nil _) (by rfl)) (by rfl)) (by rfl)) (by decide) (by rfl) (by rfl)) (by intro _; rfl))) (@pw_or1 _ _ _ _ (@pt_cmpR _ _ _ _ _ _ _ _ op_ne (@pe_ix _ _ _ _ _ _ _ ix_list (@pe_ix _ _ _ _ _ _ _ ix_list (@pv _ 2 _ _ rfl (Or.inl rfl) rfl rfl) (@pe_un _ _ _ _ _ _ un_neg (@pe_int _ _ _ _)) (fun _ _ => rfl)) (@pe_un _ _ _ _ _ _ un_neg (@pe_int _ _ _ _)) (fun _ _ => rfl)) (@pe_int _ _ _ _) (nomark _))))) (@pss_one _ _ _ (@ps_ret _ _ _ _ (@pe_bl _ _ _ _))) (@pss_nil _)) (@pss_cons _ _ _ _ _ (@ps_for _ _ _ _ _ _ _ _ PassesOwn.never rfl (@pi_list _ _ _ _ (@pv _ 2 _ _ rfl (Or.inl rfl) rfl rfl)) (@pg_name _ _ (3) _ sc_fare_prices.nd rfl (Or.inr rfl) (by first | exact .inl rfl | exact .inr rfl)) (@pss_one _ _ _ (@ps_if _ _ _ _ _ _ _ _ (@pt_not _ _ _ _ (@pt_val _ _ _ (@pe_call _ _ _ _ _ _ _ _ _ _ _ _ _ _ _ _ gfdiffer_little (hr.mono (by decide)) (by rfl) T.m_fdiffer_little T.k_fdiffer_little T.d_fdiffer_little .nil pass0 (@pa_cons _ _ _ _ _ (@pe_slice _ _ _ _ _ _ _ _ _ _ sl_listA (@pv _ 3 _ _ rfl (Or.inr (Or.inl rfl)) rfl rfl) (@po_none _) (@po_some _ _ _ (@pe_un _ _ _ _ _ _ un_neg (@pe_int _ _ _ _)))) (@pa_cons _ _ _ _ _ (@pe_slice _ _ _ _ _ _ _ _ _ _ sl_listA (@pv _ 3 _ _ rfl (Or.inr (Or.inl rfl)) rfl rfl) (@po_some _ _ _ (@pe_int _ _ _ _)) (@po_none _)) (@pa_nil _) (by rfl)) (by rfl)) (by decide) (by rfl) (by rfl)) (by intro _; rfl))) (@pss_one _ _ _ (@ps_ret _ _ _ _ (@pe_bl _ _ _ _))) (@pss_nil _))) (by intro _; rfl)) (@pss_cons _ _ _ _ _ (@ps_for _ _ _ _ _ _ _ _ PassesOwn.never rfl (@pi_zip3 _ _ _ _ _ _ _ _ _ _ (by rfl) T.b_zip (@pa_cons _ _ _ _ _ (@pv _ 0 _ _ rfl (Or.inl rfl) rfl rfl) (@pa_cons _ _ _ _ _ (@pe_slice _ _ _ _ _ _ _ _ _ _ sl_listA (@pv _ 2 _ _ rfl (Or.inl rfl) rfl rfl) (@po_none _) (@po_some _ _ _ (@pe_un _ _ _ _ _ _ un_neg (@pe_int _ _ _ _)))) (@pa_cons _ _ _ _ _ (@pe_slice _ _ _ _ _ _ _ _ _ _ sl_listA (@pv _ 2 _ _ rfl (Or.inl rfl) rfl rfl) (@po_some _ _ _ (@pe_int _ _ _ _)) (@po_none _)) (@pa_nil _) (by rfl)) (by rfl)) (by rfl)) (by rfl) (by rfl)) (@pg_tup _ _ _ _ _ _ rfl (@pgs_cons _ _ _ _ _ (@pg_name _ _ (4) _ sc_fare_prices.nd rfl (Or.inr rfl) (by first | exact .inl rfl | exact .inr rfl)) (@pgs_cons _ _ _ _ _ (@pg_name _ _ (3) _ sc_fare_prices.nd rfl (Or.inr rfl) (by first | exact .inl rfl | exact .inr rfl)) (@pgs_cons _ _ _ _ _ (@pg_name _ _ (5) _ sc_fare_prices.nd rfl (Or.inr rfl) (by first | exact .inl rfl | exact .inr rfl)) (@pgs_nil _) (by rfl)) (by rfl)) (by rfl)) (by rfl) (by rfl)) (@pss_cons _ _ _ _ _ (@ps_if _ _ _ _ _ _ _ _ (@pt_not _ _ _ _ (@pt_val _ _ _ (@pe_call _ _ _ _ _ _ _ _ _ _ _ _ _ _ _ _ gfdiffer_little (hr.mono (by decide)) (by rfl) T.m_fdiffer_little T.k_fdiffer_little T.d_fdiffer_little .nil pass0 (@pa_cons _ _ _ _ _ (@pv _ 3 _ _ rfl (Or.inr (Or.inl rfl)) rfl rfl) (@pa_cons _ _ _ _ _ (@pv _ 5 _ _ rfl (Or.inr (Or.inl rfl)) rfl rfl) (@pa_nil _) (by rfl)) (by rfl)) (by decide) (by rfl) (by rfl)) (by intro _; rfl))) (@pss_one _ _ _ (@ps_ret _ _ _ _ (@pe_bl _ _ _ _))) (@pss_nil _)) (@pss_cons _ _ _ _ _ (@ps_setC _ (6) _ _ _ _ _ _ _ _ _ (["place"]) ([("row", 3), ("below", 5), ("text", 4), ("other", 1)]) _ _ _ _ _ sc_fare_prices.nd rfl (Or.inl rfl) rfl (@pi_range1 _ _ _ _ _ _ (by rfl) T.b_range (@pa_cons _ _ _ _ _ (@pe_callB _ _ _ _ _ _ _ _ _ call_len_seq (by rfl) T.b_len boot_len (@pa_cons _ _ _ _ _ (@pv _ 1 _ _ rfl (Or.inr (Or.inl rfl)) rfl rfl) (@pa_nil _) (by rfl)) (by decide) (by decide) (by rfl) (by rfl)) (@pa_nil _) (by rfl)) (by rfl)) ⟨rfl, by decide +kernel, by decide +kernel⟩ (caps_def (defScope s_fare_prices) ["one", "other", "some", "row", "text", "below", "kept"] rfl rfl (fun _ h => cell_has h) (by decide +kernel) (by decide +kernel) (by decide +kernel)) (fun _ _ _ => (@pg_name _ _ (0) _ (by show List.Nodup (["place", "row", "below", "text", "other"] : List Str); decide +kernel) rfl (Or.inl rfl) (by first | exact .inl rfl | exact .inr rfl))) (fun _ => fresh_name rfl) (fun _ _ _ => (@pts_one _ _ _ (@pt_cmpR _ _ _ _ _ _ _ _ op_eq (@pe_ix _ _ _ _ _ _ _ (ix_listK (K := K) rfl) (@pv _ 4 _ _ rfl (Or.inr (Or.inl rfl)) rfl rfl) (@pv _ 0 _ _ rfl (Or.inl rfl) rfl rfl) (fun _ _ => rfl)) (@pv _ 3 _ _ rfl (Or.inr (Or.inl rfl)) rfl rfl) (nomark _)))) (fun _ _ _ => (@pe_cmpR _ _ _ _ _ _ _ _ op_le (@pe_ix _ _ _ _ _ _ _ (ix_listK (K := K) rfl) (@pv _ 1 _ _ rfl (Or.inr (Or.inl rfl)) rfl rfl) (@pv _ 0 _ _ rfl (Or.inl rfl) rfl rfl) (fun _ _ => rfl)) (@pe_ix _ _ _ _ _ _ _ (ix_listK (K := K) rfl) (@pv _ 2 _ _ rfl (Or.inr (Or.inl rfl)) rfl rfl) (@pe_op _ _ _ _ _ _ _ _ op_add (@pv _ 0 _ _ rfl (Or.inl rfl) rfl rfl) (@pe_int _ _ _ _)) (fun _ _ => rfl)) (nomark _))) (by intro _; rfl) (by rfl) (by first | exact .inl rfl | exact .inr rfl)) (@pss_one _ _ _ (@ps_if _ _ _ _ _ _ _ _ (@pt_not _ _ _ _ (@pt_val _ _ _ (@pe_callB _ _ _ _ _ _ _ _ _ (call_all rfl) (by rfl) T.b_all boot_all (@pa_cons _ _ _ _ _ (@pv _ 6 _ _ rfl (Or.inl rfl) rfl rfl) (@pa_nil _) (by rfl)) (by decide) (by decide) (by rfl) (by rfl)) (by intro _; rfl))) (@pss_one _ _ _ (@ps_ret _ _ _ _ (@pe_bl _ _ _ _))) (@pss_nil _))))) (by intro _; rfl)) (@pss_one _ _ _ (@ps_ret _ _ _ _ (@pe_bl _ _ _ _)))))), ?_⟩
  obtain ⟨op, qp, xs, ts, p, rs, R, rfl, hx, ht, hxl, htl, tt, kT, kF⟩ := h
  have hlx : (xs.map V.str).length = xs.length := List.length_map ..
  have hlt : (ts.map V.str).length = ts.length := List.length_map ..
  have hlr : (rs.map V.ref).length = R.length := by rw [List.length_map, tt.len]
  refine ⟨_, rfl, _, rfl, op, _, rfl, .inl (SqL.of hx), _, _, rfl, rfl, _, rfl, qp, _, rfl, .inl (SqL.of ht), _, _, rfl, rfl, p, rs, R, _, _, rfl, tt, fun H1 s1 => ⟨_, rfl, ?_⟩⟩
  by_cases hsq : R.length = xs.length + 1 ∧ ∀ r ∈ R, r.length = ts.length + 1
  rotate_left
  · have hb : (decide ((R.length : Int) = ((xs.map V.str).length : Int) + 1) && R.all fun z => decide ((z.length : Int) = ((ts.map V.str).length : Int) + 1)) = false := by
      rw [Bool.eq_false_iff]
      intro h
      rw [Bool.and_eq_true, List.all_eq_true] at h
      refine hsq ⟨?_, fun r hr => ?_⟩
      · have := of_decide_eq_true h.1; omega
      · have := of_decide_eq_true (h.2 r hr); omega
    exact itT (by rw [hb]; rfl) (itT rfl (kF (fun h => hsq ⟨h.len, h.row⟩) H1 s1))
  obtain ⟨hR, hrow⟩ := hsq
  have hb : (decide ((R.length : Int) = ((xs.map V.str).length : Int) + 1) && R.all fun z => decide ((z.length : Int) = ((ts.map V.str).length : Int) + 1)) = true := by
    rw [Bool.and_eq_true, List.all_eq_true]
    exact ⟨decide_eq_true (by omega), fun r hr => decide_eq_true (by have := hrow r hr; omega)⟩
  refine itF (by rw [hb]; rfl) ?_
  have tt1 := tt.same s1
  obtain ⟨r, z, h1, h2, h3, h4⟩ := tt1.get (i := xs.length) (by omega)
  have lz := hrow z (List.mem_of_getElem? h3)
  refine ⟨_, rfl, _, rfl, p, _, _, .ref r, rfl, rfl, SqL.of tt1.at', atI_end (n := xs.length) (by omega) (by rw [List.getElem?_map, h2]; rfl), _, rfl, r, _, _, .int (z.getD ts.length 0), rfl, rfl, SqL.of h4, atI_end (n := ts.length) (by rw [List.length_map]; exact lz) (by rw [List.getElem?_map, List.getElem?_eq_getElem (by omega : ts.length < z.length), List.getD_eq_getElem?_getD, List.getElem?_eq_getElem (by omega : ts.length < z.length)]; rfl), rfl, _, rfl, ?_⟩
  by_cases hz : z.getD ts.length 0 = 0
  rotate_left
  · exact itT (by rw [decide_eq_false fun q => hz (V.int.inj q)]; rfl) (kF (fun h => hz (by rw [← tP_at h3]; exact h.zero)) H1 s1)
  refine itF (by rw [decide_eq_true (by rw [hz])]; rfl) ?_
  refine ⟨_, rfl, p, rfl, ⟨_, SqL.of tt1.at'⟩, for_list (xs := rs.map V.ref) (fun i σ H2 => ∃ (u3 u4 u5 u6 : Option V), σ = [some (.ref op), some (.ref qp), some (.ref p), u3, u4, u5, u6] ∧ Same H H2 ∧ ∀ i' j, i' < i → i' ≤ xs.length → j < ts.length → -1 ≤ tP R i' (j + 1) - tP R i' j ∧ tP R i' (j + 1) - tP R i' j ≤ 1)
    ⟨none, none, none, none, rfl, s1, fun i' j h => absurd h (Nat.not_lt_zero _)⟩ (fun j σ H2 _ ⟨_, _, _, _, _, s2, _⟩ => SqL.of (s2 _ _ tt.at')) ?_ ?_⟩
  · rintro i v σ H2 hv ⟨u3, u4, u5, u6, rfl, s2, hin⟩
    obtain ⟨r', z', rfl, e1, e2, e3⟩ := (tt.same s2).at_i hv
    have lz' := hrow z' (List.mem_of_getElem? e2)
    refine ⟨_, rfl, _, rfl, _, rfl, r', _, rfl, SqL.of e3, fun a1 H3 g3 s3 f3 => ?_⟩
    refine ⟨_, rfl, _, rfl, r', _, rfl, SqL.of (s3 _ _ e3), fun a2 H4 g4 s4 f4 => ?_⟩
    rw [cut_init] at f3
    rw [cut_tail] at f4
    have fewz := tt.fewr z' (List.mem_of_getElem? e2)
    refine ⟨a1, a2, z'.dropLast, z'.tail, rfl, s4 _ _ f3, f4, by rw [List.length_dropLast]; omega, by rw [List.length_tail]; omega, fun H5 s5 => ⟨_, rfl, ?_⟩⟩
    have s25 := s2.trans (s3.trans (s4.trans s5))
    by_cases hd : diffOk z'.dropLast z'.tail = true
    · refine itF (by rw [hd]; rfl) ⟨_, _, _, _, rfl, s25, fun i' j h1 h2 h3 => ?_⟩
      by_cases he : i' = i
      · subst he
        rw [tP_at e2, tP_at e2]
        exact (diffRow lz').mp hd j h3
      · exact hin i' j (by omega) h2 h3
    · refine itT (by rw [Bool.eq_false_iff.mpr hd]; rfl) (kF (fun h => hd ((diffRow lz').mpr fun j hj => ?_)) H5 s25)
      have hi : i < R.length := (List.getElem?_eq_some_iff.mp e2).1
      have := h.right i j (by omega) hj
      rw [tP_at e2, tP_at e2] at this
      exact this
  · rintro σ H2 ⟨u3, u4, u5, u6, rfl, s2, hin⟩
    have hin : ∀ i j, i ≤ xs.length → j < ts.length → -1 ≤ tP R i (j + 1) - tP R i j ∧ tP R i (j + 1) - tP R i j ≤ 1 := fun i j h1 h2 => hin i j (by omega) h1 h2
    refine ⟨_, rfl, _, rfl, _, rfl, _, rfl, p, _, rfl, SqL.of (s2 _ _ tt.at'), fun a1 H3 g3 s3 f3 => ?_⟩
    refine ⟨_, rfl, _, rfl, p, _, rfl, SqL.of (s3 _ _ (s2 _ _ tt.at')), fun a2 H4 g4 s4 f4 => ?_⟩
    rw [cutR_init] at f3
    rw [cutR_tail] at f4
    have s24 := s2.trans (s3.trans s4)
    have f3' := s4 _ _ f3
    refine ⟨op, a1, a2, rfl, ⟨_, SqL.of (s24 _ _ hx)⟩, ⟨_, SqL.of f3'⟩, ⟨_, SqL.of f4⟩, for_zip3 (xs := xs.map V.str) (ys := rs.dropLast.map V.ref) (us := rs.tail.map V.ref) xs.length ⟨hlx, by rw [List.length_map, List.length_dropLast, tt.len]; omega, by rw [List.length_map, List.length_tail, tt.len]; omega⟩ (fun i σ H5 => ∃ (u3 u4 u5 u6 : Option V), σ = [some (.ref op), some (.ref qp), some (.ref p), u3, u4, u5, u6] ∧ Same H4 H5 ∧ ∀ i', i' < i → (∀ j, j ≤ ts.length → -1 ≤ tP R (i' + 1) j - tP R i' j ∧ tP R (i' + 1) j - tP R i' j ≤ 1) ∧ ∀ (j : Nat) x, xs[i']? = some x → ts[j]? = some x → tP R i' j ≤ tP R (i' + 1) (j + 1))
      ⟨_, _, _, _, rfl, Same.refl _, fun i' h => absurd h (Nat.not_lt_zero _)⟩ (fun i σ H5 ⟨_, _, _, _, _, s5, _⟩ => ⟨SqL.of (s5 _ _ (s24 _ _ hx)), SqL.of (s5 _ _ f3'), SqL.of (s5 _ _ f4)⟩) ?_ ?_⟩
    · rintro i vx v1 v2 σ H5 pp hvx hv1 hv2 ⟨u3, u4, u5, u6, rfl, s5, hok⟩ hpp
      obtain ⟨x, ex, rfl⟩ : ∃ x : Str, xs[i]? = some x ∧ V.str x = vx := by
        rw [List.getElem?_map] at hvx
        cases hq : xs[i]? with
        | none => rw [hq] at hvx; cases hvx
        | some x => rw [hq] at hvx; exact ⟨x, rfl, Option.some.inj hvx⟩
      have hi : i < xs.length := (List.getElem?_eq_some_iff.mp ex).1
      have tt6 : TT2 (L2.upd H5 pp (.tup [V.str x, v1, v2])) p rs R := tt.same ((s24.trans s5).up hpp)
      have s6 : Same H4 (L2.upd H5 pp (.tup [V.str x, v1, v2])) := s5.up hpp
      have hv1' : (rs.map V.ref)[i]? = some v1 := by
        rw [List.getElem?_map] at hv1 ⊢
        rw [List.getElem?_dropLast] at hv1
        split at hv1
        · exact hv1
        · cases hv1
      have hv2' : (rs.map V.ref)[i + 1]? = some v2 := by
        rw [List.getElem?_map] at hv2 ⊢
        rw [List.getElem?_tail] at hv2
        exact hv2
      obtain ⟨ra, za, rfl, a2', a3, a4⟩ := tt6.at_i hv1'
      obtain ⟨rb, zb, rfl, b2, b3, b4⟩ := tt6.at_i hv2'
      have la := hrow za (List.mem_of_getElem? a3)
      have lb := hrow zb (List.mem_of_getElem? b3)
      have fa := tt.fewr za (List.mem_of_getElem? a3)
      have fb := tt.fewr zb (List.mem_of_getElem? b3)
      refine ⟨pp, _, rfl, SqT.of upd_same, rfl, _, _, rfl, _, _, rfl, _, _, rfl, rfl, ?_⟩
      refine ⟨_, rfl, _, rfl, ra, rb, za, zb, rfl, a4, b4, fa, fb, fun H7 s7 => ⟨_, rfl, ?_⟩⟩
      have s07 := s24.trans (s6.trans s7)
      have hdi := diffOk_iff (us := za) (vs := zb) (by omega)
      by_cases hd : diffOk za zb = true
      rotate_left
      · refine itT (by rw [Bool.eq_false_iff.mpr hd]; rfl) (kF (fun h => hd (hdi.mpr fun j hj => ?_)) H7 s07)
        have := h.down i j hi (by omega)
        rw [tP_at a3, tP_at b3] at this
        omega
      refine itF (by rw [hd]; rfl) ?_
      have a7 := s7 _ _ a4
      have b7 := s7 _ _ b4
      have t7 := s07 _ _ ht
      refine ⟨_, rfl, qp, _, rfl, .inl (SqL.of t7), _, rfl, by omega, by omega, lc_range (n := ((ts.map V.str).length : Int).toNat) (big (by omega)) (fun j ys H' => (∃ bs : List Bool, ys = bs.map V.bl ∧ (bs.all id = true ↔ ∀ j', j' < j → ts[j']? = some x → tP R i j' ≤ tP R (i + 1) (j' + 1))) ∧ H' = H7) ⟨⟨[], rfl, by simp⟩, rfl⟩ (fun j ys H' K1 K0 hj q k1 k0 => ?_) fun H' q ys P hy hq => ?_⟩
      · obtain ⟨⟨bs, rfl, hbs⟩, rfl⟩ := q
        rw [Int.zero_add]
        obtain ⟨y, ey⟩ := get_of_lt (ts := ts) (j := j) (by omega)
        refine ⟨_, rfl, _, rfl, qp, _, _, _, rfl, rfl, SqL.of t7, strs_at ey, _, rfl, rfl, _, rfl, ?_⟩
        by_cases hxy : y = x
        · subst hxy
          refine itT (decide_eq_true rfl) ?_
          refine ⟨_, rfl, _, rfl, ra, _, _, _, rfl, rfl, SqL.of a7, int_at (by omega), _, rfl, _, rfl, _, _, rfl, rfl, rb, _, ((j + 1 : Nat) : Int), _, rfl, rfl, SqL.of b7, int_at (by omega), _, _, rfl, rfl, k1 _ _ ⟨⟨bs ++ [decide (za.getD j 0 ≤ zb.getD (j + 1) 0)], by rw [List.map_append]; rfl, ?_⟩, rfl⟩⟩
          rw [List.all_append, Bool.and_eq_true, hbs]
          constructor
          · rintro ⟨q1, q2⟩ j' hj' e
            by_cases he : j' = j
            · subst he
              rw [tP_at a3, tP_at b3]
              have : (decide (za.getD j' 0 ≤ zb.getD (j' + 1) 0) && true) = true := q2
              rw [Bool.and_true] at this
              exact of_decide_eq_true this
            · exact q1 j' (by omega) e
          · intro q
            refine ⟨fun j' hj' e => q j' (by omega) e, ?_⟩
            have := q j (by omega) ey
            rw [tP_at a3, tP_at b3] at this
            show (decide (za.getD j 0 ≤ zb.getD (j + 1) 0) && true) = true
            rw [Bool.and_true]
            exact decide_eq_true this
        · refine itF (decide_eq_false fun q => hxy (V.str.inj q)) (k0 _ ⟨⟨bs, rfl, ?_⟩, rfl⟩)
          rw [hbs]
          constructor
          · intro q j' hj' e
            by_cases he : j' = j
            · subst he; rw [ey] at e; exact absurd (Option.some.inj e) hxy
            · exact q j' (by omega) e
          · exact fun q j' hj' e => q j' (by omega) e
      · obtain ⟨⟨bs, rfl, hbs⟩, rfl⟩ := P
        have hbs' : bs.all id = true ↔ ∀ j, ts[j]? = some x → tP R i j ≤ tP R (i + 1) (j + 1) := by
          rw [hbs]
          constructor
          · exact fun q j e => q j (by have := (List.getElem?_eq_some_iff.mp e).1; omega) e
          · exact fun q j _ e => q j e
        refine ⟨_, rfl, q, bs, rfl, SqL.of upd_same, _, rfl, ?_⟩
        by_cases hk : bs.all id = true
        · refine itF (by rw [hk]; rfl) ⟨_, _, _, _, rfl, (s6.trans s7).up hq, fun i' hi' => ?_⟩
          by_cases he : i' = i
          · subst he
            refine ⟨fun j hj => ?_, fun j x' e1 e2 => ?_⟩
            · have := hdi.mp hd j (by omega)
              rw [tP_at a3, tP_at b3]
              omega
            · rw [ex] at e1
              cases e1
              exact hbs'.mp hk j e2
          · exact hok i' (by omega)
        · exact itT (by rw [Bool.eq_false_iff.mpr hk]; rfl) (kF (fun h => hk (hbs'.mpr fun j e => h.kept i j x ex e)) _ (s07.up hq))
    · rintro σ H5 ⟨u3, u4, u5, u6, rfl, s5, hok⟩
      refine kT ⟨hR, hrow, by rw [tP_at h3]; exact hz, fun i j hi hj => (hok i hi).1 j hj, hin, fun i j x e1 e2 => (hok i ?_).2 j x e1 e2⟩ H5 (s24.trans s5)
      exact (List.getElem?_eq_some_iff.mp e1).1
theorem ok_fjoined (T : Txt K mg d tk) (gfgathered : FnOk P w K mg base CX0 1 d.fgathered d.fgatheredd ["outs", "puts"] (sp_fgathered K)) : FnOk P w K mg base CX0 2 d.fjoined d.fjoinedd ["steps"] (sp_fjoined K) := by
  refine T.F_fjoined.ok sc_fjoined (fun vs H Q E h => len_fjoined h) (fun cdv A outer s H vs Q E hr h => ?_)
  have hu : (A.deeper (envOfC "joined" (defScope s_fjoined) s.heap.objs.size d.fjoined cdv)).units < cLine := hr.units0
  refine ⟨_, (@pss_cons _ _ _ _ _ (@ps_set _ _ (1) _ _ _ _ sc_fjoined.nd rfl (Or.inl rfl) (@pe_lstA _ _ _ _ (@pa_nil _)) (by rfl) (by first | exact .inl rfl | exact .inr rfl)) (@pss_cons _ _ _ _ _ (@ps_set _ _ (2) _ _ _ _ sc_fjoined.nd rfl (Or.inl rfl) (@pe_int _ _ _ _) (by rfl) (by first | exact .inl rfl | exact .inr rfl)) (@pss_cons _ _ _ _ _ (@ps_set _ _ (3) _ _ _ _ sc_fjoined.nd rfl (Or.inl rfl) (@pe_int _ _ _ _) (by rfl) (by first | exact .inl rfl | exact .inr rfl)) (@pss_cons _ _ _ _ _ (@ps_set _ _ (4) _ _ _ _ sc_fjoined.nd rfl (Or.inl rfl) (@pe_lstA _ _ _ _ (@pa_nil _)) (by rfl) (by first | exact .inl rfl | exact .inr rfl)) (@pss_cons _ _ _ _ _ (@ps_for _ _ _ _ _ _ _ _ PassesOwn.never rfl (@pi_list _ _ _ _ (@pv _ 0 _ _ rfl (Or.inl rfl) rfl rfl)) (@pg_tup _ _ _ _ _ _ rfl (@pgs_cons _ _ _ _ _ (@pg_name _ _ (5) _ sc_fjoined.nd rfl (Or.inl rfl) (by first | exact .inl rfl | exact .inr rfl)) (@pgs_cons _ _ _ _ _ (@pg_name _ _ (6) _ sc_fjoined.nd rfl (Or.inl rfl) (by first | exact .inl rfl | exact .inr rfl)) (@pgs_nil _) (by rfl)) (by rfl)) (by rfl) (by rfl)) (@pss_cons _ _ _ _ _ (@ps_if _ _ _ _ _ _ _ _ (@PW.pt _ _ _ (@pw_and _ _ _ _ _ _ _ (@pt_cmpR _ _ _ _ _ _ _ _ op_eq (@pv _ 5 _ _ rfl (Or.inl rfl) rfl rfl) (@pe_str _ _ _ _) (nomark _)) (@pw_and1 _ _ _ _ (@pt_cmpR _ _ _ _ _ _ _ _ op_gt (@pe_op _ _ _ _ _ _ _ _ op_add (@pv _ 3 _ _ rfl (Or.inl rfl) rfl rfl) (@pe_callB _ _ _ _ _ _ _ _ _ call_len_seq (by rfl) T.b_len boot_len (@pa_cons _ _ _ _ _ (@pv _ 4 _ _ rfl (Or.inl rfl) rfl rfl) (@pa_nil _) (by rfl)) (by decide) (by decide) (by rfl) (by rfl))) (@pe_int _ _ _ _) (nomark _))))) (@pss_cons _ _ _ _ _ (@ps_expr _ _ _ _ (@pe_bm _ _ _ _ _ _ _ _ _ _ _ _ PySem.F.plainAttrs_list PySem.F.slot_list_extend PySem.F.type_list_extend mt_extend (@pv _ 1 _ _ rfl (Or.inl rfl) rfl rfl) (@pa_cons _ _ _ _ _ (@pe_call _ _ _ _ _ _ _ _ _ _ _ _ _ _ _ _ gfgathered (hr.mono (by decide)) (by rfl) T.m_fgathered T.k_fgathered T.d_fgathered .nil pass0 (@pa_cons _ _ _ _ _ (@pv _ 3 _ _ rfl (Or.inl rfl) rfl rfl) (@pa_cons _ _ _ _ _ (@pv _ 4 _ _ rfl (Or.inl rfl) rfl rfl) (@pa_nil _) (by rfl)) (by rfl)) (by decide) (by rfl) (by rfl)) (@pa_nil _) (by rfl)) (by rfl) (by rfl) (by rfl) (by rfl) (by rfl)) (by rfl)) (@pss_cons _ _ _ _ _ (@ps_set _ _ (3) _ _ _ _ sc_fjoined.nd rfl (Or.inl rfl) (@pe_int _ _ _ _) (by rfl) (by first | exact .inl rfl | exact .inr rfl)) (@pss_one _ _ _ (@ps_set _ _ (4) _ _ _ _ sc_fjoined.nd rfl (Or.inl rfl) (@pe_lstA _ _ _ _ (@pa_nil _)) (by rfl) (by first | exact .inl rfl | exact .inr rfl))))) (@pss_nil _)) (@pss_cons _ _ _ _ _ (@ps_if _ _ _ _ _ _ _ _ (@PW.pt _ _ _ (@pw_and _ _ _ _ _ _ _ (@pt_cmpR _ _ _ _ _ _ _ _ op_ne (@pv _ 5 _ _ rfl (Or.inl rfl) rfl rfl) (@pe_str _ _ _ _) (nomark _)) (@pw_and1 _ _ _ _ (@pt_cmpR _ _ _ _ _ _ _ _ op_gt (@pv _ 2 _ _ rfl (Or.inl rfl) rfl rfl) (@pe_int _ _ _ _) (nomark _))))) (@pss_cons _ _ _ _ _ (@ps_expr _ _ _ _ (@pe_bm _ _ _ _ _ _ _ _ _ _ _ _ PySem.F.plainAttrs_list PySem.F.slot_list_append PySem.F.type_list_append mt_append (@pv _ 1 _ _ rfl (Or.inl rfl) rfl rfl) (@pa_cons _ _ _ _ _ (@pe_tupA _ _ _ _ _ (@pa_cons _ _ _ _ _ (@pe_str _ _ _ _) (@pa_cons _ _ _ _ _ (@pv _ 2 _ _ rfl (Or.inl rfl) rfl rfl) (@pa_nil _) (by rfl)) (by rfl))) (@pa_nil _) (by rfl)) (by rfl) (by rfl) (by rfl) (by rfl) (by rfl)) (by rfl)) (@pss_one _ _ _ (@ps_set _ _ (2) _ _ _ _ sc_fjoined.nd rfl (Or.inl rfl) (@pe_int _ _ _ _) (by rfl) (by first | exact .inl rfl | exact .inr rfl)))) (@pss_nil _)) (@pss_cons _ _ _ _ _ (@ps_aug _ _ (2) _ _ _ _ _ _ sc_fjoined.nd rfl (Or.inl rfl) (@pe_ifExp _ _ _ _ _ _ _ _ (@pt_cmpR _ _ _ _ _ _ _ _ op_eq (@pv _ 5 _ _ rfl (Or.inl rfl) rfl rfl) (@pe_str _ _ _ _) (nomark _)) (@pe_int _ _ _ _) (@pe_int _ _ _ _)) ip_add (by first | exact .inl rfl | exact .inr rfl)) (@pss_cons _ _ _ _ _ (@ps_aug _ _ (3) _ _ _ _ _ _ sc_fjoined.nd rfl (Or.inl rfl) (@pe_ifExp _ _ _ _ _ _ _ _ (@pt_cmpR _ _ _ _ _ _ _ _ op_eq (@pv _ 5 _ _ rfl (Or.inl rfl) rfl rfl) (@pe_str _ _ _ _) (nomark _)) (@pe_int _ _ _ _) (@pe_int _ _ _ _)) ip_add (by first | exact .inl rfl | exact .inr rfl)) (@pss_one _ _ _ (@ps_if _ _ _ _ _ _ _ _ (@pt_cmpR _ _ _ _ _ _ _ _ op_eq (@pv _ 5 _ _ rfl (Or.inl rfl) rfl rfl) (@pe_str _ _ _ _) (nomark _)) (@pss_one _ _ _ (@ps_expr _ _ _ _ (@pe_bm _ _ _ _ _ _ _ _ _ _ _ _ PySem.F.plainAttrs_list PySem.F.slot_list_append PySem.F.type_list_append mt_append (@pv _ 4 _ _ rfl (Or.inl rfl) rfl rfl) (@pa_cons _ _ _ _ _ (@pv _ 6 _ _ rfl (Or.inl rfl) rfl rfl) (@pa_nil _) (by rfl)) (by rfl) (by rfl) (by rfl) (by rfl) (by rfl)) (by rfl))) (@pss_nil _))))))) (by intro _; rfl)) (@pss_one _ _ _ (@ps_ret _ _ _ _ (@pe_op _ _ _ _ _ _ _ _ op_catA (@pv _ 1 _ _ rfl (Or.inl rfl) rfl rfl) (@pe_ifExp _ _ _ _ _ _ _ _ (@pt_cmpR _ _ _ _ _ _ _ _ op_gt (@pv _ 2 _ _ rfl (Or.inl rfl) rfl rfl) (@pe_int _ _ _ _) (nomark _)) (@pe_lstA _ _ _ _ (@pa_cons _ _ _ _ _ (@pe_tupA _ _ _ _ _ (@pa_cons _ _ _ _ _ (@pe_str _ _ _ _) (@pa_cons _ _ _ _ _ (@pv _ 2 _ _ rfl (Or.inl rfl) rfl rfl) (@pa_nil _) (by rfl)) (by rfl))) (@pa_nil _) (by rfl))) (@pe_call _ _ _ _ _ _ _ _ _ _ _ _ _ _ _ _ gfgathered (hr.mono (by decide)) (by rfl) T.m_fgathered T.k_fgathered T.d_fgathered .nil pass0 (@pa_cons _ _ _ _ _ (@pv _ 3 _ _ rfl (Or.inl rfl) rfl rfl) (@pa_cons _ _ _ _ _ (@pv _ 4 _ _ rfl (Or.inl rfl) rfl rfl) (@pa_nil _) (by rfl)) (by rfl)) (by decide) (by rfl) (by rfl))))))))))), ?_⟩
  obtain ⟨sp, vs0, st, rfl, hsp, hst, hsl, kk⟩ := h
  refine ⟨szOk rfl, fun cp H1 g1 s1 e1 => ?_⟩
  refine ⟨szOk rfl, fun pp0 H2 g2 s2 e2 => ?_⟩
  have fpp0 : H pp0 = none := s1.free g2
  have ncp : pp0 ≠ cp := fun z => ne_of_none e1 g2 z.symm
  refine ⟨_, rfl, sp, rfl, ⟨_, SqL.of ((s1.trans s2) _ _ hsp)⟩, for_list (xs := vs0) (fun j σ H3 => ∃ (us : List V) (ch : List Cg) (k o : Nat) (ps : List Str) (pp : Addr) (u5 u6 : Option V), σ = [some (.ref sp), some (.ref cp), some (.int (k : Int)), some (.int (o : Int)), some (.ref pp), u5, u6] ∧ JSt H H3 cp pp st j us ch k o ps)
    ⟨[], [], 0, 0, [], pp0, none, none, rfl, ⟨s1.trans s2, fpp0, ncp, s2 _ _ e1, e2, .nil, (fun _ z => nomatch z), ?_, .inl rfl, .nil, (fun z => absurd z (by decide)), (fun z => absurd z (by decide)), (fun _ _ _ => rfl), Nat.le_refl _, Nat.le_refl _, Nat.le_refl _, Nat.le_refl _, (fun _ z => nomatch z)⟩⟩ (fun j σ H3 _ ⟨_, _, _, _, _, _, _, _, _, J⟩ => SqL.of (J.same _ _ hsp)) ?_ ?_⟩
  · exact ((hand_gath [] 0 []).trans (Eqv.refl _)).symm
  · rintro j x σ H3 hx ⟨us, ch, k, o, ps, pp, u5, u6, rfl, J⟩
    obtain ⟨y, hy, hat⟩ := (hst.same J.same).step hx
    have et : st.take (j + 1) = st.take j ++ [y] := take_snoc hy
    have hj : j < 2400 := by
      have := (List.getElem?_eq_some_iff.mp hy).1
      omega
    have lk := J.lk
    have lo := J.lo
    have lp := J.lp
    have lc := J.lc
    have lus : us.length ≤ 4800 := by rw [J.its.len]; omega
    cases y with
    | keep n =>
      obtain ⟨rfl, q, rfl, hq⟩ := hat
      refine ⟨q, _, rfl, SqT.of hq, rfl, _, _, rfl, _, _, rfl, rfl, ?_⟩
      refine ⟨_, rfl, rfl, _, rfl, itT (by decide +kernel) ⟨_, rfl, _, rfl, pp, _, rfl, .inl (SqL.of J.atp), _, _, rfl, rfl, _, _, rfl, rfl, _, rfl, ite2 (fun hb => ?_) fun hb => ?_⟩⟩
      · have hb := of_decide_eq_true hb
        rw [List.length_map] at hb
        have hop : 0 < o + ps.length := by omega
        have k0 : k = 0 := by
          rcases J.one with h | ⟨h1, h2⟩
          · exact h
          · rw [h1, h2] at hop; exact absurd hop (by decide)
        subst k0
        refine ⟨_, rfl, .inl ⟨rfl, _, SqL.of J.atc⟩, _, rfl, _, rfl, o, pp, ps, rfl, J.atp, fun H4 gp gus s4 g4 e4 c4 n4 => ?_⟩
        have glen : gus.length ≤ 2 := by rw [c4.len]; exact gath_len o ps
        have ncg : gp ≠ cp := fun z => ne_of_none J.atc g4 z.symm
        refine ⟨cp, gp, _, _, rfl, rfl, s4 _ _ J.atc, e4, huge (by omega), ?_⟩
        refine ⟨szOk rfl, fun pp2 H6 g6 s6 e6 => ?_⟩
        refine ⟨_, rfl, rfl, _, rfl, itF (by decide +kernel) (itF rfl ?_)⟩
        refine ⟨_, rfl, _, rfl, rfl, _, rfl, itT (by decide +kernel) ⟨_, _, rfl, rfl, ?_⟩⟩
        refine ⟨_, rfl, _, rfl, rfl, _, rfl, itF (by decide +kernel) ⟨_, _, rfl, rfl, ?_⟩⟩
        refine ⟨_, rfl, rfl, _, rfl, itF (by decide +kernel) ?_⟩
        have n2c : pp2 ≠ cp := fun z => by rw [z, upd_same] at g6; cases g6
        have up : ∀ b u, b ≠ cp → H4 b = some u → H6 b = some u ∧ b ≠ pp2 := fun b u hb h => by
          have h5 : L2.upd H4 cp (.lst (us ++ gus)) b = some u := by rw [upd_ne hb]; exact h
          exact ⟨s6 _ _ h5, ne_of_none h5 g6⟩
        have tu : ∀ q xs, H4 q = some (.tup xs) → q ≠ cp := fun q xs h z => by rw [z, s4 _ _ J.atc] at h; cases h
        obtain ⟨f1, f2⟩ := fm_gath J.fm (J.endK hop) hop
        have sH4 : Same H H4 := J.same.trans s4
        refine ⟨us ++ gus, ch ++ gath o ps, 0 + 1, 0, [], pp2, _, _, rfl, ⟨(sH4.wr g1).trans s6, (sH4.wr g1).free g6, n2c, s6 _ _ upd_same, e6, ?_, ?_, ?_, .inr ⟨rfl, rfl⟩, f1, fun _ => f2, (fun z => absurd z (by decide)), (fun z => absurd z (by decide)), by omega, Nat.zero_le _, Nat.zero_le _, ?_, app_big J.big (gath_big (by omega) (by omega))⟩⟩
        · refine CgsAt.app (J.its.to (fun q xs h => ?_) fun v _ q l zs _ _ h => ?_) (c4.to (fun q xs h => ?_) fun v hv q l zs ev hq h => ?_)
          · obtain ⟨a1, a2, a3⟩ := dd_get h
            obtain ⟨b1, b2⟩ := up q _ a1 (s4 _ _ a3)
            exact dd_put a1 b2 b1
          · obtain ⟨a1, a2, a3⟩ := dd_get h
            obtain ⟨b1, b2⟩ := up l _ a1 (s4 _ _ a3)
            exact dd_put a1 b2 b1
          · have h' := del_same _ _ h
            obtain ⟨b1, b2⟩ := up q _ (tu q xs h') h'
            exact dd_put (tu q xs h') b2 b1
          · have el := n4 v hv q l ev (del_same _ _ hq)
            subst el
            have h' := del_same _ _ h
            obtain ⟨b1, b2⟩ := up l _ J.ne h'
            exact dd_put J.ne b2 b1
        · refine NwL.app (J.nw.to J.tups (fun q xs h => ?_)) (fun v hv q l ev hq => ?_)
          · have h' := s4 _ _ h
            exact (up q _ (tu q xs h') h').1
          · have hq4 : H4 q = some (.tup [.str "put", .ref l]) := (c4.same del_same).back (fun q xs h => (up q _ (tu q xs h) h).1) hv ev hq
            rw [n4 v hv q l ev hq4]
            exact J.newp
        · rw [et]
          refine (J.eqv.app (Eqv.refl [.keep 1])).trans ((hand_flush ch o ps).trans ?_)
          exact hand_cong ((Eqv.refl ch).app (gath_eqv o ps)) 1 0 []
        · have := gath_len o ps
          rw [List.length_append]
          omega
      · have hb := of_decide_eq_false (Bool.eq_false_iff.mpr hb)
        rw [List.length_map] at hb
        have o0 : o = 0 := by omega
        have p0 : ps = [] := by
          cases ps with
          | nil => rfl
          | cons a b => rw [List.length_cons] at hb; omega
        subst o0 p0
        refine ⟨_, rfl, rfl, _, rfl, itF (by decide +kernel) (itF rfl ?_)⟩
        refine ⟨_, rfl, _, rfl, rfl, _, rfl, itT (by decide +kernel) ⟨_, _, rfl, rfl, ?_⟩⟩
        refine ⟨_, rfl, _, rfl, rfl, _, rfl, itF (by decide +kernel) ⟨_, _, rfl, rfl, ?_⟩⟩
        refine ⟨_, rfl, rfl, _, rfl, itF (by decide +kernel) ?_⟩
        refine ⟨us, ch, k + 1, 0, [], pp, _, _, rfl, ⟨J.same, J.newp, J.ne, J.atc, J.atp, J.its, J.nw, ?_, .inr ⟨rfl, rfl⟩, J.fm, fun _ => ?_, (fun z => absurd z (by decide)), (fun z => absurd z (by omega)), by omega, Nat.zero_le _, Nat.zero_le _, by omega, J.big⟩⟩
        · rw [et]
          exact (J.eqv.app (Eqv.refl [.keep 1])).trans (hand_keep ch k)
        · by_cases hk : 0 < k
          · exact J.endN hk
          · rw [J.nil (by omega) rfl rfl]
            exact EndN_nil
    | out n =>
      obtain ⟨rfl, q, rfl, hq⟩ := hat
      refine ⟨q, _, rfl, SqT.of hq, rfl, _, _, rfl, _, _, rfl, rfl, ?_⟩
      refine ⟨_, rfl, rfl, _, rfl, itF (by decide +kernel) (itF rfl ?_)⟩
      refine ⟨_, rfl, rfl, _, rfl, itT (by decide +kernel) ⟨_, rfl, _, _, rfl, rfl, _, rfl, ite2 (fun hb => ?_) fun hb => ?_⟩⟩
      · have hb := of_decide_eq_true hb
        have hk : 0 < k := by omega
        obtain ⟨o0, p0⟩ : o = 0 ∧ ps = [] := by
          rcases J.one with h | h
          · omega
          · exact h
        subst o0 p0
        refine ⟨_, rfl, .inl ⟨rfl, _, SqL.of J.atc⟩, _, rfl, szOk rfl, fun qA H4 gA sA eA => ⟨cp, _, _, rfl, rfl, sA _ _ J.atc, huge' (by omega), ?_⟩⟩
        have nA : qA ≠ cp := fun z => ne_of_none J.atc gA z.symm
        have nP : qA ≠ pp := fun z => ne_of_none J.atp gA z.symm
        obtain ⟨f1, f2⟩ := fm_keep J.fm (J.endN hk) hk
        have s5 : Same H (L2.upd H4 cp (.lst (us ++ [.ref qA]))) := (J.same.trans sA).wr g1
        have atp5 : L2.upd H4 cp (.lst (us ++ [.ref qA])) pp = some (.lst (List.map V.str [])) := by rw [upd_ne J.ne]; exact sA _ _ J.atp
        have its5 : CgsAt (dd (L2.upd H4 cp (.lst (us ++ [.ref qA]))) cp pp) (us ++ [.ref qA]) (ch ++ [.keep k]) := by
          refine CgsAt.snoc ((J.its.same sA.cuts.cuts).same fun b u h => ?_) (x := .keep k) ⟨qA, rfl, dd_put nA nP (by rw [upd_ne nA]; exact eA)⟩
          obtain ⟨a1, a2, a3⟩ := dd_get h
          exact dd_put a1 a2 (by rw [upd_ne a1]; exact a3)
        have nw5 : NwL H (L2.upd H4 cp (.lst (us ++ [.ref qA]))) (us ++ [.ref qA]) := by
          have tu : ∀ q xs, H3 q = some (.tup xs) → L2.upd H4 cp (.lst (us ++ [.ref qA])) q = some (.tup xs) := fun q xs h => by
            have : q ≠ cp := fun z => by rw [z, J.atc] at h; cases h
            rw [upd_ne this]; exact sA _ _ h
          refine NwL.app (J.nw.to J.tups tu) fun v hv q l ev hq => ?_
          rw [List.mem_singleton.mp hv] at ev
          cases ev
          rw [upd_ne nA, eA] at hq
          cases (List.cons.inj (HO.tup.inj (Option.some.inj hq))).2
        have big5 : ∀ x ∈ ch ++ [.keep k], x.big := snoc_big (x := .keep k) J.big (by show k ≤ 3000; omega)
        have eq5 : Eqv (st.take j) (hand (ch ++ [.keep k]) 0 0 []) := J.eqv.trans (hand_k ch k)
        refine ⟨_, rfl, _, rfl, rfl, _, rfl, itF (by decide +kernel) ⟨_, _, rfl, rfl, ?_⟩⟩
        refine ⟨_, rfl, _, rfl, rfl, _, rfl, itT (by decide +kernel) ⟨_, _, rfl, rfl, ?_⟩⟩
        refine ⟨_, rfl, rfl, _, rfl, itF (by decide +kernel) ?_⟩
        refine ⟨(us ++ [.ref qA]), (ch ++ [.keep k]), 0, 0 + 1, [], pp, _, _, rfl, ⟨s5, J.newp, J.ne, upd_same, atp5, its5, nw5, ?_, .inl rfl, f1, (fun z => absurd z (by decide)), fun _ => f2, (fun _ z _ => absurd z (by omega)), Nat.zero_le _, by omega, by first | exact Nat.zero_le _ | omega, by rw [List.length_append, List.length_singleton]; omega, big5⟩⟩
        rw [et]
        exact (eq5.app (Eqv.refl [.out 1])).trans (hand_out (ch ++ [.keep k]) 0 [])
      · have hb := of_decide_eq_false (Bool.eq_false_iff.mpr hb)
        have k0 : k = 0 := by omega
        subst k0
        have s5 := J.same
        have atp5 := J.atp
        have its5 := J.its
        have nw5 := J.nw
        have big5 := J.big
        have eq5 := J.eqv
        have f1 := J.fm
        have f2 : EndK ch := by
          by_cases hop : 0 < o + ps.length
          · exact J.endK hop
          · rw [J.nil rfl (by omega) (by cases ps with | nil => rfl | cons a b => rw [List.length_cons] at hop; omega)]
            exact fun x e => by cases e
        refine ⟨_, rfl, _, rfl, rfl, _, rfl, itF (by decide +kernel) ⟨_, _, rfl, rfl, ?_⟩⟩
        refine ⟨_, rfl, _, rfl, rfl, _, rfl, itT (by decide +kernel) ⟨_, _, rfl, rfl, ?_⟩⟩
        refine ⟨_, rfl, rfl, _, rfl, itF (by decide +kernel) ?_⟩
        refine ⟨us, ch, 0, o + 1, ps, pp, _, _, rfl, ⟨s5, J.newp, J.ne, J.atc, atp5, its5, nw5, ?_, .inl rfl, f1, (fun z => absurd z (by decide)), fun _ => f2, (fun _ z _ => absurd z (by omega)), Nat.zero_le _, by omega, by first | exact Nat.zero_le _ | omega, by omega, big5⟩⟩
        rw [et]
        exact (eq5.app (Eqv.refl [.out 1])).trans (hand_out ch o ps)
    | put zs =>
      obtain ⟨z, q, rfl, rfl, hq⟩ := hat
      refine ⟨q, _, rfl, SqT.of hq, rfl, _, _, rfl, _, _, rfl, rfl, ?_⟩
      refine ⟨_, rfl, rfl, _, rfl, itF (by decide +kernel) (itF rfl ?_)⟩
      refine ⟨_, rfl, rfl, _, rfl, itT (by decide +kernel) ⟨_, rfl, _, _, rfl, rfl, _, rfl, ite2 (fun hb => ?_) fun hb => ?_⟩⟩
      · have hb := of_decide_eq_true hb
        have hk : 0 < k := by omega
        obtain ⟨o0, p0⟩ : o = 0 ∧ ps = [] := by
          rcases J.one with h | h
          · omega
          · exact h
        subst o0 p0
        refine ⟨_, rfl, .inl ⟨rfl, _, SqL.of J.atc⟩, _, rfl, szOk rfl, fun qA H4 gA sA eA => ⟨cp, _, _, rfl, rfl, sA _ _ J.atc, huge' (by omega), ?_⟩⟩
        have nA : qA ≠ cp := fun z => ne_of_none J.atc gA z.symm
        have nP : qA ≠ pp := fun z => ne_of_none J.atp gA z.symm
        obtain ⟨f1, f2⟩ := fm_keep J.fm (J.endN hk) hk
        have s5 : Same H (L2.upd H4 cp (.lst (us ++ [.ref qA]))) := (J.same.trans sA).wr g1
        have atp5 : L2.upd H4 cp (.lst (us ++ [.ref qA])) pp = some (.lst (List.map V.str [])) := by rw [upd_ne J.ne]; exact sA _ _ J.atp
        have its5 : CgsAt (dd (L2.upd H4 cp (.lst (us ++ [.ref qA]))) cp pp) (us ++ [.ref qA]) (ch ++ [.keep k]) := by
          refine CgsAt.snoc ((J.its.same sA.cuts.cuts).same fun b u h => ?_) (x := .keep k) ⟨qA, rfl, dd_put nA nP (by rw [upd_ne nA]; exact eA)⟩
          obtain ⟨a1, a2, a3⟩ := dd_get h
          exact dd_put a1 a2 (by rw [upd_ne a1]; exact a3)
        have nw5 : NwL H (L2.upd H4 cp (.lst (us ++ [.ref qA]))) (us ++ [.ref qA]) := by
          have tu : ∀ q xs, H3 q = some (.tup xs) → L2.upd H4 cp (.lst (us ++ [.ref qA])) q = some (.tup xs) := fun q xs h => by
            have : q ≠ cp := fun z => by rw [z, J.atc] at h; cases h
            rw [upd_ne this]; exact sA _ _ h
          refine NwL.app (J.nw.to J.tups tu) fun v hv q l ev hq => ?_
          rw [List.mem_singleton.mp hv] at ev
          cases ev
          rw [upd_ne nA, eA] at hq
          cases (List.cons.inj (HO.tup.inj (Option.some.inj hq))).2
        have big5 : ∀ x ∈ ch ++ [.keep k], x.big := snoc_big (x := .keep k) J.big (by show k ≤ 3000; omega)
        have eq5 : Eqv (st.take j) (hand (ch ++ [.keep k]) 0 0 []) := J.eqv.trans (hand_k ch k)
        refine ⟨_, rfl, _, rfl, rfl, _, rfl, itF (by decide +kernel) ⟨_, _, rfl, rfl, ?_⟩⟩
        refine ⟨_, rfl, _, rfl, rfl, _, rfl, itF (by decide +kernel) ⟨_, _, rfl, rfl, ?_⟩⟩
        refine ⟨_, rfl, rfl, _, rfl, itT (by decide +kernel) ?_⟩
        refine ⟨_, rfl, .inl ⟨rfl, _, SqL.of atp5⟩, _, rfl, pp, _, _, rfl, rfl, atp5, huge' (by rw [List.length_map]; first | (show 0 ≤ _; exact Nat.zero_le _) | omega), ?_⟩
        have its6 : CgsAt (dd (L2.upd (L2.upd H4 cp (.lst (us ++ [.ref qA]))) pp (.lst (List.map V.str [] ++ [V.str z]))) cp pp) (us ++ [.ref qA]) (ch ++ [.keep k]) := its5.same fun b u h => by
          obtain ⟨a1, a2, a3⟩ := dd_get h
          exact dd_put a1 a2 (by rw [upd_ne a2]; exact a3)
        have nw6 : NwL H (L2.upd (L2.upd H4 cp (.lst (us ++ [.ref qA]))) pp (.lst (List.map V.str [] ++ [V.str z]))) (us ++ [.ref qA]) := nw5.to (its5.same dd_same) fun q xs h => by
          have : q ≠ pp := fun z => by rw [z, atp5] at h; cases h
          rw [upd_ne this]; exact h
        refine ⟨(us ++ [.ref qA]), (ch ++ [.keep k]), 0, 0, [] ++ [z], pp, _, _, rfl, ⟨s5.wr J.newp, J.newp, J.ne, by rw [upd_ne J.ne.symm]; exact upd_same, by rw [upd_same, List.map_append]; rfl, its6, nw6, ?_, .inl rfl, f1, (fun z => absurd z (by decide)), fun _ => f2, (fun _ _ z => absurd (congrArg List.length z) (by simp)), Nat.zero_le _, by omega, by rw [List.length_append, List.length_singleton]; first | (show 0 + 1 ≤ _; omega) | omega, by rw [List.length_append, List.length_singleton]; omega, big5⟩⟩
        rw [et]
        exact (eq5.app (Eqv.refl [.put [z]])).trans (hand_put (ch ++ [.keep k]) 0 [] z)
      · have hb := of_decide_eq_false (Bool.eq_false_iff.mpr hb)
        have k0 : k = 0 := by omega
        subst k0
        have s5 := J.same
        have atp5 := J.atp
        have its5 := J.its
        have nw5 := J.nw
        have big5 := J.big
        have eq5 := J.eqv
        have f1 := J.fm
        have f2 : EndK ch := by
          by_cases hop : 0 < o + ps.length
          · exact J.endK hop
          · rw [J.nil rfl (by omega) (by cases ps with | nil => rfl | cons a b => rw [List.length_cons] at hop; omega)]
            exact fun x e => by cases e
        refine ⟨_, rfl, _, rfl, rfl, _, rfl, itF (by decide +kernel) ⟨_, _, rfl, rfl, ?_⟩⟩
        refine ⟨_, rfl, _, rfl, rfl, _, rfl, itF (by decide +kernel) ⟨_, _, rfl, rfl, ?_⟩⟩
        refine ⟨_, rfl, rfl, _, rfl, itT (by decide +kernel) ?_⟩
        refine ⟨_, rfl, .inl ⟨rfl, _, SqL.of atp5⟩, _, rfl, pp, _, _, rfl, rfl, atp5, huge' (by rw [List.length_map]; first | (show 0 ≤ _; exact Nat.zero_le _) | omega), ?_⟩
        have its6 : CgsAt (dd (L2.upd H3 pp (.lst (List.map V.str ps ++ [V.str z]))) cp pp) us ch := its5.same fun b u h => by
          obtain ⟨a1, a2, a3⟩ := dd_get h
          exact dd_put a1 a2 (by rw [upd_ne a2]; exact a3)
        have nw6 : NwL H (L2.upd H3 pp (.lst (List.map V.str ps ++ [V.str z]))) us := nw5.to (its5.same dd_same) fun q xs h => by
          have : q ≠ pp := fun z => by rw [z, atp5] at h; cases h
          rw [upd_ne this]; exact h
        refine ⟨us, ch, 0, o, ps ++ [z], pp, _, _, rfl, ⟨s5.wr J.newp, J.newp, J.ne, by rw [upd_ne J.ne.symm]; exact J.atc, by rw [upd_same, List.map_append]; rfl, its6, nw6, ?_, .inl rfl, f1, (fun z => absurd z (by decide)), fun _ => f2, (fun _ _ z => absurd (congrArg List.length z) (by simp)), Nat.zero_le _, by omega, by rw [List.length_append, List.length_singleton]; first | (show 0 + 1 ≤ _; omega) | omega, by omega, big5⟩⟩
        rw [et]
        exact (eq5.app (Eqv.refl [.put [z]])).trans (hand_put ch o ps z)
  · rintro σ H3 ⟨us, ch, k, o, ps, pp, u5, u6, rfl, J⟩
    have el : st.take vs0.length = st := by rw [hst.len]; exact List.take_length
    have hvl : vs0.length ≤ 2400 := by rw [hst.len]; exact hsl
    have lk := J.lk
    have lo := J.lo
    have lp := J.lp
    have lc := J.lc
    have eqv := J.eqv
    rw [el] at eqv
    have lus : us.length ≤ 4800 := by rw [J.its.len]; omega
    refine ⟨_, rfl, _, rfl, _, _, rfl, rfl, _, rfl, ite2 (fun hb => ?_) fun hb => ?_⟩
    · have hb := of_decide_eq_true hb
      have hk : 0 < k := by omega
      obtain ⟨o0, p0⟩ : o = 0 ∧ ps = [] := by
        rcases J.one with h | h
        · omega
        · exact h
      subst o0 p0
      refine ⟨_, rfl, szOk rfl, fun q H4 g4 s4 e4 => ⟨szOk rfl, fun l1 H5 g5 s5 e5 => ?_⟩⟩
      have s45 := s4.trans s5
      refine ⟨cp, l1, _, _, rfl, rfl, s45 _ _ J.atc, e5, huge (by show us.length + 1 ≤ _; omega), fun p H6 g6 s6 e6 => ?_⟩
      have c5 : CgsAt H5 (us ++ [.ref q]) (ch ++ [.keep k]) := CgsAt.snoc (J.tups.same s45) (x := .keep k) ⟨q, rfl, s5 _ _ e4⟩
      have n5 : NwL H H5 (us ++ [.ref q]) := NwL.app (J.nw.same J.tups s45) fun v hv q' l ev hq => by
        rw [List.mem_singleton.mp hv] at ev
        cases ev
        rw [s5 _ _ e4] at hq
        cases (List.cons.inj (HO.tup.inj (Option.some.inj hq))).2
      refine kk H6 p _ (ch ++ [.keep k]) (J.same.trans (s45.trans s6)) ((J.same.trans s45).free g6) ⟨e6, c5.same s6, snoc_big (x := .keep k) J.big (by show k ≤ 3000; omega), by rw [List.length_append, List.length_singleton]; omega⟩ (n5.same c5 s6) (fun v hv q' l ev hq => ?_) (eqv.trans (hand_keepEnd ch k)) (fm_keep J.fm (J.endN hk) hk).1
      have hq5 := c5.back (fun q xs h => s6 _ _ h) hv ev hq
      obtain ⟨zs, hl⟩ := c5.lst hv ev hq5
      exact ne_of_none hl g6
    · have hb := of_decide_eq_false (Bool.eq_false_iff.mpr hb)
      have k0 : k = 0 := by omega
      subst k0
      refine ⟨_, rfl, _, rfl, o, pp, ps, rfl, J.atp, fun H4 gp gus s4 g4 e4 c4 n4 => ?_⟩
      have glen : gus.length ≤ 2 := by rw [c4.len]; exact gath_len o ps
      refine ⟨cp, gp, _, _, rfl, rfl, s4 _ _ J.atc, e4, huge (by omega), fun p H6 g6 s6 e6 => ?_⟩
      have c5 : CgsAt H4 (us ++ gus) (ch ++ gath o ps) := CgsAt.app (J.tups.same s4) (c4.same del_same)
      have n5 : NwL H H4 (us ++ gus) := NwL.app (J.nw.same J.tups s4) fun v hv q' l ev hq => by rw [n4 v hv q' l ev hq]; exact J.newp
      have gl := gath_len o ps
      refine kk H6 p _ (ch ++ gath o ps) (J.same.trans (s4.trans s6)) ((J.same.trans s4).free g6) ⟨e6, c5.same s6, app_big J.big (gath_big (by omega) (by omega)), by rw [List.length_append]; omega⟩ (n5.same c5 s6) (fun v hv q' l ev hq => ?_) (eqv.trans (hand_gath ch o ps)) ?_
      · have hq5 := c5.back (fun q xs h => s6 _ _ h) hv ev hq
        obtain ⟨zs, hl⟩ := c5.lst hv ev hq5
        exact ne_of_none hl g6
      · by_cases hop : 0 < o + ps.length
        · exact (fm_gath J.fm (J.endK hop) hop).1
        · unfold gath
          rw [if_neg (by omega), if_neg (by omega), List.append_nil, List.append_nil]
          exact J.fm
theorem ok_f_law_menu (T : Txt K mg d tk) (gf_law_begun : FnOk P w K mg base CX0 1 d.f_law_begun d.f_law_begund ["_law_script", "_law_k"] (sp_f_law_begun K)) (gf_law_draw : FnOk P w K mg base CX0 1 d.f_law_draw d.f_law_drawd ["_law_state", "_law_many"] (sp_f_law_draw K)) : FnOk P w K mg base CX0 2 d.f_law_menu d.f_law_menud ["_law_script"] (sp_f_law_menu K) := by
  refine T.F_f_law_menu.ok sc_f_law_menu (fun vs H Q E h => len_f_law_menu h) (fun cdv A outer s H vs Q E hr h => ?_)
  have hu : (A.deeper (envOfC "_law_menu" (defScope s_f_law_menu) s.heap.objs.size d.f_law_menu cdv)).units < cLine := hr.units0
  refine ⟨_, (@pss_cons _ _ _ _ _ (@ps_set _ _ (1) _ _ _ _ sc_f_law_menu.nd rfl (Or.inr rfl) (@pe_call _ _ _ _ _ _ _ _ _ _ _ _ _ _ _ _ gf_law_begun (hr.mono (by decide)) (by rfl) T.m_f_law_begun T.k_f_law_begun T.d_f_law_begun .nil pass0 (@pa_cons _ _ _ _ _ (@pv _ 0 _ _ rfl (Or.inl rfl) rfl rfl) (@pa_cons _ _ _ _ _ (@pe_int _ _ _ _) (@pa_nil _) (by rfl)) (by rfl)) (by decide) (by rfl) (by rfl)) (by rfl) (by first | exact .inl rfl | exact .inr rfl)) (@pss_cons _ _ _ _ _ (@ps_set _ _ (2) _ _ _ _ sc_f_law_menu.nd rfl (Or.inr rfl) (@pe_str _ _ _ _) (by rfl) (by first | exact .inl rfl | exact .inr rfl)) (@pss_cons _ _ _ _ _ (@ps_set _ _ (3) _ _ _ _ sc_f_law_menu.nd rfl (Or.inl rfl) (@pe_lstA _ _ _ _ (@pa_nil _)) (by rfl) (by first | exact .inl rfl | exact .inr rfl)) (@pss_cons _ _ _ _ _ (@ps_for _ _ _ _ _ _ _ _ PassesOwn.never rfl (@pi_range1 _ _ _ _ _ _ (by rfl) T.b_range (@pa_cons _ _ _ _ _ (@pe_op _ _ _ _ _ _ _ _ op_add (@pe_int _ _ _ _) (@pe_call _ _ _ _ _ _ _ _ _ _ _ _ _ _ _ _ gf_law_draw (hr.mono (by decide)) (by rfl) T.m_f_law_draw T.k_f_law_draw T.d_f_law_draw .nil pass0 (@pa_cons _ _ _ _ _ (@pv _ 1 _ _ rfl (Or.inr (Or.inl rfl)) rfl rfl) (@pa_cons _ _ _ _ _ (@pe_int _ _ _ _) (@pa_nil _) (by rfl)) (by rfl)) (by decide) (by rfl) (by rfl))) (@pa_nil _) (by rfl)) (by rfl)) (@pg_name _ _ (4) _ sc_f_law_menu.nd rfl (Or.inl rfl) (by first | exact .inl rfl | exact .inr rfl)) (@pss_cons _ _ _ _ _ (@ps_set _ _ (5) _ _ _ _ sc_f_law_menu.nd rfl (Or.inl rfl) (@pe_bm _ _ _ _ _ _ _ _ _ _ _ _ PySem.F.plainAttrs_str PySem.F.slot_str_join PySem.F.type_str_join mt_join (@pe_str _ _ _ _) (@pa_cons _ _ _ _ _ (@pe_lcomp _ _ _ _ _ _ _ (["_law_turn"]) ([("_law_signs", 2), ("_law_state", 1)]) _ _ _ _ _ rfl (@pi_range1 _ _ _ _ _ _ (by rfl) T.b_range (@pa_cons _ _ _ _ _ (@pe_call _ _ _ _ _ _ _ _ _ _ _ _ _ _ _ _ gf_law_draw (hr.mono (by decide)) (by rfl) T.m_f_law_draw T.k_f_law_draw T.d_f_law_draw .nil pass0 (@pa_cons _ _ _ _ _ (@pv _ 1 _ _ rfl (Or.inr (Or.inl rfl)) rfl rfl) (@pa_cons _ _ _ _ _ (@pe_int _ _ _ _) (@pa_nil _) (by rfl)) (by rfl)) (by decide) (by rfl) (by rfl)) (@pa_nil _) (by rfl)) (by rfl)) ⟨rfl, by decide +kernel, by decide +kernel⟩ (caps_def (defScope s_f_law_menu) ["_law_script", "_law_state", "_law_signs", "_law_found", "_law_k", "_law_text"] rfl rfl (fun _ h => cell_has h) (by decide +kernel) (by decide +kernel) (by decide +kernel)) (fun _ _ _ => (@pg_name _ _ (0) _ (by show List.Nodup (["_law_turn", "_law_signs", "_law_state"] : List Str); decide +kernel) rfl (Or.inl rfl) (by first | exact .inl rfl | exact .inr rfl))) (fun _ => fresh_name rfl) (fun _ _ _ => (@pts_nil _)) (fun _ _ _ => (@pe_ix _ _ _ _ _ _ _ ix_str (@pv _ 1 _ _ rfl (Or.inr (Or.inl rfl)) rfl rfl) (@pe_call _ _ _ _ _ _ _ _ _ _ _ _ _ _ _ _ gf_law_draw (hr.mono (by decide)) (by rfl) T.m_f_law_draw T.k_f_law_draw T.d_f_law_draw .nil pass0 (@pa_cons _ _ _ _ _ (@pv _ 2 _ _ rfl (Or.inr (Or.inl rfl)) rfl rfl) (@pa_cons _ _ _ _ _ (@pe_int _ _ _ _) (@pa_nil _) (by rfl)) (by rfl)) (by decide) (by rfl) (by rfl)) (fun _ _ => rfl))) (by intro _; rfl)) (@pa_nil _) (by rfl)) (by rfl) (by rfl) (by rfl) (by rfl) (by rfl)) (by rfl) (by first | exact .inl rfl | exact .inr rfl)) (@pss_one _ _ _ (@ps_if _ _ _ _ _ _ _ _ (@pt_cmpR _ _ _ _ _ _ _ _ op_notIn_seq (@pv _ 5 _ _ rfl (Or.inl rfl) rfl rfl) (@pv _ 3 _ _ rfl (Or.inl rfl) rfl rfl) rfl) (@pss_one _ _ _ (@ps_expr _ _ _ _ (@pe_bm _ _ _ _ _ _ _ _ _ _ _ _ PySem.F.plainAttrs_list PySem.F.slot_list_append PySem.F.type_list_append mt_append (@pv _ 3 _ _ rfl (Or.inl rfl) rfl rfl) (@pa_cons _ _ _ _ _ (@pv _ 5 _ _ rfl (Or.inl rfl) rfl rfl) (@pa_nil _) (by rfl)) (by rfl) (by rfl) (by rfl) (by rfl) (by rfl)) (by rfl))) (@pss_nil _)))) (by intro _; rfl)) (@pss_one _ _ _ (@ps_ret _ _ _ _ (@pv _ 3 _ _ rfl (Or.inl rfl) rfl rfl))))))), ?_⟩
  obtain ⟨sp, ns, rfl, hs, kk⟩ := h
  refine ⟨_, rfl, sp, ns, 1, rfl, hs, by omega, fun H1 p s1 g1 r1 => ?_⟩
  refine ⟨szOk rfl, fun fp H2 g2 s2 e2 => ?_⟩
  have npf : fp ≠ p := fun z => r1.ne g2 z.symm
  refine ⟨_, rfl, p, 0, 6, rfl, r1.same s2, by omega, by omega, by omega, fun H3 r s3 r3 hr => ?_⟩
  have fF : H fp = none := s1.free g2
  refine ⟨_, _, rfl, rfl, _, rfl, by omega, by omega, for_range (n := (1 + (r : Int)).toNat) (fun j σ H4 => ∃ (ms : List Str) (u4 u5 : Option V), σ = [some (.ref sp), some (.ref p), some (.str "abcdefghijklmnopqrstuvwxyz .,*#_"), some (.ref fp), u4, u5] ∧ Same H H4 ∧ SR H4 p (1 + 5 * j) ∧ TL H4 fp ms ∧ ms.length ≤ j ∧ (0 < j → 0 < ms.length))
    ⟨[], none, none, rfl, ((s1.trans s2).cut g1).trans s3, r3.more (by omega), ⟨s3 _ _ (by rw [del_ne npf]; exact e2), fun _ z => nomatch z⟩, by simp, by omega⟩ ?_ ?_⟩
  · rintro j σ H4 hj ⟨ms, u4, u5, rfl, s4, r4, t4, hm, hm0⟩
    have hj6 : j < 6 := by omega
    refine ⟨rfl, _, rfl, p, _, 4, rfl, r4, by omega, by omega, by omega, fun H5 r' s5 r5 hr5 => ?_⟩
    refine ⟨_, rfl, by omega, by omega, lc_range (n := ((r' : Nat) : Int).toNat) (big (by omega)) (fun i ys H' => ∃ zs : List Str, ys = zs.map V.str ∧ (∀ z ∈ zs, z.length = 1 ∧ IsT z) ∧ zs.length = i ∧ Same H H' ∧ SR H' p (1 + 5 * j + 1 + i) ∧ TL H' fp ms)
      ⟨[], rfl, (fun _ z => nomatch z), rfl, (s4.cut g1).trans s5, r5, t4.del npf s5⟩ (fun i ys H' K1 K0 hi q k1 k0 => ?_) fun H' q ys P hy hq => ?_⟩
    · obtain ⟨zs, rfl, hz, hzl, s6, r6, t6⟩ := q
      refine iteT (B := K0 H') ?_
      refine ⟨_, rfl, _, rfl, p, _, 32, rfl, r6, by omega, by omega, by omega, fun H7 r7 s7 q7 hr7 => ?_⟩
      obtain ⟨c, hc⟩ := atI_in ("abcdefghijklmnopqrstuvwxyz .,*#_" : Str).cps.toList (r7 : Int) (by omega) (by rw [show ("abcdefghijklmnopqrstuvwxyz .,*#_" : Str).cps.toList.length = 32 from by decide +kernel]; omega)
      refine ⟨_, _, _, rfl, rfl, (by decide +kernel), hc, k1 _ _ ⟨zs ++ [⟨#[c]⟩], by rw [List.map_append]; rfl, fun z hz' => ?_, by rw [List.length_append, List.length_singleton, hzl], (s6.cut g1).trans s7, q7.more (by omega), t6.del npf s7⟩⟩
      rcases List.mem_append.mp hz' with y | y
      · exact hz z y
      · rw [List.mem_singleton.mp y]
        exact ⟨rfl, isT_one (signs_all c (atI_mem hc))⟩
    · obtain ⟨zs, rfl, hz, hzl, s6, r6, t6⟩ := P
      have hsum : (zs.map (·.length)).sum ≤ 100 := by
        have : ∀ l : List Str, (∀ z ∈ l, z.length = 1 ∧ IsT z) → (l.map (·.length)).sum = l.length := fun l => by
          induction l with
          | nil => intro _; rfl
          | cons z l ih =>
            intro h
            rw [List.map_cons, List.sum_cons, ih fun y hy => h y (List.mem_cons_of_mem _ hy), (h z (by simp)).1, List.length_cons]
            omega
        rw [this zs hz]
        omega
      refine ⟨"", q, zs, rfl, rfl, SqL.of upd_same, ?_, ?_⟩
      · rw [show ("" : Str).length = 0 from rfl]
        omega
      · have s7 : Same H (upd H' q (.lst (zs.map V.str))) := s6.up hq
        have nq : fp ≠ q := ne_of_none t6.at' hq
        have t7 : TL (upd H' q (.lst (zs.map V.str))) fp ms := ⟨by rw [upd_ne nq]; exact t6.at', t6.ok⟩
        have r7 : SR (upd H' q (.lst (zs.map V.str))) p (1 + 5 * (j + 1)) := (r6.same (Same.new hq)).more (by omega)
        refine ⟨_, rfl, _, rfl, fp, _, rfl, .inl (SqL.of t7.at'), rfl, flat_strs ms, _, rfl, ?_⟩
        show if (!inV (.str (Txt.join "" zs)) (ms.map V.str)) = true then _ else _
        rw [inV_strs]
        have hT : IsT (Txt.join "" zs) := isT_join (by unfold L2.IsT; decide +kernel) fun z h => (hz z h).2
        refine ite2 (fun hin => ?_) fun hin => ?_
        · refine ⟨_, rfl, .inl ⟨rfl, _, SqL.of t7.at'⟩, _, rfl, fp, _, _, rfl, rfl, t7.at', (by rw [List.length_map]; exact small1000 (by omega)), ?_⟩
          refine ⟨ms ++ [Txt.join "" zs], _, _, rfl, s7.wr fF, ?_, ⟨by rw [upd_same, List.map_append]; rfl, fun t ht => ?_⟩, by rw [List.length_append, List.length_singleton]; omega, fun _ => by rw [List.length_append, List.length_singleton]; omega⟩
          · obtain ⟨a, b, c, e, h1, h2⟩ := r7
            exact ⟨a, b, c, e, by rw [upd_ne npf.symm]; exact h1, h2⟩
          · rcases List.mem_append.mp ht with y | y
            · exact t7.ok t y
            · rw [List.mem_singleton.mp y]; exact hT
        · refine ⟨ms, _, _, rfl, s7, r7, t7, by omega, fun _ => ?_⟩
          cases ms with
          | nil => exact absurd rfl hin
          | cons => simp
  · rintro σ H4 ⟨ms, u4, u5, rfl, s4, r4, t4, hm, hm0⟩
    exact ⟨_, rfl, kk H4 fp ms s4 fF t4 (hm0 (by omega)) (by omega)⟩
theorem ok_f_law_texts (T : Txt K mg d tk) (gf_law_begun : FnOk P w K mg base CX0 1 d.f_law_begun d.f_law_begund ["_law_script", "_law_k"] (sp_f_law_begun K)) (gf_law_draw : FnOk P w K mg base CX0 1 d.f_law_draw d.f_law_drawd ["_law_state", "_law_many"] (sp_f_law_draw K)) : FnOk P w K mg base CX0 2 d.f_law_texts d.f_law_textsd ["_law_script", "_law_k", "_law_menu_here"] (sp_f_law_texts K) := by
  refine T.F_f_law_texts.ok sc_f_law_texts (fun vs H Q E h => len_f_law_texts h) (fun cdv A outer s H vs Q E hr h => ?_)
  have hu : (A.deeper (envOfC "_law_texts" (defScope s_f_law_texts) s.heap.objs.size d.f_law_texts cdv)).units < cLine := hr.units0
  refine ⟨_, (@pss_cons _ _ _ _ _ (@ps_set _ _ (3) _ _ _ _ sc_f_law_texts.nd rfl (Or.inl rfl) (@pe_call _ _ _ _ _ _ _ _ _ _ _ _ _ _ _ _ gf_law_begun (hr.mono (by decide)) (by rfl) T.m_f_law_begun T.k_f_law_begun T.d_f_law_begun .nil pass0 (@pa_cons _ _ _ _ _ (@pv _ 0 _ _ rfl (Or.inl rfl) rfl rfl) (@pa_cons _ _ _ _ _ (@pv _ 1 _ _ rfl (Or.inl rfl) rfl rfl) (@pa_nil _) (by rfl)) (by rfl)) (by decide) (by rfl) (by rfl)) (by rfl) (by first | exact .inl rfl | exact .inr rfl)) (@pss_cons _ _ _ _ _ (@ps_set _ _ (4) _ _ _ _ sc_f_law_texts.nd rfl (Or.inl rfl) (@pe_lstA _ _ _ _ (@pa_nil _)) (by rfl) (by first | exact .inl rfl | exact .inr rfl)) (@pss_cons _ _ _ _ _ (@ps_for _ _ _ _ _ _ _ _ PassesOwn.never rfl (@pi_range1 _ _ _ _ _ _ (by rfl) T.b_range (@pa_cons _ _ _ _ _ (@pe_call _ _ _ _ _ _ _ _ _ _ _ _ _ _ _ _ gf_law_draw (hr.mono (by decide)) (by rfl) T.m_f_law_draw T.k_f_law_draw T.d_f_law_draw .nil pass0 (@pa_cons _ _ _ _ _ (@pv _ 3 _ _ rfl (Or.inl rfl) rfl rfl) (@pa_cons _ _ _ _ _ (@pe_int _ _ _ _) (@pa_nil _) (by rfl)) (by rfl)) (by decide) (by rfl) (by rfl)) (@pa_nil _) (by rfl)) (by rfl)) (@pg_name _ _ (5) _ sc_f_law_texts.nd rfl (Or.inl rfl) (by first | exact .inl rfl | exact .inr rfl)) (@pss_one _ _ _ (@ps_expr _ _ _ _ (@pe_bm _ _ _ _ _ _ _ _ _ _ _ _ PySem.F.plainAttrs_list PySem.F.slot_list_append PySem.F.type_list_append mt_append (@pv _ 4 _ _ rfl (Or.inl rfl) rfl rfl) (@pa_cons _ _ _ _ _ (@pe_ix _ _ _ _ _ _ _ ix_any (@pv _ 2 _ _ rfl (Or.inl rfl) rfl rfl) (@pe_call _ _ _ _ _ _ _ _ _ _ _ _ _ _ _ _ gf_law_draw (hr.mono (by decide)) (by rfl) T.m_f_law_draw T.k_f_law_draw T.d_f_law_draw .nil pass0 (@pa_cons _ _ _ _ _ (@pv _ 3 _ _ rfl (Or.inl rfl) rfl rfl) (@pa_cons _ _ _ _ _ (@pe_callB _ _ _ _ _ _ _ _ _ call_len_seq (by rfl) T.b_len boot_len (@pa_cons _ _ _ _ _ (@pv _ 2 _ _ rfl (Or.inl rfl) rfl rfl) (@pa_nil _) (by rfl)) (by decide) (by decide) (by rfl) (by rfl)) (@pa_nil _) (by rfl)) (by rfl)) (by decide) (by rfl) (by rfl)) (fun _ _ => rfl)) (@pa_nil _) (by rfl)) (by rfl) (by rfl) (by rfl) (by rfl) (by rfl)) (by rfl))) (by intro _; rfl)) (@pss_one _ _ _ (@ps_ret _ _ _ _ (@pv _ 4 _ _ rfl (Or.inl rfl) rfl rfl)))))), ?_⟩
  obtain ⟨sp, ns, mp, ms, k, rfl, hs, hk, tm, m0, m6, kk⟩ := h
  refine ⟨_, rfl, _, rfl, sp, ns, k, rfl, hs, hk, fun H1 p s1 g1 r1 => ?_⟩
  refine ⟨szOk rfl, fun fp H2 g2 s2 e2 => ?_⟩
  have npf : fp ≠ p := fun z => r1.ne g2 z.symm
  have npm : mp ≠ p := ne_of_none tm.at' g1
  refine ⟨_, rfl, p, 0, 41, rfl, r1.same s2, by omega, by omega, by omega, fun H3 r s3 r3 hr => ?_⟩
  have fF : H fp = none := s1.free g2
  refine ⟨_, rfl, by omega, by omega, for_range (n := (r : Int).toNat) (fun j σ H4 => ∃ (ts : List Str) (u5 : Option V), σ = [some (.ref sp), some (.int (k : Int)), some (.ref mp), some (.ref p), some (.ref fp), u5] ∧ Same H H4 ∧ SR H4 p (1 + j) ∧ TL H4 fp ts ∧ ts.length = j)
    ⟨[], none, rfl, ((s1.trans s2).cut g1).trans s3, r3.more (by omega), ⟨s3 _ _ (by rw [del_ne npf]; exact e2), fun _ z => nomatch z⟩, rfl⟩ ?_ ?_⟩
  · rintro j σ H4 hj ⟨ts, u5, rfl, s4, r4, t4, hl⟩
    have hj6 : j < 40 := by omega
    have tm4 := tm.same s4
    refine ⟨_, rfl, .inl ⟨rfl, _, SqL.of t4.at'⟩, _, rfl, _, rfl, _, rfl, mp, _, rfl, .inl (SqL.of tm4.at'), p, _, _, rfl, r4, by omega, by rw [List.length_map]; exact m0, by rw [List.length_map]; omega, fun H5 r5 s5 q5 hr5 => ?_⟩
    have tm5 := tm4.del npm s5
    have t5 := t4.del npf s5
    refine ⟨mp, _, _, rfl, rfl, SqL.of tm5.at', by omega, by omega, fun v hv => ?_⟩
    obtain ⟨z, hz, rfl⟩ := List.mem_map.mp hv
    refine ⟨fp, _, _, rfl, rfl, t5.at', (by rw [List.length_map]; exact small1000 (by omega)), ?_⟩
    refine ⟨ts ++ [z], _, rfl, ((s4.cut g1).trans s5).wr fF, ?_, ⟨by rw [upd_same, List.map_append]; rfl, fun t ht => ?_⟩, by rw [List.length_append, List.length_singleton, hl]⟩
    · obtain ⟨a, b, c, e, h1, h2⟩ := q5
      exact ⟨a, b, c, e, by rw [upd_ne npf.symm]; exact h1, by omega⟩
    · rcases List.mem_append.mp ht with y | y
      · exact t5.ok t y
      · rw [List.mem_singleton.mp y]; exact tm.ok z hz
  · rintro σ H4 ⟨ts, u5, rfl, s4, r4, t4, hl⟩
    exact ⟨_, rfl, kk H4 fp ts s4 fF t4 (by omega)⟩
theorem ok_f_law_near (T : Txt K mg d tk) (gf_law_begun : FnOk P w K mg base CX0 1 d.f_law_begun d.f_law_begund ["_law_script", "_law_k"] (sp_f_law_begun K)) (gf_law_draw : FnOk P w K mg base CX0 1 d.f_law_draw d.f_law_drawd ["_law_state", "_law_many"] (sp_f_law_draw K)) : FnOk P w K mg base CX0 2 d.f_law_near d.f_law_neard ["_law_script", "_law_k", "_law_menu_here", "_law_one"] (sp_f_law_near K) := by
  refine T.F_f_law_near.ok sc_f_law_near (fun vs H Q E h => len_f_law_near h) (fun cdv A outer s H vs Q E hr h => ?_)
  have hu : (A.deeper (envOfC "_law_near" (defScope s_f_law_near) s.heap.objs.size d.f_law_near cdv)).units < cLine := hr.units0
  refine ⟨_, (@pss_cons _ _ _ _ _ (@ps_set _ _ (4) _ _ _ _ sc_f_law_near.nd rfl (Or.inl rfl) (@pe_call _ _ _ _ _ _ _ _ _ _ _ _ _ _ _ _ gf_law_begun (hr.mono (by decide)) (by rfl) T.m_f_law_begun T.k_f_law_begun T.d_f_law_begun .nil pass0 (@pa_cons _ _ _ _ _ (@pv _ 0 _ _ rfl (Or.inl rfl) rfl rfl) (@pa_cons _ _ _ _ _ (@pv _ 1 _ _ rfl (Or.inl rfl) rfl rfl) (@pa_nil _) (by rfl)) (by rfl)) (by decide) (by rfl) (by rfl)) (by rfl) (by first | exact .inl rfl | exact .inr rfl)) (@pss_cons _ _ _ _ _ (@ps_set _ _ (5) _ _ _ _ sc_f_law_near.nd rfl (Or.inl rfl) (@pe_lstA _ _ _ _ (@pa_nil _)) (by rfl) (by first | exact .inl rfl | exact .inr rfl)) (@pss_cons _ _ _ _ _ (@ps_for _ _ _ _ _ _ _ _ PassesOwn.never rfl (@pi_list _ _ _ _ (@pv _ 3 _ _ rfl (Or.inl rfl) rfl rfl)) (@pg_name _ _ (6) _ sc_f_law_near.nd rfl (Or.inl rfl) (by first | exact .inl rfl | exact .inr rfl)) (@pss_cons _ _ _ _ _ (@ps_set _ _ (7) _ _ _ _ sc_f_law_near.nd rfl (Or.inl rfl) (@pe_call _ _ _ _ _ _ _ _ _ _ _ _ _ _ _ _ gf_law_draw (hr.mono (by decide)) (by rfl) T.m_f_law_draw T.k_f_law_draw T.d_f_law_draw .nil pass0 (@pa_cons _ _ _ _ _ (@pv _ 4 _ _ rfl (Or.inl rfl) rfl rfl) (@pa_cons _ _ _ _ _ (@pe_int _ _ _ _) (@pa_nil _) (by rfl)) (by rfl)) (by decide) (by rfl) (by rfl)) (by rfl) (by first | exact .inl rfl | exact .inr rfl)) (@pss_cons _ _ _ _ _ (@ps_if _ _ _ _ _ _ _ _ (@pt_cmpR _ _ _ _ _ _ _ _ op_ne (@pv _ 7 _ _ rfl (Or.inl rfl) rfl rfl) (@pe_int _ _ _ _) (nomark _)) (@pss_one _ _ _ (@ps_expr _ _ _ _ (@pe_bm _ _ _ _ _ _ _ _ _ _ _ _ PySem.F.plainAttrs_list PySem.F.slot_list_append PySem.F.type_list_append mt_append (@pv _ 5 _ _ rfl (Or.inl rfl) rfl rfl) (@pa_cons _ _ _ _ _ (@pv _ 6 _ _ rfl (Or.inl rfl) rfl rfl) (@pa_nil _) (by rfl)) (by rfl) (by rfl) (by rfl) (by rfl) (by rfl)) (by rfl))) (@pss_nil _)) (@pss_one _ _ _ (@ps_if _ _ _ _ _ _ _ _ (@pt_cmpR _ _ _ _ _ _ _ _ op_eq (@pv _ 7 _ _ rfl (Or.inl rfl) rfl rfl) (@pe_int _ _ _ _) (nomark _)) (@pss_one _ _ _ (@ps_expr _ _ _ _ (@pe_bm _ _ _ _ _ _ _ _ _ _ _ _ PySem.F.plainAttrs_list PySem.F.slot_list_append PySem.F.type_list_append mt_append (@pv _ 5 _ _ rfl (Or.inl rfl) rfl rfl) (@pa_cons _ _ _ _ _ (@pe_ix _ _ _ _ _ _ _ ix_any (@pv _ 2 _ _ rfl (Or.inl rfl) rfl rfl) (@pe_call _ _ _ _ _ _ _ _ _ _ _ _ _ _ _ _ gf_law_draw (hr.mono (by decide)) (by rfl) T.m_f_law_draw T.k_f_law_draw T.d_f_law_draw .nil pass0 (@pa_cons _ _ _ _ _ (@pv _ 4 _ _ rfl (Or.inl rfl) rfl rfl) (@pa_cons _ _ _ _ _ (@pe_callB _ _ _ _ _ _ _ _ _ call_len_seq (by rfl) T.b_len boot_len (@pa_cons _ _ _ _ _ (@pv _ 2 _ _ rfl (Or.inl rfl) rfl rfl) (@pa_nil _) (by rfl)) (by decide) (by decide) (by rfl) (by rfl)) (@pa_nil _) (by rfl)) (by rfl)) (by decide) (by rfl) (by rfl)) (fun _ _ => rfl)) (@pa_nil _) (by rfl)) (by rfl) (by rfl) (by rfl) (by rfl) (by rfl)) (by rfl))) (@pss_nil _))))) (by intro _; rfl)) (@pss_one _ _ _ (@ps_ret _ _ _ _ (@pv _ 5 _ _ rfl (Or.inl rfl) rfl rfl)))))), ?_⟩
  obtain ⟨sp, ns, mp, ms, op, ts, k, rfl, hs, hk, tm, m0, m6, to, htl, kk⟩ := h
  refine ⟨_, rfl, _, rfl, sp, ns, k, rfl, hs, hk, fun H1 p s1 g1 r1 => ?_⟩
  refine ⟨szOk rfl, fun fp H2 g2 s2 e2 => ?_⟩
  have npf : fp ≠ p := fun z => r1.ne g2 z.symm
  have npm : mp ≠ p := ne_of_none tm.at' g1
  have fF : H fp = none := s1.free g2
  refine ⟨_, rfl, op, rfl, ⟨_, SqL.of ((s1.trans s2) _ _ to.at')⟩, for_list (xs := ts.map V.str) (fun j σ H4 => ∃ (zs : List Str) (u6 u7 : Option V), σ = [some (.ref sp), some (.int (k : Int)), some (.ref mp), some (.ref op), some (.ref p), some (.ref fp), u6, u7] ∧ Same H H4 ∧ SR H4 p (2 * j) ∧ TL H4 fp zs ∧ zs.length ≤ 2 * j)
    ⟨[], none, none, rfl, s1.trans s2, r1.same s2, ⟨e2, fun _ z => nomatch z⟩, Nat.le_refl _⟩ (fun j σ H4 _ ⟨_, _, _, _, s4, _⟩ => SqL.of (s4 _ _ to.at')) ?_ ?_⟩
  · rintro j x σ H4 hx ⟨zs, u6, u7, rfl, s4, r4, t4, hl⟩
    have hj : j < 40 := by
      have := (List.getElem?_eq_some_iff.mp hx).1
      rw [List.length_map] at this
      omega
    obtain ⟨z, hz, rfl⟩ := List.mem_map.mp (List.mem_of_getElem? hx)
    have tz := to.ok z hz
    refine ⟨_, rfl, p, _, 8, rfl, r4, by omega, by omega, by omega, fun H5 r5 s5 q5 hr5 => ?_⟩
    have s45 : Same H H5 := (s4.cut g1).trans s5
    have t5 := t4.del npf s5
    refine ⟨_, rfl, rfl, _, rfl, ite2 (fun _ => ?_) fun _ => ?_⟩
    · refine ⟨_, rfl, .inl ⟨rfl, _, SqL.of t5.at'⟩, _, rfl, fp, _, _, rfl, rfl, t5.at', small1000 (by rw [List.length_map]; omega), ?_⟩
      have s6 : Same H (L2.upd H5 fp (.lst (zs.map V.str ++ [V.str z]))) := s45.wr fF
      have q6 : SR (L2.upd H5 fp (.lst (zs.map V.str ++ [V.str z]))) p (2 * j + 1) := q5.upd npf.symm
      have t6 : TL (L2.upd H5 fp (.lst (zs.map V.str ++ [V.str z]))) fp (zs ++ [z]) := ⟨by rw [upd_same, List.map_append]; rfl, fun t ht => by
        rcases List.mem_append.mp ht with y | y
        · exact t5.ok t y
        · rw [List.mem_singleton.mp y]; exact tz⟩
      have l6 : (zs ++ [z]).length ≤ 2 * j + 1 := by rw [List.length_append, List.length_singleton]; omega
      have tm6 := tm.same s6
      refine ⟨_, rfl, rfl, _, rfl, ite2 (fun _ => ?_) fun _ => ?_⟩
      · refine ⟨_, rfl, .inl ⟨rfl, _, SqL.of t6.at'⟩, _, rfl, _, rfl, _, rfl, mp, _, rfl, .inl (SqL.of tm6.at'), p, _, _, rfl, q6, by omega, by rw [List.length_map]; exact m0, by rw [List.length_map]; omega, fun H7 r7 s7 q7 hr7 => ?_⟩
        have tm7 := tm6.del npm s7
        have t7 := t6.del npf s7
        refine ⟨mp, _, _, rfl, rfl, SqL.of tm7.at', by omega, by omega, fun v hv => ?_⟩
        obtain ⟨y, hy, rfl⟩ := List.mem_map.mp hv
        refine ⟨fp, _, _, rfl, rfl, t7.at', small1000 (by rw [List.length_map]; omega), ?_⟩
        refine ⟨(zs ++ [z]) ++ [y], _, _, rfl, ((s6.cut g1).trans s7).wr fF, (q7.more (by omega)).upd npf.symm, ⟨by rw [upd_same, List.map_append (l₁ := (zs ++ [z]))]; rfl, fun t ht => ?_⟩, by rw [List.length_append, List.length_singleton]; omega⟩
        rcases List.mem_append.mp ht with q | q
        · exact t7.ok t q
        · rw [List.mem_singleton.mp q]; exact tm.ok y hy
      · exact ⟨(zs ++ [z]), _, _, rfl, s6, q6.more (by omega), t6, by omega⟩
    · have s6 := s45
      have q6 := q5
      have t6 := t5
      have l6 : zs.length ≤ 2 * j + 1 := by omega
      have tm6 := tm.same s6
      refine ⟨_, rfl, rfl, _, rfl, ite2 (fun _ => ?_) fun _ => ?_⟩
      · refine ⟨_, rfl, .inl ⟨rfl, _, SqL.of t6.at'⟩, _, rfl, _, rfl, _, rfl, mp, _, rfl, .inl (SqL.of tm6.at'), p, _, _, rfl, q6, by omega, by rw [List.length_map]; exact m0, by rw [List.length_map]; omega, fun H7 r7 s7 q7 hr7 => ?_⟩
        have tm7 := tm6.del npm s7
        have t7 := t6.del npf s7
        refine ⟨mp, _, _, rfl, rfl, SqL.of tm7.at', by omega, by omega, fun v hv => ?_⟩
        obtain ⟨y, hy, rfl⟩ := List.mem_map.mp hv
        refine ⟨fp, _, _, rfl, rfl, t7.at', small1000 (by rw [List.length_map]; omega), ?_⟩
        refine ⟨zs ++ [y], _, _, rfl, ((s6.cut g1).trans s7).wr fF, (q7.more (by omega)).upd npf.symm, ⟨by rw [upd_same, List.map_append (l₁ := zs)]; rfl, fun t ht => ?_⟩, by rw [List.length_append, List.length_singleton]; omega⟩
        rcases List.mem_append.mp ht with q | q
        · exact t7.ok t q
        · rw [List.mem_singleton.mp q]; exact tm.ok y hy
      · exact ⟨zs, _, _, rfl, s6, q6.more (by omega), t6, by omega⟩
  · rintro σ H4 ⟨zs, u6, u7, rfl, s4, r4, t4, hl⟩
    rw [List.length_map] at hl
    exact ⟨_, rfl, kk H4 fp zs s4 fF t4 (by omega)⟩
theorem ok_f_law_bent (T : Txt K mg d tk) (gf_law_draw : FnOk P w K mg base CX0 1 d.f_law_draw d.f_law_drawd ["_law_state", "_law_many"] (sp_f_law_draw K)) : FnOk P w K mg base CX0 2 d.f_law_bent d.f_law_bentd ["_law_state", "_law_rows"] (sp_f_law_bent K) := by
  refine T.F_f_law_bent.ok sc_f_law_bent (fun vs H Q E h => len_f_law_bent h) (fun cdv A outer s H vs Q E hr h => ?_)
  have hu : (A.deeper (envOfC "_law_bent" (defScope s_f_law_bent) s.heap.objs.size d.f_law_bent cdv)).units < cLine := hr.units0
  refine ⟨_, (@pss_cons _ _ _ _ _ (@ps_setC _ (2) _ _ _ _ _ _ _ _ _ (["_law_row"]) ([]) _ _ _ _ _ sc_f_law_bent.nd rfl (Or.inl rfl) rfl (@pi_list _ _ _ _ (@pv _ 1 _ _ rfl (Or.inl rfl) rfl rfl)) ⟨rfl, by decide +kernel, by decide +kernel⟩ (caps0 (by decide +kernel)) (fun _ _ _ => (@pg_name _ _ (0) _ (by show List.Nodup (["_law_row"] : List Str); decide +kernel) rfl (Or.inl rfl) (by first | exact .inl rfl | exact .inr rfl))) (fun _ => fresh_name rfl) (fun _ _ _ => (@pts_nil _)) (fun _ _ _ => (@pe_callTy _ _ _ _ _ _ _ _ _ (call_lstAK (K := K) rfl) (by rfl) T.b_list boot_list (@pa_cons _ _ _ _ _ (@pv _ 0 _ _ rfl (Or.inl rfl) rfl rfl) (@pa_nil _) (by rfl)) (by decide) (by decide) (by rfl) (by rfl))) (by intro _; rfl) (by rfl) (by first | exact .inl rfl | exact .inr rfl)) (@pss_cons _ _ _ _ _ (@ps_set _ _ (3) _ _ _ _ sc_f_law_bent.nd rfl (Or.inl rfl) (@pe_call _ _ _ _ _ _ _ _ _ _ _ _ _ _ _ _ gf_law_draw (hr.mono (by decide)) (by rfl) T.m_f_law_draw T.k_f_law_draw T.d_f_law_draw .nil pass0 (@pa_cons _ _ _ _ _ (@pv _ 0 _ _ rfl (Or.inl rfl) rfl rfl) (@pa_cons _ _ _ _ _ (@pe_int _ _ _ _) (@pa_nil _) (by rfl)) (by rfl)) (by decide) (by rfl) (by rfl)) (by rfl) (by first | exact .inl rfl | exact .inr rfl)) (@pss_cons _ _ _ _ _ (@ps_set _ _ (4) _ _ _ _ sc_f_law_bent.nd rfl (Or.inr rfl) (@pe_call _ _ _ _ _ _ _ _ _ _ _ _ _ _ _ _ gf_law_draw (hr.mono (by decide)) (by rfl) T.m_f_law_draw T.k_f_law_draw T.d_f_law_draw .nil pass0 (@pa_cons _ _ _ _ _ (@pv _ 0 _ _ rfl (Or.inl rfl) rfl rfl) (@pa_cons _ _ _ _ _ (@pe_callB _ _ _ _ _ _ _ _ _ call_len_seq (by rfl) T.b_len boot_len (@pa_cons _ _ _ _ _ (@pv _ 2 _ _ rfl (Or.inl rfl) rfl rfl) (@pa_nil _) (by rfl)) (by decide) (by decide) (by rfl) (by rfl)) (@pa_nil _) (by rfl)) (by rfl)) (by decide) (by rfl) (by rfl)) (by rfl) (by first | exact .inl rfl | exact .inr rfl)) (@pss_cons _ _ _ _ _ (@ps_set _ _ (5) _ _ _ _ sc_f_law_bent.nd rfl (Or.inl rfl) (@pe_call _ _ _ _ _ _ _ _ _ _ _ _ _ _ _ _ gf_law_draw (hr.mono (by decide)) (by rfl) T.m_f_law_draw T.k_f_law_draw T.d_f_law_draw .nil pass0 (@pa_cons _ _ _ _ _ (@pv _ 0 _ _ rfl (Or.inl rfl) rfl rfl) (@pa_cons _ _ _ _ _ (@pe_callB _ _ _ _ _ _ _ _ _ call_len_seq (by rfl) T.b_len boot_len (@pa_cons _ _ _ _ _ (@pe_ix _ _ _ _ _ _ _ ix_list (@pv _ 2 _ _ rfl (Or.inl rfl) rfl rfl) (@pe_int _ _ _ _) (fun _ _ => rfl)) (@pa_nil _) (by rfl)) (by decide) (by decide) (by rfl) (by rfl)) (@pa_nil _) (by rfl)) (by rfl)) (by decide) (by rfl) (by rfl)) (by rfl) (by first | exact .inl rfl | exact .inr rfl)) (@pss_cons _ _ _ _ _ (@ps_if _ _ _ _ _ _ _ _ (@pt_cmpR _ _ _ _ _ _ _ _ op_lt (@pv _ 3 _ _ rfl (Or.inl rfl) rfl rfl) (@pe_int _ _ _ _) (nomark _)) (@pss_one _ _ _ (@ps_asg _ _ _ _ _ _ (@pe_op _ _ _ _ _ _ _ _ op_add (@pe_ix _ _ _ _ _ _ _ ix_list (@pe_ix _ _ _ _ _ _ _ ix_list (@pv _ 2 _ _ rfl (Or.inl rfl) rfl rfl) (@pv _ 4 _ _ rfl (Or.inr (Or.inl rfl)) rfl rfl) (fun _ _ => rfl)) (@pv _ 5 _ _ rfl (Or.inl rfl) rfl rfl) (fun _ _ => rfl)) (@pe_ix _ _ _ _ _ _ _ ix_any (@pe_lstA _ _ _ _ (@pa_cons _ _ _ _ _ (@pe_int _ _ _ _) (@pa_cons _ _ _ _ _ (@pe_un _ _ _ _ _ _ un_neg (@pe_int _ _ _ _)) (@pa_cons _ _ _ _ _ (@pe_int _ _ _ _) (@pa_cons _ _ _ _ _ (@pe_op _ _ _ _ _ _ _ _ op_pow (@pe_int _ _ _ _) (@pe_int _ _ _ _)) (@pa_nil _) (by rfl)) (by rfl)) (by rfl)) (by rfl))) (@pv _ 3 _ _ rfl (Or.inl rfl) rfl rfl) (fun _ _ => rfl))) (@pg_sub _ _ _ _ _ _ _ (@pe_ix _ _ _ _ _ _ _ ix_list (@pv _ 2 _ _ rfl (Or.inl rfl) rfl rfl) (@pv _ 4 _ _ rfl (Or.inr (Or.inl rfl)) rfl rfl) (fun _ _ => rfl)) (@pv _ 5 _ _ rfl (Or.inl rfl) rfl rfl) set_list (by intro _; rfl)) (by rfl) (by rfl) (by rfl))) (@pss_nil _)) (@pss_cons _ _ _ _ _ (@ps_if _ _ _ _ _ _ _ _ (@pt_cmpR _ _ _ _ _ _ _ _ op_eq (@pv _ 3 _ _ rfl (Or.inl rfl) rfl rfl) (@pe_int _ _ _ _) (nomark _)) (@pss_one _ _ _ (@ps_expr _ _ _ _ (@pe_bm _ _ _ _ _ _ _ _ _ _ _ _ PySem.F.plainAttrs_list PySem.F.slot_list_pop PySem.F.type_list_pop mt_popAt (@pv _ 2 _ _ rfl (Or.inl rfl) rfl rfl) (@pa_cons _ _ _ _ _ (@pv _ 4 _ _ rfl (Or.inr (Or.inl rfl)) rfl rfl) (@pa_nil _) (by rfl)) (by rfl) (by rfl) (by rfl) (by rfl) (by rfl)) (by rfl))) (@pss_nil _)) (@pss_cons _ _ _ _ _ (@ps_if _ _ _ _ _ _ _ _ (@pt_cmpR _ _ _ _ _ _ _ _ op_eq (@pv _ 3 _ _ rfl (Or.inl rfl) rfl rfl) (@pe_int _ _ _ _) (nomark _)) (@pss_one _ _ _ (@ps_expr _ _ _ _ (@pe_bm _ _ _ _ _ _ _ _ _ _ _ _ PySem.F.plainAttrs_list PySem.F.slot_list_pop PySem.F.type_list_pop mt_popAt (@pe_ix _ _ _ _ _ _ _ ix_list (@pv _ 2 _ _ rfl (Or.inl rfl) rfl rfl) (@pv _ 4 _ _ rfl (Or.inr (Or.inl rfl)) rfl rfl) (fun _ _ => rfl)) (@pa_cons _ _ _ _ _ (@pv _ 5 _ _ rfl (Or.inl rfl) rfl rfl) (@pa_nil _) (by rfl)) (by rfl) (by rfl) (by rfl) (by rfl) (by rfl)) (by rfl))) (@pss_nil _)) (@pss_cons _ _ _ _ _ (@ps_if _ _ _ _ _ _ _ _ (@pt_cmpR _ _ _ _ _ _ _ _ op_eq (@pv _ 3 _ _ rfl (Or.inl rfl) rfl rfl) (@pe_int _ _ _ _) (nomark _)) (@pss_one _ _ _ (@ps_expr _ _ _ _ (@pe_bm _ _ _ _ _ _ _ _ _ _ _ _ PySem.F.plainAttrs_list PySem.F.slot_list_insert PySem.F.type_list_insert mt_insert (@pv _ 2 _ _ rfl (Or.inl rfl) rfl rfl) (@pa_cons _ _ _ _ _ (@pv _ 4 _ _ rfl (Or.inr (Or.inl rfl)) rfl rfl) (@pa_cons _ _ _ _ _ (@pe_callTy _ _ _ _ _ _ _ _ _ call_lstA (by rfl) T.b_list boot_list (@pa_cons _ _ _ _ _ (@pe_ix _ _ _ _ _ _ _ ix_list (@pv _ 2 _ _ rfl (Or.inl rfl) rfl rfl) (@pv _ 4 _ _ rfl (Or.inr (Or.inl rfl)) rfl rfl) (fun _ _ => rfl)) (@pa_nil _) (by rfl)) (by decide) (by decide) (by rfl) (by rfl)) (@pa_nil _) (by rfl)) (by rfl)) (by rfl) (by rfl) (by rfl) (by rfl) (by rfl)) (by rfl))) (@pss_nil _)) (@pss_cons _ _ _ _ _ (@ps_if _ _ _ _ _ _ _ _ (@pt_cmpR _ _ _ _ _ _ _ _ op_eq (@pv _ 3 _ _ rfl (Or.inl rfl) rfl rfl) (@pe_int _ _ _ _) (nomark _)) (@pss_one _ _ _ (@ps_expr _ _ _ _ (@pe_bm _ _ _ _ _ _ _ _ _ _ _ _ PySem.F.plainAttrs_list PySem.F.slot_list_insert PySem.F.type_list_insert mt_insert (@pe_ix _ _ _ _ _ _ _ ix_list (@pv _ 2 _ _ rfl (Or.inl rfl) rfl rfl) (@pv _ 4 _ _ rfl (Or.inr (Or.inl rfl)) rfl rfl) (fun _ _ => rfl)) (@pa_cons _ _ _ _ _ (@pv _ 5 _ _ rfl (Or.inl rfl) rfl rfl) (@pa_cons _ _ _ _ _ (@pe_ix _ _ _ _ _ _ _ ix_list (@pe_ix _ _ _ _ _ _ _ ix_list (@pv _ 2 _ _ rfl (Or.inl rfl) rfl rfl) (@pv _ 4 _ _ rfl (Or.inr (Or.inl rfl)) rfl rfl) (fun _ _ => rfl)) (@pv _ 5 _ _ rfl (Or.inl rfl) rfl rfl) (fun _ _ => rfl)) (@pa_nil _) (by rfl)) (by rfl)) (by rfl) (by rfl) (by rfl) (by rfl) (by rfl)) (by rfl))) (@pss_nil _)) (@pss_cons _ _ _ _ _ (@ps_if _ _ _ _ _ _ _ _ (@pt_cmpR _ _ _ _ _ _ _ _ op_eq (@pv _ 3 _ _ rfl (Or.inl rfl) rfl rfl) (@pe_int _ _ _ _) (nomark _)) (@pss_one _ _ _ (@ps_setC _ (2) _ _ _ _ _ _ _ _ _ (["_law_row"]) ([("_law_at", 4)]) _ _ _ _ _ sc_f_law_bent.nd rfl (Or.inl rfl) rfl (@pi_list _ _ _ _ (@pv _ 2 _ _ rfl (Or.inl rfl) rfl rfl)) ⟨rfl, by decide +kernel, by decide +kernel⟩ (caps_def (defScope s_f_law_bent) ["_law_state", "_law_rows", "_law_made", "_law_way", "_law_at", "_law_to"] rfl rfl (fun _ h => cell_has h) (by decide +kernel) (by decide +kernel) (by decide +kernel)) (fun _ _ _ => (@pg_name _ _ (0) _ (by show List.Nodup (["_law_row", "_law_at"] : List Str); decide +kernel) rfl (Or.inl rfl) (by first | exact .inl rfl | exact .inr rfl))) (fun _ => fresh_name rfl) (fun _ _ _ => (@pts_nil _)) (fun _ _ _ => (@pe_lcomp _ _ _ _ _ _ _ (["_law_number"]) ([("_law_at", 1)]) _ _ _ _ _ rfl (@pi_listK _ (K) _ _ _ rfl (@pv _ 0 _ _ rfl (Or.inl rfl) rfl rfl)) ⟨rfl, by decide +kernel, by decide +kernel⟩ (caps_nest (defScope s_f_law_bent) rfl (by decide +kernel) (by decide +kernel) (by decide +kernel)) (fun _ _ _ => (@pg_name _ _ (0) _ (by show List.Nodup (["_law_number", "_law_at"] : List Str); decide +kernel) rfl (Or.inl rfl) (by first | exact .inl rfl | exact .inr rfl))) (fun _ => fresh_name rfl) (fun _ _ _ => (@pts_nil _)) (fun _ _ _ => (@pe_callB _ _ _ _ _ _ _ _ _ (call_max2 rfl) (by rfl) T.b_max boot_max (@pa_cons _ _ _ _ _ (@pe_int _ _ _ _) (@pa_cons _ _ _ _ _ (@pe_op _ _ _ _ _ _ _ _ op_sub (@pe_op _ _ _ _ _ _ _ _ op_sub (@pv _ 0 _ _ rfl (Or.inl rfl) rfl rfl) (@pe_int _ _ _ _)) (@pe_op _ _ _ _ _ _ _ _ op_mod (@pv _ 1 _ _ rfl (Or.inr (Or.inl rfl)) rfl rfl) (@pe_int _ _ _ _))) (@pa_nil _) (by rfl)) (by rfl)) (by decide) (by decide) (by rfl) (by rfl))) (by intro _; rfl))) (by intro _; rfl) (by rfl) (by first | exact .inl rfl | exact .inr rfl))) (@pss_nil _)) (@pss_one _ _ _ (@ps_ret _ _ _ _ (@pv _ 2 _ _ rfl (Or.inl rfl) rfl rfl))))))))))))), ?_⟩
  obtain ⟨d, p, n, rs, R, rfl, r0, hn, tt, R0, R13, ⟨wd, w0, w13, hrow⟩, kk⟩ := h
  have ttH : TT2 H p rs R := tt.same del_same
  have hlr : (rs.map V.ref).length = R.length := by rw [List.length_map, tt.len]
  refine ⟨_, rfl, p, rfl, ⟨_, SqL.of ttH.at'⟩, lc_any (xs := rs.map V.ref) (big (by omega)) (fun i ys H' => ∃ rt : List Addr, ys = rt.map V.ref ∧ rt.length = i ∧ Same H H' ∧ (∀ r ∈ rt, H r = none) ∧ ∀ r ∈ rt, ∃ z : List Int, z.length = wd ∧ H' r = some (.lst (z.map V.int))) ⟨[], rfl, rfl, Same.refl H, (fun _ z => nomatch z), (fun _ z => nomatch z)⟩ (fun _ _ H' ⟨_, _, _, q, _⟩ => SqL.of (q _ _ ttH.at')) (fun j x ys H' K1 K0 hxj q k1 k0 => ?_) fun H' q ys P _ hq => ?_⟩
  · obtain ⟨rt, rfl, hrt, sH, fH, eH⟩ := q
    obtain ⟨r, z, rfl, e1, e2, e3⟩ := (ttH.same sH).at_i hxj
    refine iteT (B := K0 H') ?_
    refine ⟨_, rfl, r, _, rfl, .inl (SqL.of e3), fun l H4 g4 s4 e4 => k1 _ _ ⟨rt ++ [l], by rw [List.map_append]; rfl, by rw [List.length_append, List.length_singleton, hrt], sH.trans s4, fun r' hr' => ?_, fun r' hr' => ?_⟩⟩
    · rcases List.mem_append.mp hr' with h | h
      · exact fH r' h
      · rw [List.mem_singleton.mp h]; exact sH.free g4
    · rcases List.mem_append.mp hr' with h | h
      · obtain ⟨z', a, b⟩ := eH r' h
        exact ⟨z', a, s4 _ _ b⟩
      · rw [List.mem_singleton.mp h]
        exact ⟨z, hrow z (List.mem_of_getElem? e2), e4⟩
  obtain ⟨rt, rfl, hrt, sH, fH, eH⟩ := P
  rw [hlr] at hrt
  have hlt : (rt.map V.ref).length = R.length := by rw [List.length_map, hrt]
  have sU : Same H' (L2.upd H' q (.lst (rt.map V.ref))) := Same.new hq
  have nq : ∀ r ∈ rt, r ≠ q := fun r hr z => by
    obtain ⟨z', _, b⟩ := eH r hr
    rw [z, hq] at b
    cases b
  have rows0 : ∀ r ∈ rt, ∃ z : List Int, z.length = wd ∧ L2.upd H' q (.lst (rt.map V.ref)) r = some (.lst (z.map V.int)) := fun r hr => by
    obtain ⟨z', a, b⟩ := eH r hr
    exact ⟨z', a, sU _ _ b⟩
  have fq : (L2.del H d) q = none := del_free (sH.free hq)
  have fr : ∀ r ∈ rt, (L2.del H d) r = none := fun r hr => del_free (fH r hr)
  have nqd : q ≠ d := fun z => by
    obtain ⟨u, e⟩ := r0.some
    rw [z] at hq
    rw [sH _ _ e] at hq
    cases hq
  have nrd : ∀ r ∈ rt, r ≠ d := fun r hr z => by
    obtain ⟨u, e⟩ := r0.some
    have := fH r hr
    rw [z, e] at this
    cases this
  have sU0 := sH.trans sU
  have q0 := r0.same sU0
  generalize hH2 : L2.upd H' q (.lst (rt.map V.ref)) = H2 at sU0 q0 rows0
  have eq2 : H2 q = some (.lst (rt.map V.ref)) := by rw [← hH2]; exact upd_same
  clear hH2 sU
  refine ⟨_, rfl, d, n, 9, rfl, q0, by omega, by omega, by omega, fun H3 wy s3 q3 hwy => ?_⟩
  have eq3 : H3 q = some (.lst (rt.map V.ref)) := s3 _ _ (by rw [del_ne nqd]; exact eq2)
  refine ⟨_, rfl, _, rfl, q, _, rfl, .inl (SqL.of eq3), d, _, _, rfl, q3, by omega, by rw [hlt]; exact R0, by omega, fun H4 ia s4 q4 hia => ?_⟩
  have rows4 : ∀ r ∈ rt, ∃ z : List Int, z.length = wd ∧ H4 r = some (.lst (z.map V.int)) := fun r hr => by
    obtain ⟨z', a, b⟩ := rows0 r hr
    exact ⟨z', a, s4 _ _ (by rw [del_ne (nrd r hr)]; exact s3 _ _ (by rw [del_ne (nrd r hr)]; exact b))⟩
  have eq4 : H4 q = some (.lst (rt.map V.ref)) := s4 _ _ (by rw [del_ne nqd]; exact eq3)
  obtain ⟨rz, erz⟩ := get_of_lt (ts := rt) (j := 0) (by omega)
  obtain ⟨zz, lzz, ezz⟩ := rows4 rz (List.mem_of_getElem? erz)
  refine ⟨_, rfl, _, rfl, q, _, 0, .ref rz, rfl, rfl, SqL.of eq4, atI_nat (j := 0) (by rw [List.getElem?_map, erz]; rfl), rz, _, rfl, .inl (SqL.of ezz), d, _, _, rfl, q4, by omega, by rw [List.length_map]; omega, by rw [List.length_map]; omega, fun H5 it s5 q5 hit => ?_⟩
  rw [List.length_map] at hit
  have rows5 : ∀ r ∈ rt, ∃ z : List Int, z.length = wd ∧ H5 r = some (.lst (z.map V.int)) := fun r hr => by
    obtain ⟨z', a, b⟩ := rows4 r hr
    exact ⟨z', a, s5 _ _ (by rw [del_ne (nrd r hr)]; exact b)⟩
  have eq5 : H5 q = some (.lst (rt.map V.ref)) := s5 _ _ (by rw [del_ne nqd]; exact eq4)
  have W5 : TW (L2.del H5 d) q rt := ⟨by rw [del_ne nqd]; exact eq5, by omega, fun r hr => by
    obtain ⟨z, a, b⟩ := rows5 r hr
    exact ⟨z, by omega, by rw [del_ne (nrd r hr)]; exact b⟩⟩
  have sA : Same (L2.del H d) H5 := (((((del_same.trans sU0).cut del_at).trans s3).cut del_at).trans s4 |>.cut del_at).trans s5
  have q5' : SR H5 d (n + 3) := q5
  obtain ⟨ra, era⟩ := get_of_lt (ts := rt) (j := ia) (by rw [← hrt] at hlt; omega)
  have hra := List.mem_of_getElem? era
  obtain ⟨za, lza, eza⟩ := rows5 ra hra
  have ata : atI (rt.map V.ref) (ia : Int) = some (.ref ra) := atI_nat (by rw [List.getElem?_map, era]; rfl)
  have ends : ∀ (H6 : Hp) (qx : Addr) (rx : List Addr), Same (L2.del H d) H6 → SR H6 d (n + 3) → (L2.del H d) qx = none → (∀ r ∈ rx, (L2.del H d) r = none) → TW (L2.del H6 d) qx rx → Q (.ref qx) H6 := fun H6 qx rx a b f1 f2 c => by
    obtain ⟨R', hR'⟩ := c.tt
    exact kk H6 qx rx R' a b hR' f1 f2
  refine ⟨_, rfl, _, _, rfl, rfl, _, rfl, ?_⟩
  by_cases hw : wy < 4
  · refine itT (decide_eq_true (by omega)) ?_
    refine ⟨_, rfl, _, rfl, q, _, _, .ref ra, rfl, rfl, SqL.of eq5, ata, _, rfl, ra, _, _, _, rfl, rfl, SqL.of eza, int_at (z := za) (j := it) (by omega), _, rfl, _, _, rfl, rfl, ⟨by decide, by decide, by decide⟩, szOk rfl, fun w1 H6 g6 s6 e6 => ?_⟩
    refine ⟨_, rfl, w1, _, _, rfl, rfl, SqL.of e6, by omega, (by show (wy : Int) < 4; omega), fun v hv => ?_⟩
    obtain ⟨c, rfl⟩ : ∃ c : Int, v = V.int c := by
      simp only [List.mem_cons, List.not_mem_nil, or_false] at hv
      rcases hv with rfl | rfl | rfl | rfl <;> exact ⟨_, rfl⟩
    refine ⟨_, _, rfl, rfl, _, rfl, _, rfl, q, _, _, .ref ra, rfl, rfl, SqL.of (s6 _ _ eq5), ata, _, rfl, ra, _, _, it, rfl, rfl, s6 _ _ eza, ixN_nat rfl (by rw [List.length_map]; omega), ?_⟩
    rw [set_ints]
    refine ⟨_, rfl, rfl, _, rfl, itF (decide_eq_false fun z => by have := V.int.inj z; omega) ?_⟩
    refine ⟨_, rfl, rfl, _, rfl, itF (decide_eq_false fun z => by have := V.int.inj z; omega) ?_⟩
    refine ⟨_, rfl, rfl, _, rfl, itF (decide_eq_false fun z => by have := V.int.inj z; omega) ?_⟩
    refine ⟨_, rfl, rfl, _, rfl, itF (decide_eq_false fun z => by have := V.int.inj z; omega) ?_⟩
    refine ⟨_, rfl, rfl, _, rfl, itF (decide_eq_false fun z => by have := V.int.inj z; omega) ?_⟩
    refine ⟨_, rfl, ends _ q rt ((sA.trans s6).wr (fr ra hra)) ((q5'.same s6).upd (nrd ra hra).symm) fq fr ?_⟩
    rw [del_upd (nrd ra hra)]
    exact (W5.same (s6.cuts)).wr (nq ra hra) (by rw [List.length_set]; omega)
  refine itF (decide_eq_false (by omega)) ?_
  by_cases hw4 : wy = 4
  · have z : True := trivial
    refine ⟨_, rfl, rfl, _, rfl, itT (decide_eq_true (by rw [hw4]; rfl)) ?_⟩
    refine ⟨_, rfl, .inl ⟨rfl, _, SqL.of eq5⟩, _, rfl, q, _, _, ia, .ref ra, rfl, rfl, eq5, by omega, by omega, (ixN_seq (ixN_nat rfl (by rw [hlt]; omega))).1, by rw [List.getElem?_map, era]; rfl, ?_⟩
    rw [erase_map]
    refine ⟨_, rfl, rfl, _, rfl, itF (decide_eq_false fun z => by have := V.int.inj z; omega) ?_⟩
    refine ⟨_, rfl, rfl, _, rfl, itF (decide_eq_false fun z => by have := V.int.inj z; omega) ?_⟩
    refine ⟨_, rfl, rfl, _, rfl, itF (decide_eq_false fun z => by have := V.int.inj z; omega) ?_⟩
    refine ⟨_, rfl, rfl, _, rfl, itF (decide_eq_false fun z => by have := V.int.inj z; omega) ?_⟩
    refine ⟨_, rfl, ends _ q (rt.eraseIdx ia) (sA.wr fq) (q5'.upd nqd.symm) fq (fun r hr => fr r (List.mem_of_mem_eraseIdx hr)) ?_⟩
    rw [del_upd nqd]
    refine W5.lst (fun r hr => ?_) (by have := List.length_eraseIdx_le rt ia; have := W5.few; omega)
    have hr' := List.mem_of_mem_eraseIdx hr
    exact ⟨nq r hr', W5.row r hr'⟩
  refine ⟨_, rfl, rfl, _, rfl, itF (decide_eq_false fun z => by have := V.int.inj z; omega) ?_⟩
  by_cases hw5 : wy = 5
  · have z : True := trivial
    refine ⟨_, rfl, rfl, _, rfl, itT (decide_eq_true (by rw [hw5]; rfl)) ?_⟩
    refine ⟨_, rfl, _, rfl, q, _, _, .ref ra, rfl, rfl, SqL.of eq5, ata, .inl ⟨rfl, _, SqL.of eza⟩, _, rfl, ra, _, _, it, .int (za.getD it 0), rfl, rfl, eza, by omega, by omega, (ixN_seq (ixN_nat rfl (by rw [List.length_map]; omega))).1, by rw [List.getElem?_map, List.getElem?_eq_getElem (by omega : it < za.length), List.getD_eq_getElem?_getD, List.getElem?_eq_getElem (by omega : it < za.length)]; rfl, ?_⟩
    rw [erase_map]
    refine ⟨_, rfl, rfl, _, rfl, itF (decide_eq_false fun z => by have := V.int.inj z; omega) ?_⟩
    refine ⟨_, rfl, rfl, _, rfl, itF (decide_eq_false fun z => by have := V.int.inj z; omega) ?_⟩
    refine ⟨_, rfl, rfl, _, rfl, itF (decide_eq_false fun z => by have := V.int.inj z; omega) ?_⟩
    refine ⟨_, rfl, ends _ q rt (sA.wr (fr ra hra)) (q5'.upd (nrd ra hra).symm) fq fr ?_⟩
    rw [del_upd (nrd ra hra)]
    exact W5.wr (nq ra hra) (by have := List.length_eraseIdx_le za it; omega)
  refine ⟨_, rfl, rfl, _, rfl, itF (decide_eq_false fun z => by have := V.int.inj z; omega) ?_⟩
  by_cases hw6 : wy = 6
  · have z : True := trivial
    refine ⟨_, rfl, rfl, _, rfl, itT (decide_eq_true (by rw [hw6]; rfl)) ?_⟩
    refine ⟨_, rfl, .inl ⟨rfl, _, SqL.of eq5⟩, _, rfl, _, rfl, _, rfl, q, _, _, .ref ra, rfl, rfl, SqL.of eq5, ata, ra, _, rfl, .inl (SqL.of eza), fun l H6 g6 s6 e6 => ?_⟩
    refine ⟨q, _, _, _, rfl, rfl, s6 _ _ eq5, by omega, by omega, small1000 (by omega), ?_⟩
    have nl : l ≠ q := fun z => ne_of_none eq5 g6 z.symm
    have nld : l ≠ d := fun z => q5'.ne g6 z.symm
    have ei : insV (rt.map V.ref) (min ((ia : Nat) : Int).toNat (rt.map V.ref).length) (.ref l) = (rt.take (min ia rt.length) ++ l :: rt.drop (min ia rt.length)).map V.ref := by
      unfold insV
      rw [List.map_append, List.map_cons, List.map_take, List.map_drop, List.length_map]
      rfl
    rw [ei]
    refine ⟨_, rfl, rfl, _, rfl, itF (decide_eq_false fun z => by have := V.int.inj z; omega) ?_⟩
    refine ⟨_, rfl, rfl, _, rfl, itF (decide_eq_false fun z => by have := V.int.inj z; omega) ?_⟩
    refine ⟨_, rfl, ends _ q (rt.take (min ia rt.length) ++ l :: rt.drop (min ia rt.length)) ((sA.trans s6).wr fq) ((q5'.same s6).upd nqd.symm) fq (fun r hr => ?_) ?_⟩
    · rcases List.mem_append.mp hr with h | h
      · exact fr r (List.mem_of_mem_take h)
      · rcases List.mem_cons.mp h with h | h
        · rw [h]; exact sA.free g6
        · exact fr r (List.mem_of_mem_drop h)
    rw [del_upd nqd]
    have W6 := W5.same s6.cuts
    refine W6.lst (fun r hr => ?_) (by rw [List.length_append, List.length_cons, List.length_take, List.length_drop]; have := W5.few; omega)
    have old : r ∈ rt → r ≠ q ∧ ∃ z : List Int, z.length ≤ 100 ∧ L2.del H6 d r = some (.lst (z.map V.int)) := fun h => ⟨nq r h, W6.row r h⟩
    rcases List.mem_append.mp hr with h | h
    · exact old (List.mem_of_mem_take h)
    · rcases List.mem_cons.mp h with h | h
      · rw [h]; exact ⟨nl, za, by omega, by rw [del_ne nld]; exact e6⟩
      · exact old (List.mem_of_mem_drop h)
  refine ⟨_, rfl, rfl, _, rfl, itF (decide_eq_false fun z => by have := V.int.inj z; omega) ?_⟩
  by_cases hw7 : wy = 7
  · have z : True := trivial
    refine ⟨_, rfl, rfl, _, rfl, itT (decide_eq_true (by rw [hw7]; rfl)) ?_⟩
    refine ⟨_, rfl, _, rfl, q, _, _, .ref ra, rfl, rfl, SqL.of eq5, ata, .inl ⟨rfl, _, SqL.of eza⟩, _, rfl, _, rfl, _, rfl, q, _, _, .ref ra, rfl, rfl, SqL.of eq5, ata, _, rfl, ra, _, _, _, rfl, rfl, SqL.of eza, int_at (z := za) (j := it) (by omega), ?_⟩
    refine ⟨ra, _, _, _, rfl, rfl, eza, by omega, by omega, small1000 (by rw [List.length_map]; omega), ?_⟩
    have ei : insV (za.map V.int) (min ((it : Nat) : Int).toNat (za.map V.int).length) (.int (za.getD it 0)) = (za.take (min it za.length) ++ za.getD it 0 :: za.drop (min it za.length)).map V.int := by
      unfold insV
      rw [List.map_append, List.map_cons, List.map_take, List.map_drop, List.length_map]
      rfl
    rw [ei]
    refine ⟨_, rfl, rfl, _, rfl, itF (decide_eq_false fun z => by have := V.int.inj z; omega) ?_⟩
    refine ⟨_, rfl, ends _ q rt (sA.wr (fr ra hra)) (q5'.upd (nrd ra hra).symm) fq fr ?_⟩
    rw [del_upd (nrd ra hra)]
    exact W5.wr (nq ra hra) (by rw [List.length_append, List.length_cons, List.length_take, List.length_drop]; omega)
  refine ⟨_, rfl, rfl, _, rfl, itF (decide_eq_false fun z => by have := V.int.inj z; omega) ?_⟩
  by_cases hw8 : wy = 8
  · have z : True := trivial
    refine ⟨_, rfl, rfl, _, rfl, itT (decide_eq_true (by rw [hw8]; rfl)) ?_⟩
    refine ⟨_, rfl, q, rfl, ⟨_, SqL.of eq5⟩, lc_any (xs := rt.map V.ref) (big (by omega)) (fun i ys H' => ∃ rx : List Addr, ys = rx.map V.ref ∧ rx.length = i ∧ Same H5 H' ∧ ∀ r ∈ rx, H5 r = none ∧ ∃ z : List Int, z.length ≤ 13 ∧ H' r = some (.lst (z.map V.int))) ⟨[], rfl, rfl, Same.refl H5, (fun _ z => nomatch z)⟩ (fun _ _ H' ⟨_, _, _, q', _⟩ => SqL.of (q' _ _ eq5)) (fun j x ys H' K1 K0 hxj qq k1 k0 => ?_) fun H' qn ys P _ hqn => ?_⟩
    · obtain ⟨rx, rfl, hrx, sX, eX⟩ := qq
      obtain ⟨r, hr, rfl⟩ := List.mem_map.mp (List.mem_of_getElem? hxj)
      obtain ⟨z, lz, ez⟩ := rows5 r hr
      refine iteT (B := K0 H') ?_
      refine ⟨_, rfl, r, rfl, ⟨_, SqL.of (sX _ _ ez)⟩, lc_any (xs := z.map V.int) (big (by rw [List.length_map]; omega)) (fun i ys H'' => (∃ zs : List Int, ys = zs.map V.int ∧ zs.length = i) ∧ H'' = H') ⟨⟨[], rfl, rfl⟩, rfl⟩ (fun _ _ H'' q' => by rw [q'.2]; exact SqL.of (sX _ _ ez)) (fun j' x' ys' H'' K1' K0' hxj' qq' k1' k0' => ?_) fun H'' qm ys' P' _ hqm => ?_⟩
      · obtain ⟨⟨zs, rfl, hzs⟩, rfl⟩ := qq'
        obtain ⟨nb, _, rfl⟩ := List.mem_map.mp (List.mem_of_getElem? hxj')
        refine iteT (B := K0' H'') ?_
        exact ⟨_, rfl, _, _, rfl, rfl, _, rfl, _, _, rfl, rfl, (by show (0 : Int) < 3; decide), _, _, rfl, rfl, _, _, rfl, k1' _ _ ⟨⟨zs ++ [_], by rw [List.map_append]; rfl, by rw [List.length_append, List.length_singleton, hzs]⟩, rfl⟩⟩
      · obtain ⟨⟨zs, rfl, hzs⟩, rfl⟩ := P'
        rw [List.length_map] at hzs
        refine k1 _ _ ⟨rx ++ [qm], by rw [List.map_append]; rfl, by rw [List.length_append, List.length_singleton, hrx], sX.up hqm, fun r' hr' => ?_⟩
        rcases List.mem_append.mp hr' with h | h
        · obtain ⟨f1, z', a, b⟩ := eX r' h
          exact ⟨f1, z', a, (Same.new hqm) _ _ b⟩
        · rw [List.mem_singleton.mp h]
          exact ⟨sX.free hqm, zs, by omega, upd_same⟩
    obtain ⟨rx, rfl, hrx, sX, eX⟩ := P
    rw [hlt] at hrx
    refine ⟨_, rfl, ends _ qn rx (sA.trans (sX.up hqn)) ((q5'.same sX).same (Same.new hqn)) ((sA.trans sX).free hqn) (fun r hr => sA.free (eX r hr).1) ⟨?_, by omega, fun r hr => ?_⟩⟩
    · have : qn ≠ d := fun z => (q5'.same sX).ne hqn z.symm
      rw [del_ne this, upd_same]
    · obtain ⟨f1, z', a, b⟩ := eX r hr
      have n1 : r ≠ d := fun z => q5'.ne f1 z.symm
      have n2 : r ≠ qn := fun z => ne_of_none b hqn z
      exact ⟨z', by omega, by rw [del_ne n1, upd_ne n2]; exact b⟩
  omega
theorem ok_f_law_free (T : Txt K mg d tk) (gf_law_draw : FnOk P w K mg base CX0 1 d.f_law_draw d.f_law_drawd ["_law_state", "_law_many"] (sp_f_law_draw K)) : FnOk P w K mg base CX0 2 d.f_law_free d.f_law_freed ["_law_state", "_law_one", "_law_other"] (sp_f_law_free K) := by
  refine T.F_f_law_free.ok sc_f_law_free (fun vs H Q E h => len_f_law_free h) (fun cdv A outer s H vs Q E hr h => ?_)
  have hu : (A.deeper (envOfC "_law_free" (defScope s_f_law_free) s.heap.objs.size d.f_law_free cdv)).units < cLine := hr.units0
  refine ⟨_, (@pss_cons _ _ _ _ _ (@ps_set _ _ (3) _ _ _ _ sc_f_law_free.nd rfl (Or.inr rfl) (@pe_op _ _ _ _ _ _ _ _ op_add (@pe_int _ _ _ _) (@pe_call _ _ _ _ _ _ _ _ _ _ _ _ _ _ _ _ gf_law_draw (hr.mono (by decide)) (by rfl) T.m_f_law_draw T.k_f_law_draw T.d_f_law_draw .nil pass0 (@pa_cons _ _ _ _ _ (@pv _ 0 _ _ rfl (Or.inr (Or.inl rfl)) rfl rfl) (@pa_cons _ _ _ _ _ (@pe_int _ _ _ _) (@pa_nil _) (by rfl)) (by rfl)) (by decide) (by rfl) (by rfl))) (by rfl) (by first | exact .inl rfl | exact .inr rfl)) (@pss_cons _ _ _ _ _ (@ps_set _ _ (4) _ _ _ _ sc_f_law_free.nd rfl (Or.inl rfl) (@pe_lstA _ _ _ _ (@pa_nil _)) (by rfl) (by first | exact .inl rfl | exact .inr rfl)) (@pss_cons _ _ _ _ _ (@ps_for _ _ _ _ _ _ _ _ PassesOwn.never rfl (@pi_range1 _ _ _ _ _ _ (by rfl) T.b_range (@pa_cons _ _ _ _ _ (@pe_op _ _ _ _ _ _ _ _ op_add (@pe_callB _ _ _ _ _ _ _ _ _ call_len_seq (by rfl) T.b_len boot_len (@pa_cons _ _ _ _ _ (@pv _ 1 _ _ rfl (Or.inl rfl) rfl rfl) (@pa_nil _) (by rfl)) (by decide) (by decide) (by rfl) (by rfl)) (@pe_int _ _ _ _)) (@pa_nil _) (by rfl)) (by rfl)) (@pg_name _ _ (5) _ sc_f_law_free.nd rfl (Or.inl rfl) (by first | exact .inl rfl | exact .inr rfl)) (@pss_one _ _ _ (@ps_expr _ _ _ _ (@pe_bm _ _ _ _ _ _ _ _ _ _ _ _ PySem.F.plainAttrs_list PySem.F.slot_list_append PySem.F.type_list_append mt_append (@pv _ 4 _ _ rfl (Or.inl rfl) rfl rfl) (@pa_cons _ _ _ _ _ (@pe_lcomp _ _ _ _ _ _ _ (["_law_j"]) ([("_law_state", 0), ("_law_many", 3)]) _ _ _ _ _ rfl (@pi_range1 _ _ _ _ _ _ (by rfl) T.b_range (@pa_cons _ _ _ _ _ (@pe_op _ _ _ _ _ _ _ _ op_add (@pe_callB _ _ _ _ _ _ _ _ _ call_len_seq (by rfl) T.b_len boot_len (@pa_cons _ _ _ _ _ (@pv _ 2 _ _ rfl (Or.inl rfl) rfl rfl) (@pa_nil _) (by rfl)) (by decide) (by decide) (by rfl) (by rfl)) (@pe_int _ _ _ _)) (@pa_nil _) (by rfl)) (by rfl)) ⟨rfl, by decide +kernel, by decide +kernel⟩ (caps_def (defScope s_f_law_free) ["_law_state", "_law_one", "_law_other", "_law_many", "_law_rows", "_law_i"] rfl rfl (fun _ h => cell_has h) (by decide +kernel) (by decide +kernel) (by decide +kernel)) (fun _ _ _ => (@pg_name _ _ (0) _ (by show List.Nodup (["_law_j", "_law_state", "_law_many"] : List Str); decide +kernel) rfl (Or.inl rfl) (by first | exact .inl rfl | exact .inr rfl))) (fun _ => fresh_name rfl) (fun _ _ _ => (@pts_nil _)) (fun _ _ _ => (@pe_op _ _ _ _ _ _ _ _ op_sub (@pe_call _ _ _ _ _ _ _ _ _ _ _ _ _ _ _ _ gf_law_draw (hr.mono (by decide)) (by rfl) T.m_f_law_draw T.k_f_law_draw T.d_f_law_draw .nil pass0 (@pa_cons _ _ _ _ _ (@pv _ 1 _ _ rfl (Or.inr (Or.inl rfl)) rfl rfl) (@pa_cons _ _ _ _ _ (@pv _ 2 _ _ rfl (Or.inr (Or.inl rfl)) rfl rfl) (@pa_nil _) (by rfl)) (by rfl)) (by decide) (by rfl) (by rfl)) (@pe_op _ _ _ _ _ _ _ _ op_fdiv (@pv _ 2 _ _ rfl (Or.inr (Or.inl rfl)) rfl rfl) (@pe_int _ _ _ _)))) (by intro _; rfl)) (@pa_nil _) (by rfl)) (by rfl) (by rfl) (by rfl) (by rfl) (by rfl)) (by rfl))) (by intro _; rfl)) (@pss_cons _ _ _ _ _ (@ps_asg _ _ _ _ _ _ (@pe_op _ _ _ _ _ _ _ _ op_fdiv (@pe_call _ _ _ _ _ _ _ _ _ _ _ _ _ _ _ _ gf_law_draw (hr.mono (by decide)) (by rfl) T.m_f_law_draw T.k_f_law_draw T.d_f_law_draw .nil pass0 (@pa_cons _ _ _ _ _ (@pv _ 0 _ _ rfl (Or.inr (Or.inl rfl)) rfl rfl) (@pa_cons _ _ _ _ _ (@pe_int _ _ _ _) (@pa_nil _) (by rfl)) (by rfl)) (by decide) (by rfl) (by rfl)) (@pe_int _ _ _ _)) (@pg_sub _ _ _ _ _ _ _ (@pe_ix _ _ _ _ _ _ _ ix_list (@pv _ 4 _ _ rfl (Or.inl rfl) rfl rfl) (@pe_un _ _ _ _ _ _ un_neg (@pe_int _ _ _ _)) (fun _ _ => rfl)) (@pe_un _ _ _ _ _ _ un_neg (@pe_int _ _ _ _)) set_list (by intro _; rfl)) (by rfl) (by rfl) (by rfl)) (@pss_one _ _ _ (@ps_ret _ _ _ _ (@pv _ 4 _ _ rfl (Or.inl rfl) rfl rfl))))))), ?_⟩
  obtain ⟨d, op, qp, n, xs, ts, rfl, r0, hn, hx, ht, hxl, htl, kk⟩ := h
  have hlx : (xs.map V.str).length = xs.length := List.length_map ..
  have hlt : (ts.map V.str).length = ts.length := List.length_map ..
  refine ⟨_, rfl, d, n, 4, rfl, r0, by omega, by omega, by omega, fun H1 r s1 q1 hr => ?_⟩
  refine ⟨_, _, rfl, rfl, ?_⟩
  refine ⟨szOk rfl, fun lp H2 g2 s2 e2 => ?_⟩
  have dl : (L2.del H d) lp = none := s1.free g2
  have ndl : lp ≠ d := fun z => q1.ne g2 z.symm
  have s02 := s1.trans s2
  refine ⟨_, rfl, op, _, rfl, .inl (SqL.of (s02 _ _ hx)), _, _, rfl, rfl, _, rfl, by omega, by omega, for_range (n := (((xs.map V.str).length : Int) + 1).toNat) (fun i σ H3 => ∃ (rs : List Addr) (R : List (List Int)) (u5 : Option V), σ = [some (.ref d), some (.ref op), some (.ref qp), some (.int ((1 + r : Nat) : Int)), some (.ref lp), u5] ∧ Same (L2.del H d) H3 ∧ SR H3 d (n + 1 + 20 * i) ∧ TT2 (L2.del H3 d) lp rs R ∧ (∀ r ∈ rs, r ≠ lp ∧ (L2.del H d) r = none) ∧ R.length = i ∧ ∀ z ∈ R, z.length = ts.length + 1)
    ⟨[], [], none, rfl, s02, q1.same s2, ⟨by rw [del_ne ndl]; exact e2, rfl, (fun i r z a b => by cases a), by decide, (fun _ z => nomatch z)⟩, (fun _ z => nomatch z), rfl, (fun _ z => nomatch z)⟩ ?_ ?_⟩
  · rintro i σ H3 hi ⟨rs, R, u5, rfl, s3, q3, tt, nl, hR, hrow⟩
    have hi13 : i < 13 := by omega
    have elp : H3 lp = some (.lst (rs.map V.ref)) := del_same _ _ tt.at'
    refine ⟨_, rfl, .inl ⟨rfl, _, SqL.of elp⟩, _, rfl, qp, _, rfl, .inl (SqL.of (s3 _ _ ht)), _, _, rfl, rfl, _, rfl, by omega, by omega, lc_range (n := (((ts.map V.str).length : Int) + 1).toNat) (big (by omega)) (fun j ys H' => (∃ zs : List Int, ys = zs.map V.int ∧ zs.length = j) ∧ Same (L2.del H3 d) H' ∧ SR H' d (n + 1 + 20 * i + j)) ⟨⟨[], rfl, rfl⟩, del_same, q3⟩ (fun j ys H' K1 K0 hj q k1 k0 => ?_) fun H' q ys P _ hq => ?_⟩
    · obtain ⟨⟨zs, rfl, hz⟩, sH, qH⟩ := q
      refine iteT (B := K0 H') ?_
      refine ⟨_, rfl, _, rfl, d, _, 1 + r, rfl, qH, by omega, by omega, by omega, fun HB rB sB qB hB => ?_⟩
      refine ⟨_, rfl, _, _, rfl, rfl, ⟨by decide, by decide⟩, _, _, rfl, rfl, k1 _ _ ⟨⟨zs ++ [_], by rw [List.map_append]; rfl, by rw [List.length_append, List.length_singleton, hz]⟩, (sH.cut del_at).trans sB, qB⟩⟩
    obtain ⟨⟨zs, rfl, hz⟩, sH, qH⟩ := P
    have sU : Same H' (L2.upd H' q (.lst (zs.map V.int))) := Same.new hq
    have tt5 : TT2 (L2.del (L2.upd H' q (.lst (zs.map V.int))) d) lp rs R := tt.same ((sH.trans sU).cut del_at)
    refine ⟨lp, _, _, rfl, rfl, sU _ _ (sH _ _ tt.at'), small1000 (by rw [List.length_map, tt.len]; omega), ?_⟩
    have nq : q ≠ lp := fun z => ne_of_none (sH _ _ tt.at') hq z.symm
    have nqd : q ≠ d := fun z => qH.ne hq z.symm
    refine ⟨rs ++ [q], R ++ [zs], _, rfl, ?_, ?_, ?_, fun r' hr' => ?_, by rw [List.length_append, List.length_singleton, hR], fun z hz' => ?_⟩
    · exact (((s3.cut del_at).trans sH).trans sU).wr dl
    · exact ((qH.same sU).more (by omega)).upd ndl.symm
    · refine TT2.snoc tt5 (fun i' r' z' e1 e2 => ?_) (by rw [del_ne ndl, upd_same]) (by rw [del_ne nqd, upd_ne nq, upd_same]) (by omega) (by omega)
      have h := tt5.row i' r' z' e1 e2
      have n1 : r' ≠ lp := (nl r' (List.mem_of_getElem? e1)).1
      have n2 : r' ≠ d := fun z => by rw [z, del_at] at h; cases h
      rw [del_ne n2] at h ⊢
      rw [upd_ne n1]
      exact h
    · rcases List.mem_append.mp hr' with h | h
      · exact nl r' h
      · rw [List.mem_singleton.mp h]; exact ⟨nq, ((s3.cut del_at).trans sH).free hq⟩
    · rcases List.mem_append.mp hz' with h | h
      · exact hrow z h
      · rw [List.mem_singleton.mp h]; omega
  · rintro σ H3 ⟨rs, R, u5, rfl, s3, q3, tt, nl, hR, hrow⟩
    refine ⟨_, rfl, d, _, 5, rfl, q3, by omega, by omega, by omega, fun H4 r4 s4 q4 hr4 => ?_⟩
    have tt4 : TT2 (L2.del H4 d) lp rs R := tt.same (s4.cut del_at)
    have elp : H4 lp = some (.lst (rs.map V.ref)) := del_same _ _ tt4.at'
    obtain ⟨rl, zl, h1, h2, h3, h4⟩ := tt4.get (i := xs.length) (by omega)
    have ll := hrow zl (List.mem_of_getElem? h3)
    have nrl : rl ≠ lp := (nl rl (List.mem_of_getElem? h2)).1
    have nrd : rl ≠ d := fun z => by rw [z, del_at] at h4; cases h4
    refine ⟨_, _, rfl, rfl, ⟨by decide, by decide⟩, _, rfl, _, rfl, lp, _, -1, .ref rl, rfl, rfl, SqL.of elp, atI_end (n := xs.length) (by rw [List.length_map, tt.len]; omega) (by rw [List.getElem?_map, h2]; rfl), _, rfl, rl, _, -1, ts.length, rfl, rfl, del_same _ _ h4, ixN_last (by rw [List.length_map]; exact ll), ?_⟩
    rw [set_ints]
    obtain ⟨R', tR, _⟩ := tt_wr (z' := zl.set ts.length (((r4 : Nat) : Int) / 4)) tt4 nrl (by rw [List.length_set]; omega)
    refine ⟨_, rfl, kk _ lp rs R' (((s3.cut del_at).trans s4).wr (nl rl (List.mem_of_getElem? h2)).2) ?_ ?_ ?_⟩
    · rw [del_upd nrd]
      exact tR
    · exact dl
    · exact fun r hr => (nl r hr).2
theorem ok_f_law_walked (T : Txt K mg d tk) (gf_law_draw : FnOk P w K mg base CX0 1 d.f_law_draw d.f_law_drawd ["_law_state", "_law_many"] (sp_f_law_draw K)) : FnOk P w K mg base CX0 2 d.f_law_walked d.f_law_walkedd ["_law_state", "_law_one", "_law_other"] (sp_f_law_walked K) := by
  refine T.F_f_law_walked.ok sc_f_law_walked (fun vs H Q E h => len_f_law_walked h) (fun cdv A outer s H vs Q E hr h => ?_)
  have hu : (A.deeper (envOfC "_law_walked" (defScope s_f_law_walked) s.heap.objs.size d.f_law_walked cdv)).units < cLine := hr.units0
  refine ⟨_, (@pss_cons _ _ _ _ _ (@ps_set _ _ (3) _ _ _ _ sc_f_law_walked.nd rfl (Or.inl rfl) (@pe_int _ _ _ _) (by rfl) (by first | exact .inl rfl | exact .inr rfl)) (@pss_cons _ _ _ _ _ (@ps_set _ _ (4) _ _ _ _ sc_f_law_walked.nd rfl (Or.inl rfl) (@pe_int _ _ _ _) (by rfl) (by first | exact .inl rfl | exact .inr rfl)) (@pss_cons _ _ _ _ _ (@ps_set _ _ (5) _ _ _ _ sc_f_law_walked.nd rfl (Or.inl rfl) (@pe_int _ _ _ _) (by rfl) (by first | exact .inl rfl | exact .inr rfl)) (@pss_cons _ _ _ _ _ (@ps_while _ _ _ _ _ _ PassesOwn.never (@PW.pt _ _ _ (@pw_or _ _ _ _ _ _ _ (@pt_cmpR _ _ _ _ _ _ _ _ op_lt (@pv _ 4 _ _ rfl (Or.inl rfl) rfl rfl) (@pe_callB _ _ _ _ _ _ _ _ _ call_len_seq (by rfl) T.b_len boot_len (@pa_cons _ _ _ _ _ (@pv _ 1 _ _ rfl (Or.inl rfl) rfl rfl) (@pa_nil _) (by rfl)) (by decide) (by decide) (by rfl) (by rfl)) (nomark _)) (@pw_or1 _ _ _ _ (@pt_cmpR _ _ _ _ _ _ _ _ op_lt (@pv _ 5 _ _ rfl (Or.inl rfl) rfl rfl) (@pe_callB _ _ _ _ _ _ _ _ _ call_len_seq (by rfl) T.b_len boot_len (@pa_cons _ _ _ _ _ (@pv _ 2 _ _ rfl (Or.inl rfl) rfl rfl) (@pa_nil _) (by rfl)) (by decide) (by decide) (by rfl) (by rfl)) (nomark _))))) (@pss_cons _ _ _ _ _ (@ps_set _ _ (6) _ _ _ _ sc_f_law_walked.nd rfl (Or.inl rfl) (@pe_call _ _ _ _ _ _ _ _ _ _ _ _ _ _ _ _ gf_law_draw (hr.mono (by decide)) (by rfl) T.m_f_law_draw T.k_f_law_draw T.d_f_law_draw .nil pass0 (@pa_cons _ _ _ _ _ (@pv _ 0 _ _ rfl (Or.inl rfl) rfl rfl) (@pa_cons _ _ _ _ _ (@pe_int _ _ _ _) (@pa_nil _) (by rfl)) (by rfl)) (by decide) (by rfl) (by rfl)) (by rfl) (by first | exact .inl rfl | exact .inr rfl)) (@pss_cons _ _ _ _ _ (@ps_set _ _ (7) _ _ _ _ sc_f_law_walked.nd rfl (Or.inl rfl) (@pe_and _ _ _ _ _ _ _ (@pe_cmpR _ _ _ _ _ _ _ _ op_lt (@pv _ 4 _ _ rfl (Or.inl rfl) rfl rfl) (@pe_callB _ _ _ _ _ _ _ _ _ call_len_seq (by rfl) T.b_len boot_len (@pa_cons _ _ _ _ _ (@pv _ 1 _ _ rfl (Or.inl rfl) rfl rfl) (@pa_nil _) (by rfl)) (by decide) (by decide) (by rfl) (by rfl)) (nomark _)) (@pe_one _ _ _ _ _ (@pe_cmpR _ _ _ _ _ _ _ _ op_lt (@pv _ 5 _ _ rfl (Or.inl rfl) rfl rfl) (@pe_callB _ _ _ _ _ _ _ _ _ call_len_seq (by rfl) T.b_len boot_len (@pa_cons _ _ _ _ _ (@pv _ 2 _ _ rfl (Or.inl rfl) rfl rfl) (@pa_nil _) (by rfl)) (by decide) (by decide) (by rfl) (by rfl)) (nomark _)))) (by rfl) (by first | exact .inl rfl | exact .inr rfl)) (@pss_one _ _ _ (@ps_if _ _ _ _ _ _ _ _ (@PW.pt _ _ _ (@pw_and _ _ _ _ _ _ _ (@pt_val _ _ _ (@pv _ 7 _ _ rfl (Or.inl rfl) rfl rfl) (by intro _; rfl)) (@pw_and _ _ _ _ _ _ _ (@pt_cmpR _ _ _ _ _ _ _ _ op_eq (@pe_ix _ _ _ _ _ _ _ ix_list (@pv _ 1 _ _ rfl (Or.inl rfl) rfl rfl) (@pv _ 4 _ _ rfl (Or.inl rfl) rfl rfl) (fun _ _ => rfl)) (@pe_ix _ _ _ _ _ _ _ ix_list (@pv _ 2 _ _ rfl (Or.inl rfl) rfl rfl) (@pv _ 5 _ _ rfl (Or.inl rfl) rfl rfl) (fun _ _ => rfl)) (nomark _)) (@pw_and1 _ _ _ _ (@pt_cmpR _ _ _ _ _ _ _ _ op_lt (@pv _ 6 _ _ rfl (Or.inl rfl) rfl rfl) (@pe_int _ _ _ _) (nomark _)))))) (@pss_cons _ _ _ _ _ (@ps_set _ _ (4) _ _ _ _ sc_f_law_walked.nd rfl (Or.inl rfl) (@pe_op _ _ _ _ _ _ _ _ op_add (@pv _ 4 _ _ rfl (Or.inl rfl) rfl rfl) (@pe_int _ _ _ _)) (by rfl) (by first | exact .inl rfl | exact .inr rfl)) (@pss_one _ _ _ (@ps_set _ _ (5) _ _ _ _ sc_f_law_walked.nd rfl (Or.inl rfl) (@pe_op _ _ _ _ _ _ _ _ op_add (@pv _ 5 _ _ rfl (Or.inl rfl) rfl rfl) (@pe_int _ _ _ _)) (by rfl) (by first | exact .inl rfl | exact .inr rfl)))) (@pss_one _ _ _ (@ps_if _ _ _ _ _ _ _ _ (@PW.pt _ _ _ (@pw_or _ _ _ _ _ _ _ (@pt_cmpR _ _ _ _ _ _ _ _ op_eq (@pv _ 5 _ _ rfl (Or.inl rfl) rfl rfl) (@pe_callB _ _ _ _ _ _ _ _ _ call_len_seq (by rfl) T.b_len boot_len (@pa_cons _ _ _ _ _ (@pv _ 2 _ _ rfl (Or.inl rfl) rfl rfl) (@pa_nil _) (by rfl)) (by decide) (by decide) (by rfl) (by rfl)) (nomark _)) (@pw_or1 _ _ _ _ (@PW.pt _ _ _ (@pw_and _ _ _ _ _ _ _ (@pt_cmpR _ _ _ _ _ _ _ _ op_lt (@pv _ 4 _ _ rfl (Or.inl rfl) rfl rfl) (@pe_callB _ _ _ _ _ _ _ _ _ call_len_seq (by rfl) T.b_len boot_len (@pa_cons _ _ _ _ _ (@pv _ 1 _ _ rfl (Or.inl rfl) rfl rfl) (@pa_nil _) (by rfl)) (by decide) (by decide) (by rfl) (by rfl)) (nomark _)) (@pw_and1 _ _ _ _ (@pt_cmpR _ _ _ _ _ _ _ _ op_eq (@pe_op _ _ _ _ _ _ _ _ op_mod (@pv _ 6 _ _ rfl (Or.inl rfl) rfl rfl) (@pe_int _ _ _ _)) (@pe_int _ _ _ _) (nomark _)))))))) (@pss_cons _ _ _ _ _ (@ps_set _ _ (4) _ _ _ _ sc_f_law_walked.nd rfl (Or.inl rfl) (@pe_op _ _ _ _ _ _ _ _ op_add (@pv _ 4 _ _ rfl (Or.inl rfl) rfl rfl) (@pe_int _ _ _ _)) (by rfl) (by first | exact .inl rfl | exact .inr rfl)) (@pss_one _ _ _ (@ps_set _ _ (3) _ _ _ _ sc_f_law_walked.nd rfl (Or.inl rfl) (@pe_op _ _ _ _ _ _ _ _ op_add (@pv _ 3 _ _ rfl (Or.inl rfl) rfl rfl) (@pe_int _ _ _ _)) (by rfl) (by first | exact .inl rfl | exact .inr rfl)))) (@pss_cons _ _ _ _ _ (@ps_set _ _ (5) _ _ _ _ sc_f_law_walked.nd rfl (Or.inl rfl) (@pe_op _ _ _ _ _ _ _ _ op_add (@pv _ 5 _ _ rfl (Or.inl rfl) rfl rfl) (@pe_int _ _ _ _)) (by rfl) (by first | exact .inl rfl | exact .inr rfl)) (@pss_one _ _ _ (@ps_set _ _ (3) _ _ _ _ sc_f_law_walked.nd rfl (Or.inl rfl) (@pe_op _ _ _ _ _ _ _ _ op_add (@pv _ 3 _ _ rfl (Or.inl rfl) rfl rfl) (@pe_int _ _ _ _)) (by rfl) (by first | exact .inl rfl | exact .inr rfl))))))))))) (@pss_one _ _ _ (@ps_ret _ _ _ _ (@pv _ 3 _ _ rfl (Or.inl rfl) rfl rfl))))))), ?_⟩
  obtain ⟨d, op, qp, n, xs, ts, rfl, r0, hn, hx, ht, hxl, htl, kk⟩ := h
  have hlx : (xs.map V.str).length = xs.length := List.length_map ..
  have hlt : (ts.map V.str).length = ts.length := List.length_map ..
  refine ⟨WkInv H d op qp n xs ts, ⟨_, 0, 0, 0, none, none, rfl, del_same, r0.more (by omega), Nat.zero_le _, Nat.zero_le _, by rw [List.drop_zero, List.drop_zero]; show _ ≤ (0 : Int) + _; omega, rfl⟩, ?_⟩
  rintro m σ H3 ⟨c, i, j, u6, u7, rfl, s3, q3, hi0, hj0, hc, rfl⟩
  have hx3 := s3 _ _ hx
  have ht3 := s3 _ _ ht
  refine ⟨_, rfl, _, rfl, op, _, rfl, .inl (SqL.of hx3), _, _, rfl, rfl, _, rfl, ite2 (fun ha => itT rfl ?_) fun ha => ⟨_, rfl, _, rfl, qp, _, rfl, .inl (SqL.of ht3), _, _, rfl, rfl, _, rfl, ite2 (fun hb => ?_) fun hb => ?_⟩⟩
  · have ha := of_decide_eq_true ha
    obtain ⟨x, ex⟩ := get_of_lt (ts := xs) (j := i) (by omega)
    refine ⟨fun σ' H' => ∃ m', m' < (xs.length - i) + (ts.length - j) ∧ WkInv H d op qp n xs ts m' σ' H', fun _ _ h => h, ?_⟩
    refine ⟨_, rfl, d, _, 4, rfl, q3, by omega, by omega, by omega, fun H4 wy s4 q4 hwy => ?_⟩
    have sA : Same (L2.del H d) H4 := (s3.cut del_at).trans s4
    have hx4 := sA _ _ hx
    have ht4 := sA _ _ ht
    refine ⟨_, rfl, _, rfl, op, _, rfl, .inl (SqL.of hx4), _, _, rfl, rfl, _, rfl, itT (decide_eq_true (by omega)) ?_⟩
    refine ⟨_, rfl, _, rfl, qp, _, rfl, .inl (SqL.of ht4), _, _, rfl, rfl, ?_⟩
    by_cases hb : j < ts.length
    · obtain ⟨y, ey⟩ := get_of_lt hb
      refine ⟨_, rfl, _, rfl, itT (decide_eq_true (by omega)) ?_⟩
      refine ⟨_, rfl, _, rfl, op, _, _, _, rfl, rfl, SqL.of hx4, strs_at ex, _, rfl, _, rfl, qp, _, _, _, rfl, rfl, SqL.of ht4, strs_at ey, rfl, _, rfl, ite2 (fun he => ?_) fun he => itF rfl ?_⟩
      · have he : x = y := V.str.inj (of_decide_eq_true he)
        refine ⟨_, rfl, _, _, rfl, rfl, _, rfl, ite2 (fun _ => ?_) fun _ => ?_⟩
        · have fin : dI xs ts ≤ ((c : Nat) : Int) + dI (xs.drop (i + 1)) (ts.drop (j + 1)) := by
            rw [drop_at ex, drop_at ey, he, dI_eq] at hc
            exact hc
          exact ⟨_, rfl, _, _, rfl, rfl, _, rfl, _, _, rfl, rfl, (xs.length - (i + 1)) + (ts.length - (j + 1)), by omega, c, i + 1, j + 1, _, _, rfl, sA, q4.more (by omega), by omega, by omega, fin, rfl⟩
        · refine ⟨_, rfl, _, rfl, qp, _, rfl, .inl (SqL.of ht4), rfl, _, rfl, itF (decide_eq_false fun z => by have := V.int.inj z; omega) ?_⟩
          refine ⟨_, rfl, _, rfl, op, _, rfl, .inl (SqL.of hx4), _, _, rfl, rfl, _, rfl, itT (decide_eq_true (by omega)) ?_⟩
          refine ⟨_, rfl, _, _, rfl, rfl, (by show (0 : Int) < 2; decide), rfl, _, rfl, ite2 (fun _ => ?_) fun _ => ?_⟩
          · have fin : dI xs ts ≤ ((c + 1 : Nat) : Int) + dI (xs.drop (i + 1)) (ts.drop (j)) := by
              have := dI_more x (xs.drop (i + 1)) (ts.drop j)
              rw [drop_at ex] at hc
              omega
            exact ⟨_, rfl, _, _, rfl, rfl, _, rfl, _, _, rfl, rfl, (xs.length - (i + 1)) + (ts.length - (j)), by omega, c + 1, i + 1, j, _, _, rfl, sA, q4.more (by omega), by omega, by omega, fin, rfl⟩
          · have fin : dI xs ts ≤ ((c + 1 : Nat) : Int) + dI (xs.drop (i)) (ts.drop (j + 1)) := by
              have := dI_more2 y (xs.drop i) (ts.drop (j + 1))
              rw [drop_at ey] at hc
              omega
            exact ⟨_, rfl, _, _, rfl, rfl, _, rfl, _, _, rfl, rfl, (xs.length - (i)) + (ts.length - (j + 1)), by omega, c + 1, i, j + 1, _, _, rfl, sA, q4.more (by omega), by omega, by omega, fin, rfl⟩
      · refine ⟨_, rfl, _, rfl, qp, _, rfl, .inl (SqL.of ht4), rfl, _, rfl, itF (decide_eq_false fun z => by have := V.int.inj z; omega) ?_⟩
        refine ⟨_, rfl, _, rfl, op, _, rfl, .inl (SqL.of hx4), _, _, rfl, rfl, _, rfl, itT (decide_eq_true (by omega)) ?_⟩
        refine ⟨_, rfl, _, _, rfl, rfl, (by show (0 : Int) < 2; decide), rfl, _, rfl, ite2 (fun _ => ?_) fun _ => ?_⟩
        · have fin : dI xs ts ≤ ((c + 1 : Nat) : Int) + dI (xs.drop (i + 1)) (ts.drop (j)) := by
            have := dI_more x (xs.drop (i + 1)) (ts.drop j)
            rw [drop_at ex] at hc
            omega
          exact ⟨_, rfl, _, _, rfl, rfl, _, rfl, _, _, rfl, rfl, (xs.length - (i + 1)) + (ts.length - (j)), by omega, c + 1, i + 1, j, _, _, rfl, sA, q4.more (by omega), by omega, by omega, fin, rfl⟩
        · have fin : dI xs ts ≤ ((c + 1 : Nat) : Int) + dI (xs.drop (i)) (ts.drop (j + 1)) := by
            have := dI_more2 y (xs.drop i) (ts.drop (j + 1))
            rw [drop_at ey] at hc
            omega
          exact ⟨_, rfl, _, _, rfl, rfl, _, rfl, _, _, rfl, rfl, (xs.length - (i)) + (ts.length - (j + 1)), by omega, c + 1, i, j + 1, _, _, rfl, sA, q4.more (by omega), by omega, by omega, fin, rfl⟩
    · refine ⟨_, rfl, _, rfl, itF (decide_eq_false (by omega)) (itF rfl ?_)⟩
      refine ⟨_, rfl, _, rfl, qp, _, rfl, .inl (SqL.of ht4), rfl, _, rfl, itT (decide_eq_true (by congr 1; omega)) (itT rfl ?_)⟩
      have fin : dI xs ts ≤ ((c + 1 : Nat) : Int) + dI (xs.drop (i + 1)) (ts.drop (j)) := by
        have := dI_more x (xs.drop (i + 1)) (ts.drop j)
        rw [drop_at ex] at hc
        omega
      exact ⟨_, rfl, _, _, rfl, rfl, _, rfl, _, _, rfl, rfl, (xs.length - (i + 1)) + (ts.length - (j)), by omega, c + 1, i + 1, j, _, _, rfl, sA, q4.more (by omega), by omega, by omega, fin, rfl⟩
  · have ha := of_decide_eq_false (Bool.eq_false_iff.mpr ha)
    have hb := of_decide_eq_true hb
    obtain ⟨y, ey⟩ := get_of_lt (ts := ts) (j := j) (by omega)
    refine ⟨fun σ' H' => ∃ m', m' < (xs.length - i) + (ts.length - j) ∧ WkInv H d op qp n xs ts m' σ' H', fun _ _ h => h, ?_⟩
    refine ⟨_, rfl, d, _, 4, rfl, q3, by omega, by omega, by omega, fun H4 wy s4 q4 hwy => ?_⟩
    have sA : Same (L2.del H d) H4 := (s3.cut del_at).trans s4
    have hx4 := sA _ _ hx
    have ht4 := sA _ _ ht
    refine ⟨_, rfl, _, rfl, op, _, rfl, .inl (SqL.of hx4), _, _, rfl, rfl, _, rfl, itF (decide_eq_false (by omega)) ?_⟩
    refine ⟨_, rfl, _, rfl, itF rfl (itF rfl ?_)⟩
    refine ⟨_, rfl, _, rfl, qp, _, rfl, .inl (SqL.of ht4), rfl, _, rfl, itF (decide_eq_false fun z => by have := V.int.inj z; omega) ?_⟩
    refine ⟨_, rfl, _, rfl, op, _, rfl, .inl (SqL.of hx4), _, _, rfl, rfl, _, rfl, itF (decide_eq_false (by omega)) (itF rfl ?_)⟩
    have fin : dI xs ts ≤ ((c + 1 : Nat) : Int) + dI (xs.drop (i)) (ts.drop (j + 1)) := by
      have := dI_more2 y (xs.drop i) (ts.drop (j + 1))
      rw [drop_at ey] at hc
      omega
    exact ⟨_, rfl, _, _, rfl, rfl, _, rfl, _, _, rfl, rfl, (xs.length - (i)) + (ts.length - (j + 1)), by omega, c + 1, i, j + 1, _, _, rfl, sA, q4.more (by omega), by omega, by omega, fin, rfl⟩
  · have ha := of_decide_eq_false (Bool.eq_false_iff.mpr ha)
    have hb := of_decide_eq_false (Bool.eq_false_iff.mpr hb)
    rw [show xs.drop i = [] from List.drop_eq_nil_iff.mpr (by omega), show ts.drop j = [] from List.drop_eq_nil_iff.mpr (by omega), dI_nil, List.length_nil] at hc
    exact ⟨_, rfl, kk H3 c s3 (q3.more (by omega)) (by omega)⟩
theorem ok_fsteps_between (T : Txt K mg d tk) (gfprices : FnOk P w K mg base CX0 2 d.fprices d.fpricesd ["one", "other"] (sp_fprices K)) : FnOk P w K mg base CX0 3 d.fsteps_between d.fsteps_betweend ["one", "other"] (sp_fsteps_between K) := by
  refine T.F_fsteps_between.ok sc_fsteps_between (fun vs H Q E h => len_fsteps_between h) (fun cdv A outer s H vs Q E hr h => ?_)
  have hu : (A.deeper (envOfC "steps_between" (defScope s_fsteps_between) s.heap.objs.size d.fsteps_between cdv)).units < cLine := hr.units0
  refine ⟨_, (@pss_cons _ _ _ _ _ (@ps_set _ _ (2) _ _ _ _ sc_fsteps_between.nd rfl (Or.inl rfl) (@pe_call _ _ _ _ _ _ _ _ _ _ _ _ _ _ _ _ gfprices (hr.mono (by decide)) (by rfl) T.m_fprices T.k_fprices T.d_fprices .nil pass0 (@pa_cons _ _ _ _ _ (@pv _ 0 _ _ rfl (Or.inl rfl) rfl rfl) (@pa_cons _ _ _ _ _ (@pv _ 1 _ _ rfl (Or.inl rfl) rfl rfl) (@pa_nil _) (by rfl)) (by rfl)) (by decide) (by rfl) (by rfl)) (by rfl) (by first | exact .inl rfl | exact .inr rfl)) (@pss_cons _ _ _ _ _ (@ps_set _ _ (3) _ _ _ _ sc_fsteps_between.nd rfl (Or.inl rfl) (@pe_lstA _ _ _ _ (@pa_nil _)) (by rfl) (by first | exact .inl rfl | exact .inr rfl)) (@pss_cons _ _ _ _ _ (@ps_set _ _ (4) _ _ _ _ sc_fsteps_between.nd rfl (Or.inl rfl) (@pe_int _ _ _ _) (by rfl) (by first | exact .inl rfl | exact .inr rfl)) (@pss_cons _ _ _ _ _ (@ps_set _ _ (5) _ _ _ _ sc_fsteps_between.nd rfl (Or.inl rfl) (@pe_int _ _ _ _) (by rfl) (by first | exact .inl rfl | exact .inr rfl)) (@pss_cons _ _ _ _ _ (@ps_while _ _ _ _ _ _ PassesOwn.never (@PW.pt _ _ _ (@pw_or _ _ _ _ _ _ _ (@pt_cmpR _ _ _ _ _ _ _ _ op_lt (@pv _ 4 _ _ rfl (Or.inl rfl) rfl rfl) (@pe_callB _ _ _ _ _ _ _ _ _ call_len_seq (by rfl) T.b_len boot_len (@pa_cons _ _ _ _ _ (@pv _ 0 _ _ rfl (Or.inl rfl) rfl rfl) (@pa_nil _) (by rfl)) (by decide) (by decide) (by rfl) (by rfl)) (nomark _)) (@pw_or1 _ _ _ _ (@pt_cmpR _ _ _ _ _ _ _ _ op_lt (@pv _ 5 _ _ rfl (Or.inl rfl) rfl rfl) (@pe_callB _ _ _ _ _ _ _ _ _ call_len_seq (by rfl) T.b_len boot_len (@pa_cons _ _ _ _ _ (@pv _ 1 _ _ rfl (Or.inl rfl) rfl rfl) (@pa_nil _) (by rfl)) (by decide) (by decide) (by rfl) (by rfl)) (nomark _))))) (@pss_one _ _ _ (@ps_if _ _ _ _ _ _ _ _ (@PW.pt _ _ _ (@pw_and _ _ _ _ _ _ _ (@pt_cmpR _ _ _ _ _ _ _ _ op_lt (@pv _ 4 _ _ rfl (Or.inl rfl) rfl rfl) (@pe_callB _ _ _ _ _ _ _ _ _ call_len_seq (by rfl) T.b_len boot_len (@pa_cons _ _ _ _ _ (@pv _ 0 _ _ rfl (Or.inl rfl) rfl rfl) (@pa_nil _) (by rfl)) (by decide) (by decide) (by rfl) (by rfl)) (nomark _)) (@pw_and _ _ _ _ _ _ _ (@pt_cmpR _ _ _ _ _ _ _ _ op_lt (@pv _ 5 _ _ rfl (Or.inl rfl) rfl rfl) (@pe_callB _ _ _ _ _ _ _ _ _ call_len_seq (by rfl) T.b_len boot_len (@pa_cons _ _ _ _ _ (@pv _ 1 _ _ rfl (Or.inl rfl) rfl rfl) (@pa_nil _) (by rfl)) (by decide) (by decide) (by rfl) (by rfl)) (nomark _)) (@pw_and1 _ _ _ _ (@pt_cmpR _ _ _ _ _ _ _ _ op_eq (@pe_ix _ _ _ _ _ _ _ ix_list (@pv _ 0 _ _ rfl (Or.inl rfl) rfl rfl) (@pv _ 4 _ _ rfl (Or.inl rfl) rfl rfl) (fun _ _ => rfl)) (@pe_ix _ _ _ _ _ _ _ ix_list (@pv _ 1 _ _ rfl (Or.inl rfl) rfl rfl) (@pv _ 5 _ _ rfl (Or.inl rfl) rfl rfl) (fun _ _ => rfl)) (nomark _)))))) (@pss_cons _ _ _ _ _ (@ps_expr _ _ _ _ (@pe_bm _ _ _ _ _ _ _ _ _ _ _ _ PySem.F.plainAttrs_list PySem.F.slot_list_append PySem.F.type_list_append mt_append (@pv _ 3 _ _ rfl (Or.inl rfl) rfl rfl) (@pa_cons _ _ _ _ _ (@pe_tupA _ _ _ _ _ (@pa_cons _ _ _ _ _ (@pe_str _ _ _ _) (@pa_cons _ _ _ _ _ (@pe_str _ _ _ _) (@pa_nil _) (by rfl)) (by rfl))) (@pa_nil _) (by rfl)) (by rfl) (by rfl) (by rfl) (by rfl) (by rfl)) (by rfl)) (@pss_cons _ _ _ _ _ (@ps_aug _ _ (4) _ _ _ _ _ _ sc_fsteps_between.nd rfl (Or.inl rfl) (@pe_int _ _ _ _) ip_add (by first | exact .inl rfl | exact .inr rfl)) (@pss_one _ _ _ (@ps_aug _ _ (5) _ _ _ _ _ _ sc_fsteps_between.nd rfl (Or.inl rfl) (@pe_int _ _ _ _) ip_add (by first | exact .inl rfl | exact .inr rfl))))) (@pss_one _ _ _ (@ps_if _ _ _ _ _ _ _ _ (@PW.pt _ _ _ (@pw_and _ _ _ _ _ _ _ (@pt_cmpR _ _ _ _ _ _ _ _ op_lt (@pv _ 4 _ _ rfl (Or.inl rfl) rfl rfl) (@pe_callB _ _ _ _ _ _ _ _ _ call_len_seq (by rfl) T.b_len boot_len (@pa_cons _ _ _ _ _ (@pv _ 0 _ _ rfl (Or.inl rfl) rfl rfl) (@pa_nil _) (by rfl)) (by decide) (by decide) (by rfl) (by rfl)) (nomark _)) (@pw_and1 _ _ _ _ (@pt_cmpR _ _ _ _ _ _ _ _ op_lt (@pe_ix _ _ _ _ _ _ _ ix_list (@pe_ix _ _ _ _ _ _ _ ix_list (@pv _ 2 _ _ rfl (Or.inl rfl) rfl rfl) (@pe_op _ _ _ _ _ _ _ _ op_add (@pv _ 4 _ _ rfl (Or.inl rfl) rfl rfl) (@pe_int _ _ _ _)) (fun _ _ => rfl)) (@pv _ 5 _ _ rfl (Or.inl rfl) rfl rfl) (fun _ _ => rfl)) (@pe_ix _ _ _ _ _ _ _ ix_list (@pe_ix _ _ _ _ _ _ _ ix_list (@pv _ 2 _ _ rfl (Or.inl rfl) rfl rfl) (@pv _ 4 _ _ rfl (Or.inl rfl) rfl rfl) (fun _ _ => rfl)) (@pv _ 5 _ _ rfl (Or.inl rfl) rfl rfl) (fun _ _ => rfl)) (nomark _))))) (@pss_cons _ _ _ _ _ (@ps_expr _ _ _ _ (@pe_bm _ _ _ _ _ _ _ _ _ _ _ _ PySem.F.plainAttrs_list PySem.F.slot_list_append PySem.F.type_list_append mt_append (@pv _ 3 _ _ rfl (Or.inl rfl) rfl rfl) (@pa_cons _ _ _ _ _ (@pe_tupA _ _ _ _ _ (@pa_cons _ _ _ _ _ (@pe_str _ _ _ _) (@pa_cons _ _ _ _ _ (@pe_str _ _ _ _) (@pa_nil _) (by rfl)) (by rfl))) (@pa_nil _) (by rfl)) (by rfl) (by rfl) (by rfl) (by rfl) (by rfl)) (by rfl)) (@pss_one _ _ _ (@ps_aug _ _ (4) _ _ _ _ _ _ sc_fsteps_between.nd rfl (Or.inl rfl) (@pe_int _ _ _ _) ip_add (by first | exact .inl rfl | exact .inr rfl)))) (@pss_cons _ _ _ _ _ (@ps_expr _ _ _ _ (@pe_bm _ _ _ _ _ _ _ _ _ _ _ _ PySem.F.plainAttrs_list PySem.F.slot_list_append PySem.F.type_list_append mt_append (@pv _ 3 _ _ rfl (Or.inl rfl) rfl rfl) (@pa_cons _ _ _ _ _ (@pe_tupA _ _ _ _ _ (@pa_cons _ _ _ _ _ (@pe_str _ _ _ _) (@pa_cons _ _ _ _ _ (@pe_ix _ _ _ _ _ _ _ ix_list (@pv _ 1 _ _ rfl (Or.inl rfl) rfl rfl) (@pv _ 5 _ _ rfl (Or.inl rfl) rfl rfl) (fun _ _ => rfl)) (@pa_nil _) (by rfl)) (by rfl))) (@pa_nil _) (by rfl)) (by rfl) (by rfl) (by rfl) (by rfl) (by rfl)) (by rfl)) (@pss_one _ _ _ (@ps_aug _ _ (5) _ _ _ _ _ _ sc_fsteps_between.nd rfl (Or.inl rfl) (@pe_int _ _ _ _) ip_add (by first | exact .inl rfl | exact .inr rfl))))))))) (@pss_one _ _ _ (@ps_ret _ _ _ _ (@pv _ 3 _ _ rfl (Or.inl rfl) rfl rfl)))))))), ?_⟩
  obtain ⟨op, qp, xs, ts, rfl, hx, ht, hxl, htl, kk⟩ := h
  have hlx : (xs.map V.str).length = xs.length := List.length_map ..
  have hlt0 : (ts.map V.str).length = ts.length := List.length_map ..
  refine ⟨_, rfl, _, rfl, op, qp, xs, ts, rfl, hx, ht, hxl, htl, fun H1 tp rs s1 g1 tb => ?_⟩
  refine ⟨szOk rfl, fun lp H2 g2 s2 e2 => ?_⟩
  have fl : H lp = none := s1.free g2
  refine ⟨SBInv H1 op qp tp lp xs ts, ⟨_, 0, 0, [], [], rfl, s2, e2, .nil, Nat.zero_le _, Nat.zero_le _, Nat.le_refl _, rfl, rfl, by rw [List.drop_zero, List.drop_zero]; show (0 : Int) + _ = _; omega, rfl⟩, ?_⟩
  rintro m σ H3 ⟨a, b, us, st, rfl, s3, e3, c3, ha0, hb0, hl', ht', hm', hc', rfl⟩
  have hx3 := s3 _ _ (s1 _ _ hx)
  have ht3 := s3 _ _ (s1 _ _ ht)
  have tb3 := tb.same s3
  have lus : us.length ≤ 2400 := by rw [c3.len]; omega
  refine ⟨_, rfl, _, rfl, op, _, rfl, .inl (SqL.of hx3), _, _, rfl, rfl, _, rfl, ite2 (fun ha => itT rfl ?_) fun ha => ⟨_, rfl, _, rfl, qp, _, rfl, .inl (SqL.of ht3), _, _, rfl, rfl, _, rfl, ite2 (fun hb => ?_) fun hb => ?_⟩⟩
  · have ha := of_decide_eq_true ha
    obtain ⟨x, ex⟩ := get_of_lt (ts := xs) (j := a) (by omega)
    refine ⟨fun σ' H' => ∃ m', m' < (xs.length - a) + (ts.length - b) ∧ SBInv H1 op qp tp lp xs ts m' σ' H', fun _ _ h => h, ?_⟩
    refine ⟨_, rfl, _, rfl, op, _, rfl, .inl (SqL.of hx3), _, _, rfl, rfl, _, rfl, itT (decide_eq_true (by omega)) ?_⟩
    refine ⟨_, rfl, _, rfl, qp, _, rfl, .inl (SqL.of ht3), _, _, rfl, rfl, _, rfl, ite2 (fun hb => ?_) fun hb => itF rfl ?_⟩
    · have hb := of_decide_eq_true hb
      obtain ⟨y, ey⟩ := get_of_lt (ts := ts) (j := b) (by omega)
      refine ⟨_, rfl, _, rfl, op, _, _, _, rfl, rfl, SqL.of hx3, strs_at ex, _, rfl, _, rfl, qp, _, _, _, rfl, rfl, SqL.of ht3, strs_at ey, rfl, _, rfl, ite2 (fun he => ?_) fun he => ?_⟩
      · have he : x = y := V.str.inj (of_decide_eq_true he)
        refine ⟨_, rfl, .inl ⟨rfl, _, SqL.of e3⟩, szOk rfl, fun q H4 g4 s4 e4 => ⟨lp, _, _, rfl, rfl, s4 _ _ e3, small6000 (by omega), ?_⟩⟩
        have nq : q ≠ lp := fun z => ne_of_none e3 g4 z.symm
        obtain ⟨k1, k2, k3⟩ := sb_keep ht' hm' hc' ex (by rw [he]; exact ey)
        exact ⟨_, rfl, _, _, rfl, rfl, _, rfl, _, _, rfl, rfl, (xs.length - (a + 1)) + (ts.length - (b + 1)), by omega, sb_more (x := .keep 1) (a' := a + 1) (b' := b + 1) s3 g2 s4 c3 ⟨rfl, q, rfl, by rw [del_ne nq]; exact e4⟩ (by omega) (by omega) (by omega) k1 k2 k3⟩
      · have he : x ≠ y := fun z => he (decide_eq_true (by rw [z]))
        obtain ⟨r1, p1, p2⟩ := tb3.get (i := a + 1) (by omega)
        obtain ⟨r2, p3, p4⟩ := tb3.get (i := a) (by omega)
        refine ⟨_, rfl, _, rfl, op, _, rfl, .inl (SqL.of hx3), _, _, rfl, rfl, _, rfl, itT (decide_eq_true (by omega)) ?_⟩
        refine ⟨_, rfl, _, rfl, _, _, rfl, rfl, tp, _, ((a + 1 : Nat) : Int), .ref r1, rfl, rfl, SqL.of tb3.at', p1, _, rfl, r1, _, _, _, rfl, rfl, SqL.of p2, rowV_I _ ts hb0, _, rfl, _, rfl, tp, _, _, .ref r2, rfl, rfl, SqL.of tb3.at', p3, _, rfl, r2, _, _, _, rfl, rfl, SqL.of p4, rowV_I _ ts hb0, _, _, rfl, rfl, _, rfl, ite2 (fun hlt => ?_) fun hge => ?_⟩
        · have hlt := of_decide_eq_true hlt
          refine ⟨_, rfl, .inl ⟨rfl, _, SqL.of e3⟩, szOk rfl, fun q H4 g4 s4 e4 => ⟨lp, _, _, rfl, rfl, s4 _ _ e3, small6000 (by omega), ?_⟩⟩
          have nq : q ≠ lp := fun z => ne_of_none e3 g4 z.symm
          obtain ⟨k1, k2, k3⟩ := sb_out ht' hm' hc' ex hlt
          exact ⟨_, rfl, _, _, rfl, rfl, (xs.length - (a + 1)) + (ts.length - b), by omega, sb_more (x := .out 1) (a' := a + 1) (b' := b) s3 g2 s4 c3 ⟨rfl, q, rfl, by rw [del_ne nq]; exact e4⟩ (by omega) (by omega) (by omega) k1 k2 k3⟩
        · have hge := of_decide_eq_false (Bool.eq_false_iff.mpr hge)
          have hput : dI (xs.drop a) (ts.drop b) = 1 + dI (xs.drop a) (ts.drop (b + 1)) := by
            rw [drop_at ex, drop_at ey] at hge ⊢
            exact dI_put he hge
          refine ⟨_, rfl, .inl ⟨rfl, _, SqL.of e3⟩, _, rfl, _, rfl, qp, _, _, _, rfl, rfl, SqL.of ht3, strs_at ey, szOk rfl, fun q H4 g4 s4 e4 => ⟨lp, _, _, rfl, rfl, s4 _ _ e3, small6000 (by omega), ?_⟩⟩
          have nq : q ≠ lp := fun z => ne_of_none e3 g4 z.symm
          obtain ⟨k1, k2, k3⟩ := sb_put ht' hm' hc' ey hput
          exact ⟨_, rfl, _, _, rfl, rfl, (xs.length - a) + (ts.length - (b + 1)), by omega, sb_more (x := .put [y]) (a' := a) (b' := b + 1) s3 g2 s4 c3 ⟨y, q, rfl, rfl, by rw [del_ne nq]; exact e4⟩ (by omega) (by omega) (by omega) k1 k2 k3⟩
    · have hb := of_decide_eq_false (Bool.eq_false_iff.mpr hb)
      obtain ⟨r1, p1, p2⟩ := tb3.get (i := a + 1) (by omega)
      obtain ⟨r2, p3, p4⟩ := tb3.get (i := a) (by omega)
      refine ⟨_, rfl, _, rfl, op, _, rfl, .inl (SqL.of hx3), _, _, rfl, rfl, _, rfl, itT (decide_eq_true (by omega)) ?_⟩
      refine ⟨_, rfl, _, rfl, _, _, rfl, rfl, tp, _, ((a + 1 : Nat) : Int), .ref r1, rfl, rfl, SqL.of tb3.at', p1, _, rfl, r1, _, _, _, rfl, rfl, SqL.of p2, rowV_I _ ts hb0, _, rfl, _, rfl, tp, _, _, .ref r2, rfl, rfl, SqL.of tb3.at', p3, _, rfl, r2, _, _, _, rfl, rfl, SqL.of p4, rowV_I _ ts hb0, _, _, rfl, rfl, _, rfl, ite2 (fun hlt => ?_) fun hge => ?_⟩
      · have hlt := of_decide_eq_true hlt
        refine ⟨_, rfl, .inl ⟨rfl, _, SqL.of e3⟩, szOk rfl, fun q H4 g4 s4 e4 => ⟨lp, _, _, rfl, rfl, s4 _ _ e3, small6000 (by omega), ?_⟩⟩
        have nq : q ≠ lp := fun z => ne_of_none e3 g4 z.symm
        obtain ⟨k1, k2, k3⟩ := sb_out ht' hm' hc' ex hlt
        exact ⟨_, rfl, _, _, rfl, rfl, (xs.length - (a + 1)) + (ts.length - b), by omega, sb_more (x := .out 1) (a' := a + 1) (b' := b) s3 g2 s4 c3 ⟨rfl, q, rfl, by rw [del_ne nq]; exact e4⟩ (by omega) (by omega) (by omega) k1 k2 k3⟩
      · have hge := of_decide_eq_false (Bool.eq_false_iff.mpr hge)
        refine absurd ?_ hge
        rw [drop_at ex, show ts.drop b = [] from List.drop_eq_nil_iff.mpr (by omega), dI_nil2, dI_nil2, List.length_cons]
        omega
  · have ha := of_decide_eq_false (Bool.eq_false_iff.mpr ha)
    have hb := of_decide_eq_true hb
    obtain ⟨y, ey⟩ := get_of_lt (ts := ts) (j := b) (by omega)
    refine ⟨fun σ' H' => ∃ m', m' < (xs.length - a) + (ts.length - b) ∧ SBInv H1 op qp tp lp xs ts m' σ' H', fun _ _ h => h, ?_⟩
    refine ⟨_, rfl, _, rfl, op, _, rfl, .inl (SqL.of hx3), _, _, rfl, rfl, _, rfl, itF (decide_eq_false (by omega)) (itF rfl ?_)⟩
    refine ⟨_, rfl, _, rfl, op, _, rfl, .inl (SqL.of hx3), _, _, rfl, rfl, _, rfl, itF (decide_eq_false (by omega)) (itF rfl ?_)⟩
    have hput : dI (xs.drop a) (ts.drop b) = 1 + dI (xs.drop a) (ts.drop (b + 1)) := by
      rw [show xs.drop a = [] from List.drop_eq_nil_iff.mpr (by omega), drop_at ey]
      exact dI_nil_cons y _
    refine ⟨_, rfl, .inl ⟨rfl, _, SqL.of e3⟩, _, rfl, _, rfl, qp, _, _, _, rfl, rfl, SqL.of ht3, strs_at ey, szOk rfl, fun q H4 g4 s4 e4 => ⟨lp, _, _, rfl, rfl, s4 _ _ e3, small6000 (by omega), ?_⟩⟩
    have nq : q ≠ lp := fun z => ne_of_none e3 g4 z.symm
    obtain ⟨k1, k2, k3⟩ := sb_put ht' hm' hc' ey hput
    exact ⟨_, rfl, _, _, rfl, rfl, (xs.length - a) + (ts.length - (b + 1)), by omega, sb_more (x := .put [y]) (a' := a) (b' := b + 1) s3 g2 s4 c3 ⟨y, q, rfl, rfl, by rw [del_ne nq]; exact e4⟩ (by omega) (by omega) (by omega) k1 k2 k3⟩
  · have ha := of_decide_eq_false (Bool.eq_false_iff.mpr ha)
    have hb := of_decide_eq_false (Bool.eq_false_iff.mpr hb)
    have ea : a = xs.length := by omega
    have eb : b = ts.length := by omega
    subst ea eb
    rw [List.drop_length, List.drop_length, dI_nil, List.length_nil] at hc'
    exact ⟨_, rfl, kk H3 lp us st (s1.trans s3) fl e3 (c3.same del_same) hl' ht' (by rw [hm', List.take_length]) (by omega)⟩
theorem ok_f_law_two (T : Txt K mg d tk) (gf_law_begun : FnOk P w K mg base CX0 1 d.f_law_begun d.f_law_begund ["_law_script", "_law_k"] (sp_f_law_begun K)) (gf_law_draw : FnOk P w K mg base CX0 1 d.f_law_draw d.f_law_drawd ["_law_state", "_law_many"] (sp_f_law_draw K)) (gf_law_menu : FnOk P w K mg base CX0 2 d.f_law_menu d.f_law_menud ["_law_script"] (sp_f_law_menu K)) (gf_law_near : FnOk P w K mg base CX0 2 d.f_law_near d.f_law_neard ["_law_script", "_law_k", "_law_menu_here", "_law_one"] (sp_f_law_near K)) (gf_law_texts : FnOk P w K mg base CX0 2 d.f_law_texts d.f_law_textsd ["_law_script", "_law_k", "_law_menu_here"] (sp_f_law_texts K)) : FnOk P w K mg base CX0 3 d.f_law_two d.f_law_twod ["_law_script"] (sp_f_law_two K) := by
  refine T.F_f_law_two.ok sc_f_law_two (fun vs H Q E h => len_f_law_two h) (fun cdv A outer s H vs Q E hr h => ?_)
  have hu : (A.deeper (envOfC "_law_two" (defScope s_f_law_two) s.heap.objs.size d.f_law_two cdv)).units < cLine := hr.units0
  refine ⟨_, (@pss_cons _ _ _ _ _ (@ps_set _ _ (1) _ _ _ _ sc_f_law_two.nd rfl (Or.inl rfl) (@pe_call _ _ _ _ _ _ _ _ _ _ _ _ _ _ _ _ gf_law_menu (hr.mono (by decide)) (by rfl) T.m_f_law_menu T.k_f_law_menu T.d_f_law_menu .nil pass0 (@pa_cons _ _ _ _ _ (@pv _ 0 _ _ rfl (Or.inl rfl) rfl rfl) (@pa_nil _) (by rfl)) (by decide) (by rfl) (by rfl)) (by rfl) (by first | exact .inl rfl | exact .inr rfl)) (@pss_cons _ _ _ _ _ (@ps_set _ _ (2) _ _ _ _ sc_f_law_two.nd rfl (Or.inl rfl) (@pe_call _ _ _ _ _ _ _ _ _ _ _ _ _ _ _ _ gf_law_texts (hr.mono (by decide)) (by rfl) T.m_f_law_texts T.k_f_law_texts T.d_f_law_texts .nil pass0 (@pa_cons _ _ _ _ _ (@pv _ 0 _ _ rfl (Or.inl rfl) rfl rfl) (@pa_cons _ _ _ _ _ (@pe_int _ _ _ _) (@pa_cons _ _ _ _ _ (@pv _ 1 _ _ rfl (Or.inl rfl) rfl rfl) (@pa_nil _) (by rfl)) (by rfl)) (by rfl)) (by decide) (by rfl) (by rfl)) (by rfl) (by first | exact .inl rfl | exact .inr rfl)) (@pss_cons _ _ _ _ _ (@ps_if _ _ _ _ _ _ _ _ (@pt_cmpR _ _ _ _ _ _ _ _ op_eq (@pe_call _ _ _ _ _ _ _ _ _ _ _ _ _ _ _ _ gf_law_draw (hr.mono (by decide)) (by rfl) T.m_f_law_draw T.k_f_law_draw T.d_f_law_draw .nil pass0 (@pa_cons _ _ _ _ _ (@pe_call _ _ _ _ _ _ _ _ _ _ _ _ _ _ _ _ gf_law_begun (hr.mono (by decide)) (by rfl) T.m_f_law_begun T.k_f_law_begun T.d_f_law_begun .nil pass0 (@pa_cons _ _ _ _ _ (@pv _ 0 _ _ rfl (Or.inl rfl) rfl rfl) (@pa_cons _ _ _ _ _ (@pe_int _ _ _ _) (@pa_nil _) (by rfl)) (by rfl)) (by decide) (by rfl) (by rfl)) (@pa_cons _ _ _ _ _ (@pe_int _ _ _ _) (@pa_nil _) (by rfl)) (by rfl)) (by decide) (by rfl) (by rfl)) (@pe_int _ _ _ _) (nomark _)) (@pss_one _ _ _ (@ps_ret _ _ _ _ (@pe_tupA _ _ _ _ _ (@pa_cons _ _ _ _ _ (@pv _ 2 _ _ rfl (Or.inl rfl) rfl rfl) (@pa_cons _ _ _ _ _ (@pe_call _ _ _ _ _ _ _ _ _ _ _ _ _ _ _ _ gf_law_near (hr.mono (by decide)) (by rfl) T.m_f_law_near T.k_f_law_near T.d_f_law_near .nil pass0 (@pa_cons _ _ _ _ _ (@pv _ 0 _ _ rfl (Or.inl rfl) rfl rfl) (@pa_cons _ _ _ _ _ (@pe_int _ _ _ _) (@pa_cons _ _ _ _ _ (@pv _ 1 _ _ rfl (Or.inl rfl) rfl rfl) (@pa_cons _ _ _ _ _ (@pv _ 2 _ _ rfl (Or.inl rfl) rfl rfl) (@pa_nil _) (by rfl)) (by rfl)) (by rfl)) (by rfl)) (by decide) (by rfl) (by rfl)) (@pa_nil _) (by rfl)) (by rfl))))) (@pss_nil _)) (@pss_one _ _ _ (@ps_ret _ _ _ _ (@pe_tupA _ _ _ _ _ (@pa_cons _ _ _ _ _ (@pv _ 2 _ _ rfl (Or.inl rfl) rfl rfl) (@pa_cons _ _ _ _ _ (@pe_call _ _ _ _ _ _ _ _ _ _ _ _ _ _ _ _ gf_law_texts (hr.mono (by decide)) (by rfl) T.m_f_law_texts T.k_f_law_texts T.d_f_law_texts .nil pass0 (@pa_cons _ _ _ _ _ (@pv _ 0 _ _ rfl (Or.inl rfl) rfl rfl) (@pa_cons _ _ _ _ _ (@pe_int _ _ _ _) (@pa_cons _ _ _ _ _ (@pv _ 1 _ _ rfl (Or.inl rfl) rfl rfl) (@pa_nil _) (by rfl)) (by rfl)) (by rfl)) (by decide) (by rfl) (by rfl)) (@pa_nil _) (by rfl)) (by rfl)))))))), ?_⟩
  obtain ⟨sp, ns, rfl, hs, kk⟩ := h
  refine ⟨_, rfl, sp, ns, rfl, hs, fun H1 mp ms s1 g1 t1 m0 m6 => ?_⟩
  refine ⟨_, rfl, _, rfl, sp, ns, mp, ms, 2, rfl, hs.same s1, by omega, t1, m0, m6, fun H2 op ts s2 g2 t2 hts => ?_⟩
  have s12 := s1.trans s2
  refine ⟨_, rfl, sp, ns, 4, rfl, hs.same s12, by omega, fun H3 p s3 g3 r3 => ?_⟩
  refine ⟨p, _, 3, rfl, r3, by omega, by omega, by omega, fun H4 r s4 r4 hr => ?_⟩
  have s24 : Same H2 H4 := (s3.cut g3).trans s4
  have s14 := s12.trans s24
  have tm := t1.same (s2.trans s24)
  have to := t2.same s24
  refine ⟨rfl, _, rfl, ite2 (fun _ => ?_) fun _ => ?_⟩
  · exact ⟨_, rfl, _, rfl, _, rfl, _, rfl, sp, ns, mp, ms, op, ts, 3, rfl, hs.same s14, by omega, tm, m0, m6, to, hts, fun H5 q zs s5 g5 t5 hz => ⟨szOk rfl, fun p6 H6 g6 s6 e6 => kk H6 p6 op q ts zs ((s14.trans s5).trans s6) e6 (to.same (s5.trans s6)) hts (t5.same s6) hz⟩⟩
  · exact ⟨_, rfl, _, rfl, _, rfl, sp, ns, mp, ms, 3, rfl, hs.same s14, by omega, tm, m0, m6, fun H5 q zs s5 g5 t5 hz => ⟨szOk rfl, fun p6 H6 g6 s6 e6 => kk H6 p6 op q ts zs ((s14.trans s5).trans s6) e6 (to.same (s5.trans s6)) hts (t5.same s6) (by omega)⟩⟩
theorem ok_f_law_tables (T : Txt K mg d tk) (gf_law_begun : FnOk P w K mg base CX0 1 d.f_law_begun d.f_law_begund ["_law_script", "_law_k"] (sp_f_law_begun K)) (gf_law_bent : FnOk P w K mg base CX0 2 d.f_law_bent d.f_law_bentd ["_law_state", "_law_rows"] (sp_f_law_bent K)) (gf_law_costs : FnOk P w K mg base CX0 1 d.f_law_costs d.f_law_costsd ["_law_one", "_law_other"] (sp_f_law_costs K)) (gf_law_free : FnOk P w K mg base CX0 2 d.f_law_free d.f_law_freed ["_law_state", "_law_one", "_law_other"] (sp_f_law_free K)) : FnOk P w K mg base CX0 3 d.f_law_tables d.f_law_tablesd ["_law_script", "_law_one", "_law_other"] (sp_f_law_tables K) := by
  refine T.F_f_law_tables.ok sc_f_law_tables (fun vs H Q E h => len_f_law_tables h) (fun cdv A outer s H vs Q E hr h => ?_)
  have hu : (A.deeper (envOfC "_law_tables" (defScope s_f_law_tables) s.heap.objs.size d.f_law_tables cdv)).units < cLine := hr.units0
  refine ⟨_, (@pss_cons _ _ _ _ _ (@ps_set _ _ (3) _ _ _ _ sc_f_law_tables.nd rfl (Or.inl rfl) (@pe_call _ _ _ _ _ _ _ _ _ _ _ _ _ _ _ _ gf_law_costs (hr.mono (by decide)) (by rfl) T.m_f_law_costs T.k_f_law_costs T.d_f_law_costs .nil pass0 (@pa_cons _ _ _ _ _ (@pv _ 1 _ _ rfl (Or.inl rfl) rfl rfl) (@pa_cons _ _ _ _ _ (@pv _ 2 _ _ rfl (Or.inl rfl) rfl rfl) (@pa_nil _) (by rfl)) (by rfl)) (by decide) (by rfl) (by rfl)) (by rfl) (by first | exact .inl rfl | exact .inr rfl)) (@pss_cons _ _ _ _ _ (@ps_set _ _ (4) _ _ _ _ sc_f_law_tables.nd rfl (Or.inl rfl) (@pe_call _ _ _ _ _ _ _ _ _ _ _ _ _ _ _ _ gf_law_begun (hr.mono (by decide)) (by rfl) T.m_f_law_begun T.k_f_law_begun T.d_f_law_begun .nil pass0 (@pa_cons _ _ _ _ _ (@pv _ 0 _ _ rfl (Or.inl rfl) rfl rfl) (@pa_cons _ _ _ _ _ (@pe_int _ _ _ _) (@pa_nil _) (by rfl)) (by rfl)) (by decide) (by rfl) (by rfl)) (by rfl) (by first | exact .inl rfl | exact .inr rfl)) (@pss_cons _ _ _ _ _ (@ps_set _ _ (5) _ _ _ _ sc_f_law_tables.nd rfl (Or.inl rfl) (@pe_lstA _ _ _ _ (@pa_cons _ _ _ _ _ (@pv _ 3 _ _ rfl (Or.inl rfl) rfl rfl) (@pa_cons _ _ _ _ _ (@pe_lcomp _ _ _ _ _ _ _ (["_law_row"]) ([]) _ _ _ _ _ rfl (@pi_list _ _ _ _ (@pv _ 3 _ _ rfl (Or.inl rfl) rfl rfl)) ⟨rfl, by decide +kernel, by decide +kernel⟩ (caps0 (by decide +kernel)) (fun _ _ _ => (@pg_name _ _ (0) _ (by show List.Nodup (["_law_row"] : List Str); decide +kernel) rfl (Or.inl rfl) (by first | exact .inl rfl | exact .inr rfl))) (fun _ => fresh_name rfl) (fun _ _ _ => (@pts_nil _)) (fun _ _ _ => (@pe_op _ _ _ _ _ _ _ _ op_repA (@pe_lstA _ _ _ _ (@pa_cons _ _ _ _ _ (@pe_int _ _ _ _) (@pa_nil _) (by rfl))) (@pe_callB _ _ _ _ _ _ _ _ _ (call_len_seqK (K := K) rfl) (by rfl) T.b_len boot_len (@pa_cons _ _ _ _ _ (@pv _ 0 _ _ rfl (Or.inl rfl) rfl rfl) (@pa_nil _) (by rfl)) (by decide) (by decide) (by rfl) (by rfl)))) (by intro _; rfl)) (@pa_cons _ _ _ _ _ (@pe_lcomp _ _ _ _ _ _ _ (["_law_row"]) ([]) _ _ _ _ _ rfl (@pi_list _ _ _ _ (@pv _ 3 _ _ rfl (Or.inl rfl) rfl rfl)) ⟨rfl, by decide +kernel, by decide +kernel⟩ (caps0 (by decide +kernel)) (fun _ _ _ => (@pg_name _ _ (0) _ (by show List.Nodup (["_law_row"] : List Str); decide +kernel) rfl (Or.inl rfl) (by first | exact .inl rfl | exact .inr rfl))) (fun _ => fresh_name rfl) (fun _ _ _ => (@pts_nil _)) (fun _ _ _ => (@pe_lcomp _ _ _ _ _ _ _ (["_law_number"]) ([]) _ _ _ _ _ rfl (@pi_listK _ (K) _ _ _ rfl (@pv _ 0 _ _ rfl (Or.inl rfl) rfl rfl)) ⟨rfl, by decide +kernel, by decide +kernel⟩ (caps0 (by decide +kernel)) (fun _ _ _ => (@pg_name _ _ (0) _ (by show List.Nodup (["_law_number"] : List Str); decide +kernel) rfl (Or.inl rfl) (by first | exact .inl rfl | exact .inr rfl))) (fun _ => fresh_name rfl) (fun _ _ _ => (@pts_nil _)) (fun _ _ _ => (@pe_op _ _ _ _ _ _ _ _ op_fdiv (@pv _ 0 _ _ rfl (Or.inl rfl) rfl rfl) (@pe_int _ _ _ _))) (by intro _; rfl))) (by intro _; rfl)) (@pa_nil _) (by rfl)) (by rfl)) (by rfl))) (by rfl) (by first | exact .inl rfl | exact .inr rfl)) (@pss_cons _ _ _ _ _ (@ps_expr _ _ _ _ (@pe_bm _ _ _ _ _ _ _ _ _ _ _ _ PySem.F.plainAttrs_list PySem.F.slot_list_append PySem.F.type_list_append mt_append (@pv _ 5 _ _ rfl (Or.inl rfl) rfl rfl) (@pa_cons _ _ _ _ _ (@pe_lcomp _ _ _ _ _ _ _ (["_law_row"]) ([]) _ _ _ _ _ rfl (@pi_list _ _ _ _ (@pv _ 3 _ _ rfl (Or.inl rfl) rfl rfl)) ⟨rfl, by decide +kernel, by decide +kernel⟩ (caps0 (by decide +kernel)) (fun _ _ _ => (@pg_name _ _ (0) _ (by show List.Nodup (["_law_row"] : List Str); decide +kernel) rfl (Or.inl rfl) (by first | exact .inl rfl | exact .inr rfl))) (fun _ => fresh_name rfl) (fun _ _ _ => (@pts_nil _)) (fun _ _ _ => (@pe_lcomp _ _ _ _ _ _ _ (["_law_number"]) ([]) _ _ _ _ _ rfl (@pi_listK _ (K) _ _ _ rfl (@pv _ 0 _ _ rfl (Or.inl rfl) rfl rfl)) ⟨rfl, by decide +kernel, by decide +kernel⟩ (caps0 (by decide +kernel)) (fun _ _ _ => (@pg_name _ _ (0) _ (by show List.Nodup (["_law_number"] : List Str); decide +kernel) rfl (Or.inl rfl) (by first | exact .inl rfl | exact .inr rfl))) (fun _ => fresh_name rfl) (fun _ _ _ => (@pts_nil _)) (fun _ _ _ => (@pe_op _ _ _ _ _ _ _ _ op_sub (@pe_int _ _ _ _) (@pv _ 0 _ _ rfl (Or.inl rfl) rfl rfl))) (by intro _; rfl))) (by intro _; rfl)) (@pa_nil _) (by rfl)) (by rfl) (by rfl) (by rfl) (by rfl) (by rfl)) (by rfl)) (@pss_cons _ _ _ _ _ (@ps_for _ _ _ _ _ _ _ _ PassesOwn.never rfl (@pi_range1 _ _ _ _ _ _ (by rfl) T.b_range (@pa_cons _ _ _ _ _ (@pe_int _ _ _ _) (@pa_nil _) (by rfl)) (by rfl)) (@pg_name _ _ (6) _ sc_f_law_tables.nd rfl (Or.inl rfl) (by first | exact .inl rfl | exact .inr rfl)) (@pss_one _ _ _ (@ps_expr _ _ _ _ (@pe_bm _ _ _ _ _ _ _ _ _ _ _ _ PySem.F.plainAttrs_list PySem.F.slot_list_append PySem.F.type_list_append mt_append (@pv _ 5 _ _ rfl (Or.inl rfl) rfl rfl) (@pa_cons _ _ _ _ _ (@pe_call _ _ _ _ _ _ _ _ _ _ _ _ _ _ _ _ gf_law_bent (hr.mono (by decide)) (by rfl) T.m_f_law_bent T.k_f_law_bent T.d_f_law_bent .nil pass0 (@pa_cons _ _ _ _ _ (@pv _ 4 _ _ rfl (Or.inl rfl) rfl rfl) (@pa_cons _ _ _ _ _ (@pv _ 3 _ _ rfl (Or.inl rfl) rfl rfl) (@pa_nil _) (by rfl)) (by rfl)) (by decide) (by rfl) (by rfl)) (@pa_nil _) (by rfl)) (by rfl) (by rfl) (by rfl) (by rfl) (by rfl)) (by rfl))) (by intro _; rfl)) (@pss_cons _ _ _ _ _ (@ps_expr _ _ _ _ (@pe_bm _ _ _ _ _ _ _ _ _ _ _ _ PySem.F.plainAttrs_list PySem.F.slot_list_append PySem.F.type_list_append mt_append (@pv _ 5 _ _ rfl (Or.inl rfl) rfl rfl) (@pa_cons _ _ _ _ _ (@pe_call _ _ _ _ _ _ _ _ _ _ _ _ _ _ _ _ gf_law_free (hr.mono (by decide)) (by rfl) T.m_f_law_free T.k_f_law_free T.d_f_law_free .nil pass0 (@pa_cons _ _ _ _ _ (@pv _ 4 _ _ rfl (Or.inl rfl) rfl rfl) (@pa_cons _ _ _ _ _ (@pv _ 1 _ _ rfl (Or.inl rfl) rfl rfl) (@pa_cons _ _ _ _ _ (@pv _ 2 _ _ rfl (Or.inl rfl) rfl rfl) (@pa_nil _) (by rfl)) (by rfl)) (by rfl)) (by decide) (by rfl) (by rfl)) (@pa_nil _) (by rfl)) (by rfl) (by rfl) (by rfl) (by rfl) (by rfl)) (by rfl)) (@pss_one _ _ _ (@ps_ret _ _ _ _ (@pv _ 5 _ _ rfl (Or.inl rfl) rfl rfl))))))))), ?_⟩
  obtain ⟨sp, op, qp, ns, xs, ts, rfl, hs, hx, ht, hxl, htl, kk⟩ := h
  refine ⟨_, rfl, _, rfl, op, qp, xs, ts, rfl, hx, ht, hxl, htl, fun H1 p rs R s1 tt hR hrow => ?_⟩
  refine ⟨_, rfl, sp, ns, 62, rfl, hs.same s1, by omega, fun H2 d s2 g2 r2 => ?_⟩
  have tt2 : TT2 H2 p rs R := tt.same s2
  have hlr : (rs.map V.ref).length = R.length := by rw [List.length_map, tt.len]
  have few := tt.few
  have s02 := s1.trans s2
  have fd : H d = none := s1.free g2
  have ed2 := r2.some
  have nd : ∀ {x : Addr}, H2 x = none → x ≠ d := fun h z => r2.ne h z.symm
  refine ⟨_, rfl, _, rfl, p, rfl, ⟨_, SqL.of (tt2).at'⟩, lc_any (xs := rs.map V.ref) (big (by omega)) (Mk H2) (mk_nil _) (fun _ _ H' m => by obtain ⟨_, _, _, q', _⟩ := m; exact SqL.of (q' _ _ (tt2).at')) (fun j x ys H' K1 K0 hxj m k1 k0 => ?_) fun Ha qa ysa ma _ hqa => ?_⟩
  · have sX : Same H2 H' := by obtain ⟨_, _, _, q', _⟩ := m; exact q'
    obtain ⟨r, z, rfl, e1, e2, e3⟩ := (tt2.same sX).at_i hxj
    have lz := hrow z (List.mem_of_getElem? e2)
    refine iteT (B := K0 H') ?_
    have hzl : (z.map V.int).length = z.length := List.length_map ..
    refine ⟨szOk rfl, fun w1 H4 g4 s4 e4 => ⟨_, rfl, r, _, rfl, .inl (SqL.of (s4 _ _ e3)), w1, _, _, rfl, rfl, e4, by omega, by omega, big (by rw [List.length_singleton, List.length_map]; omega), fun l H5 g5 s5 e5 => ?_⟩⟩
    rw [rep_ints] at e5
    exact k1 _ _ (mk_more m (s4.trans s5) (s4.free g5) e5 (by rw [List.length_replicate, List.length_map]; omega))
  obtain ⟨ra, sa, wa, na, fa⟩ := mk_end ma (by omega) hqa
  obtain ⟨H3, hH3⟩ : ∃ H3, H3 = L2.upd Ha qa (.lst ysa) := ⟨_, rfl⟩
  rw [← hH3] at sa wa
  rw [← hH3]
  have tt3 : TT2 H3 p rs R := tt2.same sa
  refine ⟨_, rfl, p, rfl, ⟨_, SqL.of (tt3).at'⟩, lc_any (xs := rs.map V.ref) (big (by omega)) (Mk H3) (mk_nil _) (fun _ _ H' m => by obtain ⟨_, _, _, q', _⟩ := m; exact SqL.of (q' _ _ (tt3).at')) (fun j x ys H' K1 K0 hxj m k1 k0 => ?_) fun Hb qb ysb mb _ hqb => ?_⟩
  · have sX : Same H3 H' := by obtain ⟨_, _, _, q', _⟩ := m; exact q'
    obtain ⟨r, z, rfl, e1, e2, e3⟩ := (tt3.same sX).at_i hxj
    have lz := hrow z (List.mem_of_getElem? e2)
    refine iteT (B := K0 H') ?_
    refine ⟨_, rfl, r, rfl, ⟨_, SqL.of e3⟩, lc_any (xs := z.map V.int) (big (by rw [List.length_map]; omega)) (fun i ys H'' => (∃ zs : List Int, ys = zs.map V.int ∧ zs.length = i) ∧ H'' = H') ⟨⟨[], rfl, rfl⟩, rfl⟩ (fun _ _ H'' q' => by rw [q'.2]; exact SqL.of e3) (fun j' x' ys' H'' K1' K0' hxj' qq' k1' k0' => ?_) fun H'' qm ys' P' _ hqm => ?_⟩
    · obtain ⟨⟨zs, rfl, hzs⟩, rfl⟩ := qq'
      obtain ⟨nb, _, rfl⟩ := List.mem_map.mp (List.mem_of_getElem? hxj')
      refine iteT (B := K0' H'') ?_
      exact ⟨_, rfl, _, _, rfl, rfl, ⟨by decide, by decide⟩, k1' _ _ ⟨⟨zs ++ [_], by rw [List.map_append]; rfl, by rw [List.length_append, List.length_singleton, hzs]⟩, rfl⟩⟩
    · obtain ⟨⟨zs, rfl, hzs⟩, rfl⟩ := P'
      rw [List.length_map] at hzs
      exact k1 _ _ (mk_more m (Same.new hqm) hqm upd_same (by omega))
  obtain ⟨rb, sb, wb, nb, fb⟩ := mk_end mb (by omega) hqb
  obtain ⟨H4, hH4⟩ : ∃ H4, H4 = L2.upd Hb qb (.lst ysb) := ⟨_, rfl⟩
  rw [← hH4] at sb wb
  rw [← hH4]
  refine ⟨szOk rfl, fun fp H5 g5 s5 e5 => ?_⟩
  have s24 := sa.trans sb
  have s25 := s24.trans s5
  have ffp : H fp = none := (s02.trans s24).free g5
  have nfd : fp ≠ d := fun z => by
    obtain ⟨u, e⟩ := ed2
    rw [z, s24 _ _ e] at g5
    cases g5
  have tt5 : TT2 H5 p rs R := tt2.same s25
  have c45 : Same (L2.del H4 d) (dd H5 d fp) := s5.cuts.cut (del_free g5)
  have wp5 : TW (dd H5 d fp) p rs := (TT2.tw (tt.same (s2.cut g2)) few tt.fewr).same ((s24.cuts).trans c45)
  have tp5 : TT2 (dd H5 d fp) p rs R := (tt.same (s2.cut g2)).same ((s24.cuts).trans c45)
  have wa5 : TW (dd H5 d fp) qa ra := (tw_del wa (nd na) (fun r hr => nd (fa r hr))).same (sb.cuts.trans c45)
  have wb5 : TW (dd H5 d fp) qb rb := (tw_del wb (nd (sa.free nb)) (fun r hr => nd (sa.free (fb r hr)))).same c45
  refine ⟨_, rfl, .inl ⟨rfl, _, SqL.of e5⟩, _, rfl, p, rfl, ⟨_, SqL.of (tt5).at'⟩, lc_any (xs := rs.map V.ref) (big (by omega)) (Mk H5) (mk_nil _) (fun _ _ H' m => by obtain ⟨_, _, _, q', _⟩ := m; exact SqL.of (q' _ _ (tt5).at')) (fun j x ys H' K1 K0 hxj m k1 k0 => ?_) fun Hc qc ysc mc _ hqc => ?_⟩
  · have sX : Same H5 H' := by obtain ⟨_, _, _, q', _⟩ := m; exact q'
    obtain ⟨r, z, rfl, e1, e2, e3⟩ := (tt5.same sX).at_i hxj
    have lz := hrow z (List.mem_of_getElem? e2)
    refine iteT (B := K0 H') ?_
    refine ⟨_, rfl, r, rfl, ⟨_, SqL.of e3⟩, lc_any (xs := z.map V.int) (big (by rw [List.length_map]; omega)) (fun i ys H'' => (∃ zs : List Int, ys = zs.map V.int ∧ zs.length = i) ∧ H'' = H') ⟨⟨[], rfl, rfl⟩, rfl⟩ (fun _ _ H'' q' => by rw [q'.2]; exact SqL.of e3) (fun j' x' ys' H'' K1' K0' hxj' qq' k1' k0' => ?_) fun H'' qm ys' P' _ hqm => ?_⟩
    · obtain ⟨⟨zs, rfl, hzs⟩, rfl⟩ := qq'
      obtain ⟨nb, _, rfl⟩ := List.mem_map.mp (List.mem_of_getElem? hxj')
      refine iteT (B := K0' H'') ?_
      exact ⟨_, rfl, _, _, rfl, rfl, k1' _ _ ⟨⟨zs ++ [_], by rw [List.map_append]; rfl, by rw [List.length_append, List.length_singleton, hzs]⟩, rfl⟩⟩
    · obtain ⟨⟨zs, rfl, hzs⟩, rfl⟩ := P'
      rw [List.length_map] at hzs
      exact k1 _ _ (mk_more m (Same.new hqm) hqm upd_same (by omega))
  obtain ⟨rc, sc, wc, nc, fc⟩ := mk_end mc (by omega) hqc
  obtain ⟨H6, hH6⟩ : ∃ H6, H6 = L2.upd Hc qc (.lst ysc) := ⟨_, rfl⟩
  rw [← hH6] at sc wc
  rw [← hH6]
  refine ⟨fp, _, _, rfl, rfl, sc _ _ e5, small1000 (by show 3 ≤ 1000; decide), ?_⟩
  have c56 : Same (dd H5 d fp) (dd H6 d fp) := sc.cuts.cuts
  have n5 : ∀ {x : Addr}, H5 x = none → x ≠ d ∧ x ≠ fp := fun h => ⟨nd (s25.free h), fun z => ne_of_none e5 h z.symm⟩
  have wc6 : TW (dd H6 d fp) qc rc := tw_del (tw_del wc (n5 nc).1 (fun r hr => (n5 (fc r hr)).1)) (n5 nc).2 (fun r hr => (n5 (fc r hr)).2)
  have us4 : ∀ v ∈ [V.ref p, V.ref qa, V.ref qb] ++ [V.ref qc], Tb (L2.upd H6 fp (.lst ([V.ref p, V.ref qa, V.ref qb] ++ [V.ref qc]))) d fp v := fun v hv => by
    simp only [List.cons_append, List.nil_append, List.mem_cons, List.not_mem_nil, or_false] at hv
    rcases hv with rfl | rfl | rfl | rfl
    · exact ⟨p, rs, rfl, (wp5.same c56).same dd_upd⟩
    · exact ⟨qa, ra, rfl, (wa5.same c56).same dd_upd⟩
    · exact ⟨qb, rb, rfl, (wb5.same c56).same dd_upd⟩
    · exact ⟨qc, rc, rfl, wc6.same dd_upd⟩
  have s26 := s25.trans sc
  refine ⟨_, rfl, by decide, by decide, for_range (n := (6 : Int).toNat) (fun i σ H7 => ∃ (us : List V) (u6 : Option V), σ = [some (.ref sp), some (.ref op), some (.ref qp), some (.ref p), some (.ref d), some (.ref fp), u6] ∧ Same H H7 ∧ SR H7 d (3 * i) ∧ TT2 (dd H7 d fp) p rs R ∧ H7 fp = some (.lst us) ∧ us.length = 4 + i ∧ ∀ v ∈ us, Tb H7 d fp v)
    ⟨_, none, rfl, (s02.trans s26).wr ffp, (r2.same s26).upd nfd.symm, (tp5.same c56).same dd_upd, upd_same, rfl, us4⟩ ?_ ?_⟩
  · rintro i σ H7 hi ⟨us, u6, rfl, s7, q7, t7, e7, l7, b7⟩
    have hi6 : i < 6 := hi
    refine ⟨_, rfl, .inl ⟨rfl, _, SqL.of e7⟩, _, rfl, _, rfl, d, p, _, rs, R, rfl, q7, by omega, t7.same del_same, by omega, by omega, ⟨ts.length + 1, by omega, by omega, hrow⟩, fun H8 q8 rs8 R8 s8 r8 t8 f8 g8 => ?_⟩
    have e8 : H8 fp = some (.lst us) := s8 _ _ (by rw [del_ne nfd]; exact e7)
    refine ⟨fp, _, _, rfl, rfl, e8, small1000 (by omega), ?_⟩
    have c78 : Same (dd H7 d fp) (dd H8 d fp) := (s8.cut del_at).cuts
    have efp : (L2.del H7 d) fp = some (.lst us) := by rw [del_ne nfd]; exact e7
    have w8 : TW (dd H8 d fp) q8 rs8 := tw_del (TT2.tw t8 t8.few t8.fewr) (fun z => ne_of_none efp f8 z.symm) (fun r hr z => ne_of_none efp (g8 r hr) z.symm)
    refine ⟨us ++ [.ref q8], _, rfl, ((s7.cut fd).trans s8).wr ffp, (r8.more (by omega)).upd nfd.symm, (t7.same c78).same dd_upd, upd_same, by rw [List.length_append, List.length_singleton]; omega, fun v hv => ?_⟩
    rcases List.mem_append.mp hv with h | h
    · exact ((b7 v h).same c78).same dd_upd
    · rw [List.mem_singleton.mp h]; exact ⟨q8, rs8, rfl, w8.same dd_upd⟩
  · rintro σ H7 ⟨us, u6, rfl, s7, q7, t7, e7, l7, b7⟩
    have q7 : SR H7 d 18 := q7
    have l7 : us.length = 10 := l7
    have nop : op ≠ d := ne_of_none hx fd
    have nqp : qp ≠ d := ne_of_none ht fd
    refine ⟨_, rfl, .inl ⟨rfl, _, SqL.of e7⟩, _, rfl, _, rfl, _, rfl, d, op, qp, 18, xs, ts, rfl, q7, by omega, by rw [del_ne nop]; exact s7 _ _ hx, by rw [del_ne nqp]; exact s7 _ _ ht, hxl, htl, fun H8 q8 rs8 R8 s8 t8 f8 g8 => ?_⟩
    have e8 : H8 fp = some (.lst us) := s8 _ _ (by rw [del_ne nfd]; exact e7)
    refine ⟨fp, _, _, rfl, rfl, e8, small1000 (by omega), ?_⟩
    have c78 : Same (dd H7 d fp) (dd H8 d fp) := (s8.cut del_at).cuts
    have efp : (L2.del H7 d) fp = some (.lst us) := by rw [del_ne nfd]; exact e7
    have w8 : TW (dd H8 d fp) q8 rs8 := tw_del (TT2.tw t8 t8.few t8.fewr) (fun z => ne_of_none efp f8 z.symm) (fun r hr z => ne_of_none efp (g8 r hr) z.symm)
    refine ⟨_, rfl, kk _ fp (us ++ [.ref q8]) (((s7.cut fd).trans s8).wr ffp) upd_same (by rw [List.length_append, List.length_singleton]; omega) fun v hv => ?_⟩
    have fin : Tb (L2.upd H8 fp (.lst (us ++ [.ref q8]))) d fp v := by
      rcases List.mem_append.mp hv with h | h
      · exact ((b7 v h).same c78).same dd_upd
      · rw [List.mem_singleton.mp h]; exact ⟨q8, rs8, rfl, w8.same dd_upd⟩
    obtain ⟨q, rx, rfl, tw⟩ := fin
    obtain ⟨R', hR'⟩ := (tw.same (del_same.trans del_same)).tt
    exact ⟨q, rx, R', rfl, hR'⟩
theorem ok_fleast_change (T : Txt K mg d tk) (gfalike_ahead : FnOk P w K mg base CX0 1 d.falike_ahead d.falike_aheadd ["one", "other"] (sp_falike_ahead K)) (gfjoined : FnOk P w K mg base CX0 2 d.fjoined d.fjoinedd ["steps"] (sp_fjoined K)) (gfsteps_between : FnOk P w K mg base CX0 3 d.fsteps_between d.fsteps_betweend ["one", "other"] (sp_fsteps_between K)) : FnOk P w K mg base CX0 4 d.fleast_change d.fleast_changed ["one", "other"] (sp_fleast_change K) := by
  refine T.F_fleast_change.ok sc_fleast_change (fun vs H Q E h => len_fleast_change h) (fun cdv A outer s H vs Q E hr h => ?_)
  have hu : (A.deeper (envOfC "least_change" (defScope s_fleast_change) s.heap.objs.size d.fleast_change cdv)).units < cLine := hr.units0
  refine ⟨_, (@pss_cons _ _ _ _ _ (@ps_set _ _ (2) _ _ _ _ sc_fleast_change.nd rfl (Or.inl rfl) (@pe_call _ _ _ _ _ _ _ _ _ _ _ _ _ _ _ _ gfalike_ahead (hr.mono (by decide)) (by rfl) T.m_falike_ahead T.k_falike_ahead T.d_falike_ahead .nil pass0 (@pa_cons _ _ _ _ _ (@pv _ 0 _ _ rfl (Or.inl rfl) rfl rfl) (@pa_cons _ _ _ _ _ (@pv _ 1 _ _ rfl (Or.inl rfl) rfl rfl) (@pa_nil _) (by rfl)) (by rfl)) (by decide) (by rfl) (by rfl)) (by rfl) (by first | exact .inl rfl | exact .inr rfl)) (@pss_cons _ _ _ _ _ (@ps_set _ _ (3) _ _ _ _ sc_fleast_change.nd rfl (Or.inl rfl) (@pe_call _ _ _ _ _ _ _ _ _ _ _ _ _ _ _ _ gfalike_ahead (hr.mono (by decide)) (by rfl) T.m_falike_ahead T.k_falike_ahead T.d_falike_ahead .nil pass0 (@pa_cons _ _ _ _ _ (@pe_revL _ _ _ _ _ _ _ (@pe_slice _ _ _ _ _ _ _ _ _ _ sl_listA (@pv _ 0 _ _ rfl (Or.inl rfl) rfl rfl) (@po_some _ _ _ (@pv _ 2 _ _ rfl (Or.inl rfl) rfl rfl)) (@po_none _)) (@po_some _ _ _ (@pe_un _ _ _ _ _ _ un_neg (@pe_int _ _ _ _)))) (@pa_cons _ _ _ _ _ (@pe_revL _ _ _ _ _ _ _ (@pe_slice _ _ _ _ _ _ _ _ _ _ sl_listA (@pv _ 1 _ _ rfl (Or.inl rfl) rfl rfl) (@po_some _ _ _ (@pv _ 2 _ _ rfl (Or.inl rfl) rfl rfl)) (@po_none _)) (@po_some _ _ _ (@pe_un _ _ _ _ _ _ un_neg (@pe_int _ _ _ _)))) (@pa_nil _) (by rfl)) (by rfl)) (by decide) (by rfl) (by rfl)) (by rfl) (by first | exact .inl rfl | exact .inr rfl)) (@pss_cons _ _ _ _ _ (@ps_set _ _ (4) _ _ _ _ sc_fleast_change.nd rfl (Or.inl rfl) (@pe_call _ _ _ _ _ _ _ _ _ _ _ _ _ _ _ _ gfsteps_between (hr.mono (by decide)) (by rfl) T.m_fsteps_between T.k_fsteps_between T.d_fsteps_between .nil pass0 (@pa_cons _ _ _ _ _ (@pe_slice _ _ _ _ _ _ _ _ _ _ sl_listA (@pv _ 0 _ _ rfl (Or.inl rfl) rfl rfl) (@po_some _ _ _ (@pv _ 2 _ _ rfl (Or.inl rfl) rfl rfl)) (@po_some _ _ _ (@pe_op _ _ _ _ _ _ _ _ op_sub (@pe_callB _ _ _ _ _ _ _ _ _ call_len_seq (by rfl) T.b_len boot_len (@pa_cons _ _ _ _ _ (@pv _ 0 _ _ rfl (Or.inl rfl) rfl rfl) (@pa_nil _) (by rfl)) (by decide) (by decide) (by rfl) (by rfl)) (@pv _ 3 _ _ rfl (Or.inl rfl) rfl rfl)))) (@pa_cons _ _ _ _ _ (@pe_slice _ _ _ _ _ _ _ _ _ _ sl_listA (@pv _ 1 _ _ rfl (Or.inl rfl) rfl rfl) (@po_some _ _ _ (@pv _ 2 _ _ rfl (Or.inl rfl) rfl rfl)) (@po_some _ _ _ (@pe_op _ _ _ _ _ _ _ _ op_sub (@pe_callB _ _ _ _ _ _ _ _ _ call_len_seq (by rfl) T.b_len boot_len (@pa_cons _ _ _ _ _ (@pv _ 1 _ _ rfl (Or.inl rfl) rfl rfl) (@pa_nil _) (by rfl)) (by decide) (by decide) (by rfl) (by rfl)) (@pv _ 3 _ _ rfl (Or.inl rfl) rfl rfl)))) (@pa_nil _) (by rfl)) (by rfl)) (by decide) (by rfl) (by rfl)) (by rfl) (by first | exact .inl rfl | exact .inr rfl)) (@pss_one _ _ _ (@ps_ret _ _ _ _ (@pe_call _ _ _ _ _ _ _ _ _ _ _ _ _ _ _ _ gfjoined (hr.mono (by decide)) (by rfl) T.m_fjoined T.k_fjoined T.d_fjoined .nil pass0 (@pa_cons _ _ _ _ _ (@pe_op _ _ _ _ _ _ _ _ op_catA (@pe_op _ _ _ _ _ _ _ _ op_catA (@pe_op _ _ _ _ _ _ _ _ op_repA (@pe_lstA _ _ _ _ (@pa_cons _ _ _ _ _ (@pe_tupA _ _ _ _ _ (@pa_cons _ _ _ _ _ (@pe_str _ _ _ _) (@pa_cons _ _ _ _ _ (@pe_str _ _ _ _) (@pa_nil _) (by rfl)) (by rfl))) (@pa_nil _) (by rfl))) (@pv _ 2 _ _ rfl (Or.inl rfl) rfl rfl)) (@pv _ 4 _ _ rfl (Or.inl rfl) rfl rfl)) (@pe_op _ _ _ _ _ _ _ _ op_repA (@pe_lstA _ _ _ _ (@pa_cons _ _ _ _ _ (@pe_tupA _ _ _ _ _ (@pa_cons _ _ _ _ _ (@pe_str _ _ _ _) (@pa_cons _ _ _ _ _ (@pe_str _ _ _ _) (@pa_nil _) (by rfl)) (by rfl))) (@pa_nil _) (by rfl))) (@pv _ 3 _ _ rfl (Or.inl rfl) rfl rfl))) (@pa_nil _) (by rfl)) (by decide) (by rfl) (by rfl))))))), ?_⟩
  obtain ⟨op, qp, xs, ts, rfl, hx, ht, hxl, htl, kk⟩ := h
  have hlx : (xs.map V.str).length = xs.length := List.length_map ..
  have hlt : (ts.map V.str).length = ts.length := List.length_map ..
  refine ⟨_, rfl, _, rfl, op, qp, xs, ts, rfl, hx, ht, fun n n1 n2 n3 => ?_⟩
  refine ⟨_, rfl, _, rfl, _, rfl, op, _, rfl, SqL.of hx, fun a1 H1 g1 s1 e1 => ?_⟩
  refine ⟨_, rfl, _, rfl, rfl, a1, _, rfl, SqL.of e1, fun a2 H2 g2 s2 e2 => ?_⟩
  have s02 := s1.trans s2
  refine ⟨_, rfl, _, rfl, _, rfl, qp, _, rfl, SqL.of (s02 _ _ ht), fun b1 H3 g3 s3 e3 => ?_⟩
  refine ⟨_, rfl, _, rfl, rfl, b1, _, rfl, SqL.of e3, fun b2 H4 g4 s4 e4 => ?_⟩
  rw [cut_from, ← List.map_reverse] at e2 e4
  have s24 := s3.trans s4
  have s04 := s02.trans s24
  refine ⟨a2, b2, (xs.drop n).reverse, (ts.drop n).reverse, rfl, s24 _ _ e2, e4, fun k k1 k2 k3 => ?_⟩
  obtain ⟨p, sf, lp, ls, ex, et⟩ := ends_of n1 n2 n3 k1 k2 k3
  rw [List.length_reverse, List.length_drop] at k1 k2
  refine ⟨_, rfl, _, rfl, _, rfl, _, rfl, op, _, rfl, .inl (SqL.of (s04 _ _ hx)), _, rfl, _, _, rfl, rfl, _, rfl, op, _, rfl, SqL.of (s04 _ _ hx), fun c1 H5 g5 s5 e5 => ?_⟩
  have s05 := s04.trans s5
  refine ⟨_, rfl, _, rfl, _, rfl, _, rfl, qp, _, rfl, .inl (SqL.of (s05 _ _ ht)), _, rfl, _, _, rfl, rfl, _, rfl, qp, _, rfl, SqL.of (s05 _ _ ht), fun d1 H6 g6 s6 e6 => ?_⟩
  rw [show ((xs.map V.str).length : Int) - (k : Int) = (n : Int) + ((xs.length - k - n : Nat) : Int) from by omega, cut_strs] at e5
  rw [show ((ts.map V.str).length : Int) - (k : Int) = (n : Int) + ((ts.length - k - n : Nat) : Int) from by omega, cut_strs] at e6
  generalize hxm : (xs.drop n).take (xs.length - k - n) = xm at e5 ex
  generalize htm : (ts.drop n).take (ts.length - k - n) = tm at e6 et
  have lxm : xs.length = n + (xm.length + k) := by have := congrArg List.length ex; rw [List.length_append, List.length_append] at this; omega
  have ltm : ts.length = n + (tm.length + k) := by have := congrArg List.length et; rw [List.length_append, List.length_append] at this; omega
  refine ⟨c1, d1, xm, tm, rfl, s6 _ _ e5, e6, by omega, by omega, fun H7 sp us st s7 g7 e7 c7 l7 t7 m7 q7 => ?_⟩
  have lus : us.length ≤ 2400 := by rw [c7.len]; omega
  refine ⟨szOk rfl, fun q1 H8 g8 s8 e8 => ⟨szOk rfl, fun l1 H9 g9 s9 e9 => ?_⟩⟩
  have fl : ∀ (m : Nat) (v : V), (List.replicate m [v]).flatten.length = m := fun m v => by rw [List.flatten_replicate_singleton, List.length_replicate]
  refine ⟨_, rfl, l1, _, _, rfl, rfl, e9, by omega, by omega, big6000 (by show 1 * n ≤ 6000; omega), fun l2 HA gA sA eA => ?_⟩
  have s7A := s8.trans (s9.trans sA)
  refine ⟨_, rfl, l2, sp, _, _, rfl, rfl, eA, s7A _ _ e7, big6000 (by show (List.replicate n [V.ref q1]).flatten.length + _ ≤ _; rw [fl]; omega), fun l3 HB gB sB eB => ?_⟩
  refine ⟨szOk rfl, fun q2 HC gC sC eC => ⟨szOk rfl, fun l4 HD gD sD eD => ?_⟩⟩
  refine ⟨_, rfl, l4, _, _, rfl, rfl, eD, by omega, by omega, big6000 (by show 1 * k ≤ 6000; omega), fun l5 HE gE sE eE => ?_⟩
  have sBE := sC.trans (sD.trans sE)
  refine ⟨l3, l5, _, _, rfl, rfl, sBE _ _ eB, eE, big6000 (by show ((List.replicate n [V.ref q1]).flatten ++ us).length + (List.replicate k [V.ref q2]).flatten.length ≤ _; rw [List.length_append, fl, fl]; omega), fun l6 HF gF sF eF => ?_⟩
  have sBF := sBE.trans sF
  have s7F := (s7A.trans sB).trans sBF
  have s0F := ((s05.trans s6).trans s7).trans s7F
  have sts : StsAt HF ((List.replicate n [V.ref q1]).flatten ++ us ++ (List.replicate k [V.ref q2]).flatten) (List.replicate n (.keep 1) ++ st ++ List.replicate k (.keep 1)) := by
    have w1 : StpAt HF (.ref q1) (.keep 1) := ⟨rfl, q1, rfl, ((s9.trans sA).trans (sB.trans sBF)) _ _ e8⟩
    have w2 : StpAt HF (.ref q2) (.keep 1) := ⟨rfl, q2, rfl, (sD.trans (sE.trans sF)) _ _ eC⟩
    exact StsAt.app (StsAt.app (StsAt.rep w1 n) (c7.same s7F)) (StsAt.rep w2 k)
  obtain ⟨r1, r2, r3⟩ := rep_keep n
  obtain ⟨v1, v2, v3⟩ := rep_keep k
  have totS : tot (List.replicate n (.keep 1) ++ st ++ List.replicate k (.keep 1)) = xs.length := by rw [tot_app, tot_app, r1, v1, t7]; omega
  have sumS : csum (List.replicate n (.keep 1) ++ st ++ List.replicate k (.keep 1)) = dI xs ts := by rw [csum_app, csum_app, r2, v2, q7, ex, et, dI_pre, dI_suf]; omega
  have mkS : mk (List.replicate n (.keep 1) ++ st ++ List.replicate k (.keep 1)) xs = ts := by
    have ed : xs.drop n = xm ++ sf := by rw [ex, List.drop_append_of_le_length (by omega), List.drop_of_length_le (by omega), List.nil_append]
    have ed2 : xs.drop (n + xm.length) = sf := by rw [← List.drop_drop, ed, List.drop_append_of_le_length (by omega), List.drop_length, List.nil_append]
    have etk : xs.take n = p := by rw [ex, List.take_append_of_le_length (by omega), List.take_of_length_le (by omega)]
    rw [mk_app, mk_app, r3, v3, r1, tot_app, r1, t7, ed, ed2, mk_ext st xm sf (by omega), m7, etk, List.take_of_length_le (by omega), List.append_assoc]
    exact et.symm
  refine ⟨l6, _, _, rfl, eF, sts, by rw [List.length_append, List.length_append, List.length_replicate, List.length_replicate]; omega, fun HG cp ws ch sG gG cG nG lG eqG fG => ?_⟩
  exact kk HG cp ws ch (s0F.trans sG) (s0F.free gG) cG (nG.mono s0F) lG (by rw [← eqG.tot]; exact totS) (by rw [← eqG.run]; exact mkS) (by rw [← eqG.sum]; exact sumS) fG
theorem ok_flaw (T : Txt K mg d tk) (gf_law_begun : FnOk P w K mg base CX0 1 d.f_law_begun d.f_law_begund ["_law_script", "_law_k"] (sp_f_law_begun K)) (gf_law_tables : FnOk P w K mg base CX0 3 d.f_law_tables d.f_law_tablesd ["_law_script", "_law_one", "_law_other"] (sp_f_law_tables K)) (gf_law_two : FnOk P w K mg base CX0 3 d.f_law_two d.f_law_twod ["_law_script"] (sp_f_law_two K)) (gf_law_walked : FnOk P w K mg base CX0 2 d.f_law_walked d.f_law_walkedd ["_law_state", "_law_one", "_law_other"] (sp_f_law_walked K)) (gfare_prices : FnOk P w K mg base CX0 2 d.fare_prices d.fare_pricesd ["one", "other", "some"] (sp_fare_prices K)) (gfcost_of : FnOk P w K mg base CX0 1 d.fcost_of d.fcost_ofd ["change"] (sp_fcost_of K)) (gfleast_change : FnOk P w K mg base CX0 4 d.fleast_change d.fleast_changed ["one", "other"] (sp_fleast_change K)) (gfprices : FnOk P w K mg base CX0 2 d.fprices d.fpricesd ["one", "other"] (sp_fprices K)) : FnOk P w K mg base CX0 5 d.flaw d.flawd ["_law_script"] (sp_flaw K) := by
  refine T.F_flaw.ok sc_flaw (fun vs H Q E h => len_flaw h) (fun cdv A outer s H vs Q E hr h => ?_)
  have hu : (A.deeper (envOfC "law" (defScope s_flaw) s.heap.objs.size d.flaw cdv)).units < cLine := hr.units0
  refine ⟨_, (@pss_cons _ _ _ _ _ (@ps_asg _ _ _ _ _ _ (@pe_call _ _ _ _ _ _ _ _ _ _ _ _ _ _ _ _ gf_law_two (hr.mono (by decide)) (by rfl) T.m_f_law_two T.k_f_law_two T.d_f_law_two .nil pass0 (@pa_cons _ _ _ _ _ (@pv _ 0 _ _ rfl (Or.inl rfl) rfl rfl) (@pa_nil _) (by rfl)) (by decide) (by rfl) (by rfl)) (@pg_tup _ _ _ _ _ _ rfl (@pgs_cons _ _ _ _ _ (@pg_name _ _ (1) _ sc_flaw.nd rfl (Or.inl rfl) (by first | exact .inl rfl | exact .inr rfl)) (@pgs_cons _ _ _ _ _ (@pg_name _ _ (2) _ sc_flaw.nd rfl (Or.inl rfl) (by first | exact .inl rfl | exact .inr rfl)) (@pgs_nil _) (by rfl)) (by rfl)) (by rfl) (by rfl)) (by rfl) (by rfl) (by rfl)) (@pss_cons _ _ _ _ _ (@ps_set _ _ (1) _ _ _ _ sc_flaw.nd rfl (Or.inl rfl) (@pe_slice _ _ _ _ _ _ _ _ _ _ sl_listA (@pv _ 1 _ _ rfl (Or.inl rfl) rfl rfl) (@po_none _) (@po_some _ _ _ (@pe_int _ _ _ _))) (by rfl) (by first | exact .inl rfl | exact .inr rfl)) (@pss_cons _ _ _ _ _ (@ps_set _ _ (2) _ _ _ _ sc_flaw.nd rfl (Or.inl rfl) (@pe_slice _ _ _ _ _ _ _ _ _ _ sl_listA (@pv _ 2 _ _ rfl (Or.inl rfl) rfl rfl) (@po_none _) (@po_some _ _ _ (@pe_int _ _ _ _))) (by rfl) (by first | exact .inl rfl | exact .inr rfl)) (@pss_cons _ _ _ _ _ (@ps_set _ _ (3) _ _ _ _ sc_flaw.nd rfl (Or.inl rfl) (@pe_lstA _ _ _ _ (@pa_cons _ _ _ _ _ (@pe_call _ _ _ _ _ _ _ _ _ _ _ _ _ _ _ _ gfcost_of (hr.mono (by decide)) (by rfl) T.m_fcost_of T.k_fcost_of T.d_fcost_of .nil pass0 (@pa_cons _ _ _ _ _ (@pe_call _ _ _ _ _ _ _ _ _ _ _ _ _ _ _ _ gfleast_change (hr.mono (by decide)) (by rfl) T.m_fleast_change T.k_fleast_change T.d_fleast_change .nil pass0 (@pa_cons _ _ _ _ _ (@pv _ 1 _ _ rfl (Or.inl rfl) rfl rfl) (@pa_cons _ _ _ _ _ (@pv _ 2 _ _ rfl (Or.inl rfl) rfl rfl) (@pa_nil _) (by rfl)) (by rfl)) (by decide) (by rfl) (by rfl)) (@pa_nil _) (by rfl)) (by decide) (by rfl) (by rfl)) (@pa_nil _) (by rfl))) (by rfl) (by first | exact .inl rfl | exact .inr rfl)) (@pss_cons _ _ _ _ _ (@ps_for _ _ _ _ _ _ _ _ PassesOwn.never rfl (@pi_list _ _ _ _ (@pe_lstA _ _ _ _ (@pa_cons _ _ _ _ _ (@pe_int _ _ _ _) (@pa_cons _ _ _ _ _ (@pe_int _ _ _ _) (@pa_nil _) (by rfl)) (by rfl)))) (@pg_name _ _ (4) _ sc_flaw.nd rfl (Or.inl rfl) (by first | exact .inl rfl | exact .inr rfl)) (@pss_cons _ _ _ _ _ (@ps_set _ _ (5) _ _ _ _ sc_flaw.nd rfl (Or.inl rfl) (@pe_call _ _ _ _ _ _ _ _ _ _ _ _ _ _ _ _ gf_law_begun (hr.mono (by decide)) (by rfl) T.m_f_law_begun T.k_f_law_begun T.d_f_law_begun .nil pass0 (@pa_cons _ _ _ _ _ (@pv _ 0 _ _ rfl (Or.inl rfl) rfl rfl) (@pa_cons _ _ _ _ _ (@pv _ 4 _ _ rfl (Or.inl rfl) rfl rfl) (@pa_nil _) (by rfl)) (by rfl)) (by decide) (by rfl) (by rfl)) (by rfl) (by first | exact .inl rfl | exact .inr rfl)) (@pss_one _ _ _ (@ps_for _ _ _ _ _ _ _ _ PassesOwn.never rfl (@pi_range1 _ _ _ _ _ _ (by rfl) T.b_range (@pa_cons _ _ _ _ _ (@pe_int _ _ _ _) (@pa_nil _) (by rfl)) (by rfl)) (@pg_name _ _ (6) _ sc_flaw.nd rfl (Or.inl rfl) (by first | exact .inl rfl | exact .inr rfl)) (@pss_one _ _ _ (@ps_expr _ _ _ _ (@pe_bm _ _ _ _ _ _ _ _ _ _ _ _ PySem.F.plainAttrs_list PySem.F.slot_list_append PySem.F.type_list_append mt_append (@pv _ 3 _ _ rfl (Or.inl rfl) rfl rfl) (@pa_cons _ _ _ _ _ (@pe_call _ _ _ _ _ _ _ _ _ _ _ _ _ _ _ _ gf_law_walked (hr.mono (by decide)) (by rfl) T.m_f_law_walked T.k_f_law_walked T.d_f_law_walked .nil pass0 (@pa_cons _ _ _ _ _ (@pv _ 5 _ _ rfl (Or.inl rfl) rfl rfl) (@pa_cons _ _ _ _ _ (@pv _ 1 _ _ rfl (Or.inl rfl) rfl rfl) (@pa_cons _ _ _ _ _ (@pv _ 2 _ _ rfl (Or.inl rfl) rfl rfl) (@pa_nil _) (by rfl)) (by rfl)) (by rfl)) (by decide) (by rfl) (by rfl)) (@pa_nil _) (by rfl)) (by rfl) (by rfl) (by rfl) (by rfl) (by rfl)) (by rfl))) (by intro _; rfl)))) (by intro _; rfl)) (@pss_cons _ _ _ _ _ (@ps_set _ _ (7) _ _ _ _ sc_flaw.nd rfl (Or.inl rfl) (@pe_call _ _ _ _ _ _ _ _ _ _ _ _ _ _ _ _ gfprices (hr.mono (by decide)) (by rfl) T.m_fprices T.k_fprices T.d_fprices .nil pass0 (@pa_cons _ _ _ _ _ (@pv _ 1 _ _ rfl (Or.inl rfl) rfl rfl) (@pa_cons _ _ _ _ _ (@pv _ 2 _ _ rfl (Or.inl rfl) rfl rfl) (@pa_nil _) (by rfl)) (by rfl)) (by decide) (by rfl) (by rfl)) (by rfl) (by first | exact .inl rfl | exact .inr rfl)) (@pss_cons _ _ _ _ _ (@ps_if _ _ _ _ _ _ _ _ (@PW.pt _ _ _ (@pw_or _ _ _ _ _ _ _ (@pt_not _ _ _ _ (@pt_val _ _ _ (@pe_call _ _ _ _ _ _ _ _ _ _ _ _ _ _ _ _ gfare_prices (hr.mono (by decide)) (by rfl) T.m_fare_prices T.k_fare_prices T.d_fare_prices .nil pass0 (@pa_cons _ _ _ _ _ (@pv _ 1 _ _ rfl (Or.inl rfl) rfl rfl) (@pa_cons _ _ _ _ _ (@pv _ 2 _ _ rfl (Or.inl rfl) rfl rfl) (@pa_cons _ _ _ _ _ (@pv _ 7 _ _ rfl (Or.inl rfl) rfl rfl) (@pa_nil _) (by rfl)) (by rfl)) (by rfl)) (by decide) (by rfl) (by rfl)) (by intro _; rfl))) (@pw_or _ _ _ _ _ _ _ (@pt_cmpR _ _ _ _ _ _ _ _ op_ne (@pe_ix _ _ _ _ _ _ _ ix_list (@pe_ix _ _ _ _ _ _ _ ix_list (@pv _ 7 _ _ rfl (Or.inl rfl) rfl rfl) (@pe_int _ _ _ _) (fun _ _ => rfl)) (@pe_int _ _ _ _) (fun _ _ => rfl)) (@pe_ix _ _ _ _ _ _ _ ix_list (@pv _ 3 _ _ rfl (Or.inl rfl) rfl rfl) (@pe_int _ _ _ _) (fun _ _ => rfl)) (nomark _)) (@pw_or1 _ _ _ _ (@pt_cmpR _ _ _ _ _ _ _ _ op_ne (@pe_callB _ _ _ _ _ _ _ _ _ (call_min1 rfl) (by rfl) T.b_min boot_min (@pa_cons _ _ _ _ _ (@pv _ 3 _ _ rfl (Or.inl rfl) rfl rfl) (@pa_nil _) (by rfl)) (by decide) (by decide) (by rfl) (by rfl)) (@pe_ix _ _ _ _ _ _ _ ix_list (@pv _ 3 _ _ rfl (Or.inl rfl) rfl rfl) (@pe_int _ _ _ _) (fun _ _ => rfl)) (nomark _)))))) (@pss_one _ _ _ (@ps_ret _ _ _ _ (@pe_bl _ _ _ _))) (@pss_nil _)) (@pss_cons _ _ _ _ _ (@ps_for _ _ _ _ _ _ _ _ PassesOwn.never rfl (@pi_list _ _ _ _ (@pe_call _ _ _ _ _ _ _ _ _ _ _ _ _ _ _ _ gf_law_tables (hr.mono (by decide)) (by rfl) T.m_f_law_tables T.k_f_law_tables T.d_f_law_tables .nil pass0 (@pa_cons _ _ _ _ _ (@pv _ 0 _ _ rfl (Or.inl rfl) rfl rfl) (@pa_cons _ _ _ _ _ (@pv _ 1 _ _ rfl (Or.inl rfl) rfl rfl) (@pa_cons _ _ _ _ _ (@pv _ 2 _ _ rfl (Or.inl rfl) rfl rfl) (@pa_nil _) (by rfl)) (by rfl)) (by rfl)) (by decide) (by rfl) (by rfl))) (@pg_name _ _ (8) _ sc_flaw.nd rfl (Or.inl rfl) (by first | exact .inl rfl | exact .inr rfl)) (@pss_one _ _ _ (@ps_if _ _ _ _ _ _ _ _ (@PW.pt _ _ _ (@pw_and _ _ _ _ _ _ _ (@pt_val _ _ _ (@pe_call _ _ _ _ _ _ _ _ _ _ _ _ _ _ _ _ gfare_prices (hr.mono (by decide)) (by rfl) T.m_fare_prices T.k_fare_prices T.d_fare_prices .nil pass0 (@pa_cons _ _ _ _ _ (@pv _ 1 _ _ rfl (Or.inl rfl) rfl rfl) (@pa_cons _ _ _ _ _ (@pv _ 2 _ _ rfl (Or.inl rfl) rfl rfl) (@pa_cons _ _ _ _ _ (@pv _ 8 _ _ rfl (Or.inl rfl) rfl rfl) (@pa_nil _) (by rfl)) (by rfl)) (by rfl)) (by decide) (by rfl) (by rfl)) (by intro _; rfl)) (@pw_and1 _ _ _ _ (@pt_cmpR _ _ _ _ _ _ _ _ op_gt (@pe_ix _ _ _ _ _ _ _ ix_list (@pe_ix _ _ _ _ _ _ _ ix_list (@pv _ 8 _ _ rfl (Or.inl rfl) rfl rfl) (@pe_int _ _ _ _) (fun _ _ => rfl)) (@pe_int _ _ _ _) (fun _ _ => rfl)) (@pe_callB _ _ _ _ _ _ _ _ _ (call_min1 rfl) (by rfl) T.b_min boot_min (@pa_cons _ _ _ _ _ (@pv _ 3 _ _ rfl (Or.inl rfl) rfl rfl) (@pa_nil _) (by rfl)) (by decide) (by decide) (by rfl) (by rfl)) (nomark _))))) (@pss_one _ _ _ (@ps_ret _ _ _ _ (@pe_bl _ _ _ _))) (@pss_nil _))) (by intro _; rfl)) (@pss_one _ _ _ (@ps_ret _ _ _ _ (@pe_bl _ _ _ _))))))))))), ?_⟩
  obtain ⟨sp, ns, rfl, hs, hl, kk⟩ := h
  refine ⟨_, rfl, sp, ns, rfl, hs, fun H1 p a b xs0 ts0 s1 e1 ta hxl0 tb htl0 => ?_⟩
  refine ⟨p, _, rfl, SqT.of e1, rfl, _, _, rfl, _, _, rfl, rfl, ?_⟩
  refine ⟨_, rfl, _, rfl, a, _, rfl, SqL.of ta.at', fun ap H2 g2 s2 e2 => ?_⟩
  rw [show cutV (xs0.map V.str) none (some 12) = (xs0.take 12).map V.str from cut_to xs0 12] at e2
  refine ⟨_, rfl, _, rfl, b, _, rfl, SqL.of (s2 _ _ tb.at'), fun bp H3 g3 s3 e3 => ?_⟩
  rw [show cutV (ts0.map V.str) none (some 12) = (ts0.take 12).map V.str from cut_to ts0 12] at e3
  have lx : (xs0.take 12).length ≤ 12 := by rw [List.length_take]; omega
  have lt : (ts0.take 12).length ≤ 12 := by rw [List.length_take]; omega
  generalize xs0.take 12 = xs at e2 lx
  generalize ts0.take 12 = ts at e3 lt
  have s03 := s1.trans (s2.trans s3)
  have e2' := s3 _ _ e2
  refine ⟨_, rfl, _, rfl, ap, bp, xs, ts, rfl, e2', e3, by omega, by omega, fun H4 lc ws ch s4 g4 c4 n4 l4 t4 m4 q4 f4 => ?_⟩
  refine ⟨lc, ws, ch, rfl, c4, fun H5 s5 => ⟨szOk rfl, fun cp H6 g6 s6 e6 => ?_⟩⟩
  rw [q4] at e6
  have s35 := s4.trans s5
  have fcp : H3 cp = none := s35.free g6
  have s36 := s35.trans s6
  refine ⟨szOk rfl, fun kl H7 g7 s7 e7 => ?_⟩
  refine ⟨kl, rfl, ⟨_, SqL.of e7⟩, for_list (xs := [.int 60, .int 61]) (fun i σ H8 => ∃ (cs : List Int) (u4 u5 u6 u7 u8 : Option V), σ = [some (.ref sp), some (.ref ap), some (.ref bp), some (.ref cp), u4, u5, u6, u7, u8] ∧ Same H3 H8 ∧ H8 kl = some (.lst [.int 60, .int 61]) ∧ H8 cp = some (.lst ((dI xs ts :: cs).map V.int)) ∧ cs.length = 6 * i ∧ ∀ c ∈ cs, dI xs ts ≤ c)
    ⟨[], _, _, _, _, _, rfl, s36.trans s7, e7, s7 _ _ e6, rfl, (fun _ z => nomatch z)⟩ (fun j σ H8 _ ⟨_, _, _, _, _, _, _, _, e, _⟩ => SqL.of e) ?_ ?_⟩
  · rintro i x σ H8 hxi ⟨cs, u4, u5, u6, u7, u8, rfl, s8, ekl, ecp, lcs, hcs⟩
    have hi2 : i < 2 := (List.getElem?_eq_some_iff.mp hxi).1
    obtain ⟨k, rfl, hk⟩ : ∃ k : Nat, x = V.int (k : Int) ∧ k ≤ 63 := by
      have := List.mem_of_getElem? hxi
      simp only [List.mem_cons, List.not_mem_nil, or_false] at this
      rcases this with rfl | rfl
      · exact ⟨60, rfl, by decide⟩
      · exact ⟨61, rfl, by decide⟩
    refine ⟨_, rfl, _, rfl, sp, ns, k, rfl, (hs.same s03).same s8, hk, fun H9 d s9 g9 r9 => ?_⟩
    have fd : H3 d = none := s8.free g9
    have ncd : cp ≠ d := ne_of_none ecp g9
    have nkd : kl ≠ d := ne_of_none ekl g9
    have nkc : kl ≠ cp := (ne_of_none e6 g7).symm
    have nad : ap ≠ d := ne_of_none e2' fd
    have nbd : bp ≠ d := ne_of_none e3 fd
    refine ⟨_, rfl, by decide, by decide, for_range (n := (6 : Int).toNat) (fun j σ HA => ∃ (cs' : List Int) (u6 u7 u8 : Option V), σ = [some (.ref sp), some (.ref ap), some (.ref bp), some (.ref cp), some (.int (k : Int)), some (.ref d), u6, u7, u8] ∧ Same H3 HA ∧ SR HA d (24 * j) ∧ HA kl = some (.lst [.int 60, .int 61]) ∧ HA cp = some (.lst ((dI xs ts :: cs').map V.int)) ∧ cs'.length = 6 * i + j ∧ ∀ c ∈ cs', dI xs ts ≤ c)
      ⟨cs, _, _, _, rfl, s8.trans s9, r9, s9 _ _ ekl, s9 _ _ ecp, lcs, hcs⟩ ?_ ?_⟩
    · rintro j σ HA hj ⟨cs', u6, u7, u8, rfl, sA, qA, ekA, ecA, lA, hA⟩
      have hj6 : j < 6 := hj
      refine ⟨_, rfl, .inl ⟨rfl, _, SqL.of ecA⟩, _, rfl, _, rfl, _, rfl, d, ap, bp, _, xs, ts, rfl, qA, by omega, by rw [del_ne nad]; exact sA _ _ e2', by rw [del_ne nbd]; exact sA _ _ e3, lx, lt, fun HB c sB qB hc => ?_⟩
      have ecB : HB cp = some (.lst ((dI xs ts :: cs').map V.int)) := sB _ _ (by rw [del_ne ncd]; exact ecA)
      refine ⟨cp, _, _, rfl, rfl, ecB, small1000 (by rw [List.length_map, List.length_cons]; omega), ?_⟩
      refine ⟨cs' ++ [c], _, _, _, rfl, ((sA.cut fd).trans sB).wr fcp, (qB.more (by omega)).upd ncd.symm, by rw [upd_ne nkc]; exact sB _ _ (by rw [del_ne nkd]; exact ekA), by rw [upd_same, List.map_cons, List.map_cons, List.map_append]; rfl, by rw [List.length_append, List.length_singleton]; omega, fun c' hc' => ?_⟩
      rcases List.mem_append.mp hc' with h | h
      · exact hA c' h
      · rw [List.mem_singleton.mp h]; exact hc
    · rintro σ HA ⟨cs', u6, u7, u8, rfl, sA, qA, ekA, ecA, lA, hA⟩
      have lA : cs'.length = 6 * i + 6 := lA
      exact ⟨cs', _, _, _, _, _, rfl, sA, ekA, ecA, by omega, hA⟩
  · rintro σ H8 ⟨cs, u4, u5, u6, u7, u8, rfl, s8, ekl, ecp, lcs, hcs⟩
    have eap := s8 _ _ e2'
    have ebp := s8 _ _ e3
    refine ⟨_, rfl, _, rfl, ap, bp, xs, ts, rfl, eap, ebp, by omega, by omega, fun H9 tp rs s9 g9 tbl => ?_⟩
    have tt9 := TB.tt tbl lx lt
    have mn : ∀ M, M ∈ dI xs ts :: cs → (∀ k ∈ dI xs ts :: cs, M ≤ k) → M = dI xs ts := fun M h1 h2 => by
      have a := h2 (dI xs ts) (by simp)
      rcases List.mem_cons.mp h1 with h | h
      · exact h
      · have := hcs M h; omega
    refine ⟨_, rfl, _, rfl, _, rfl, ap, bp, xs, ts, tp, rs, _, rfl, s9 _ _ eap, s9 _ _ ebp, lx, lt, tt9, fun _ HA sA => ?_, fun h => absurd (RI_are xs ts) h⟩
    refine ⟨_, rfl, itF rfl ?_⟩
    have ttA := tt9.same sA
    have ecA := sA _ _ (s9 _ _ ecp)
    obtain ⟨r0, z0, h1, h2, h3, h4⟩ := ttA.get (i := 0) (by rw [RI_len]; omega)
    have lz0 := RI_row xs ts z0 (List.mem_of_getElem? h3)
    have v0 : z0.getD 0 0 = dI xs ts := by rw [← tP_at h3, RI_tP xs ts (Nat.zero_le _) (Nat.zero_le _), List.drop_zero, List.drop_zero]
    refine ⟨_, rfl, tp, _, 0, .ref r0, rfl, rfl, SqL.of ttA.at', h1, r0, _, 0, _, rfl, rfl, SqL.of h4, int_at (z := z0) (j := 0) (by omega), _, rfl, cp, _, 0, .int (dI xs ts), rfl, rfl, SqL.of ecA, atI_nat (j := 0) rfl, rfl, _, rfl, itF ?_ ?_⟩
    · show (!decide (V.int _ = V.int _)) = false
      rw [v0, decide_eq_true rfl]
      rfl
    refine ⟨_, rfl, cp, _, rfl, SqL.of ecA, by rw [List.length_cons]; omega, fun M hM1 hM2 => ?_⟩
    rw [mn M hM1 hM2]
    refine ⟨_, rfl, cp, _, 0, .int (dI xs ts), rfl, rfl, SqL.of ecA, atI_nat (j := 0) rfl, rfl, _, rfl, itF ?_ ?_⟩
    · show (!decide (V.int _ = V.int _)) = false
      rw [decide_eq_true rfl]
      rfl
    have s8A := s9.trans sA
    refine ⟨_, rfl, _, rfl, _, rfl, sp, ap, bp, ns, xs, ts, rfl, ((hs.same s03).same s8).same s8A, s8A _ _ eap, s8A _ _ ebp, lx, lt, fun HB tq us sB eB lB hB => ?_⟩
    have s8B := s8A.trans sB
    refine ⟨tq, rfl, ⟨_, SqL.of eB⟩, for_list (xs := us) (fun i σ HC => ∃ (u4 u5 u6 u7 u8 : Option V), σ = [some (.ref sp), some (.ref ap), some (.ref bp), some (.ref cp), u4, u5, u6, u7, u8] ∧ Same HB HC) ⟨_, _, _, _, _, rfl, Same.refl _⟩ (fun j σ HC _ ⟨_, _, _, _, _, _, sC⟩ => SqL.of (sC _ _ eB)) ?_ ?_⟩
    · rintro i v σ HC hv ⟨u4, u5, u6, u7, u8, rfl, sC⟩
      obtain ⟨q, rx, R, rfl, tq'⟩ := hB v (List.mem_of_getElem? hv)
      have s8C := s8B.trans sC
      refine ⟨_, rfl, _, rfl, _, rfl, ap, bp, xs, ts, q, rx, R, rfl, s8C _ _ eap, s8C _ _ ebp, lx, lt, tq'.same sC, fun hA HD sD => ?_, fun hA HD sD => ⟨_, rfl, itF rfl (itF rfl ⟨_, _, _, _, _, rfl, sC.trans sD⟩)⟩⟩
      refine ⟨_, rfl, itT rfl ?_⟩
      have tD := tq'.same (sC.trans sD)
      obtain ⟨rA, zA, k1, k2, k3, k4⟩ := tD.get (i := 0) (by rw [hA.len]; omega)
      have lzA := hA.row zA (List.mem_of_getElem? k3)
      have le := areP_le hA _ 0 0 rfl (Nat.zero_le _) (Nat.zero_le _)
      rw [tP_at k3, List.drop_zero, List.drop_zero] at le
      have ecD := (s8C.trans sD) _ _ ecp
      refine ⟨_, rfl, q, _, 0, .ref rA, rfl, rfl, SqL.of tD.at', k1, rA, _, 0, _, rfl, rfl, SqL.of k4, int_at (z := zA) (j := 0) (by omega), _, rfl, cp, _, rfl, SqL.of ecD, by rw [List.length_cons]; omega, fun M hM1 hM2 => ?_⟩
      rw [mn M hM1 hM2]
      exact ⟨_, _, rfl, rfl, _, rfl, itF (decide_eq_false (by omega)) ⟨_, _, _, _, _, rfl, sC.trans sD⟩⟩
    · rintro σ HC ⟨u4, u5, u6, u7, u8, rfl, sC⟩
      exact kk HC (s03.trans (s8.trans (s8B.trans sC)))
end
theorem all_mk {l : PySem.W.OpenLaw} {w : World} {K : PySem.W.Frag} {h : Heap} {mg : Str → Option Value} {fa : Addr} (X : K.In h) (G : h.Ns mainGlobals mg) (hfa : mg "law" = some (.ref fa))
    {a_fprice_row : Addr} {od_fprice_row an_fprice_row : Option Addr} {sl_fprice_row : Array (Option Value)} {oc_fprice_row kV_fprice_row dc_fprice_row pm_fprice_row cd_fprice_row ct_fprice_row : Value} {a_fprices : Addr} {od_fprices an_fprices : Option Addr} {sl_fprices : Array (Option Value)} {oc_fprices kV_fprices dc_fprices pm_fprices cd_fprices ct_fprices : Value} {a_fdiffer_little : Addr} {od_fdiffer_little an_fdiffer_little : Option Addr} {sl_fdiffer_little : Array (Option Value)} {oc_fdiffer_little kV_fdiffer_little dc_fdiffer_little pm_fdiffer_little cd_fdiffer_little ct_fdiffer_little : Value} {a_fis_square : Addr} {od_fis_square an_fis_square : Option Addr} {sl_fis_square : Array (Option Value)} {oc_fis_square kV_fis_square dc_fis_square pm_fis_square cd_fis_square ct_fis_square : Value} {a_fare_prices : Addr} {od_fare_prices an_fare_prices : Option Addr} {sl_fare_prices : Array (Option Value)} {oc_fare_prices kV_fare_prices dc_fare_prices pm_fare_prices cd_fare_prices ct_fare_prices : Value} {a_falike_ahead : Addr} {od_falike_ahead an_falike_ahead : Option Addr} {sl_falike_ahead : Array (Option Value)} {oc_falike_ahead kV_falike_ahead dc_falike_ahead pm_falike_ahead cd_falike_ahead ct_falike_ahead : Value} {a_fsteps_between : Addr} {od_fsteps_between an_fsteps_between : Option Addr} {sl_fsteps_between : Array (Option Value)} {oc_fsteps_between kV_fsteps_between dc_fsteps_between pm_fsteps_between cd_fsteps_between ct_fsteps_between : Value} {a_fgathered : Addr} {od_fgathered an_fgathered : Option Addr} {sl_fgathered : Array (Option Value)} {oc_fgathered kV_fgathered dc_fgathered pm_fgathered cd_fgathered ct_fgathered : Value} {a_fjoined : Addr} {od_fjoined an_fjoined : Option Addr} {sl_fjoined : Array (Option Value)} {oc_fjoined kV_fjoined dc_fjoined pm_fjoined cd_fjoined ct_fjoined : Value} {a_fleast_change : Addr} {od_fleast_change an_fleast_change : Option Addr} {sl_fleast_change : Array (Option Value)} {oc_fleast_change kV_fleast_change dc_fleast_change pm_fleast_change cd_fleast_change ct_fleast_change : Value} {a_fcost_of : Addr} {od_fcost_of an_fcost_of : Option Addr} {sl_fcost_of : Array (Option Value)} {oc_fcost_of kV_fcost_of dc_fcost_of pm_fcost_of cd_fcost_of ct_fcost_of : Value} {a_f_law_begun : Addr} {od_f_law_begun an_f_law_begun : Option Addr} {sl_f_law_begun : Array (Option Value)} {oc_f_law_begun kV_f_law_begun dc_f_law_begun pm_f_law_begun cd_f_law_begun ct_f_law_begun : Value} {a_f_law_draw : Addr} {od_f_law_draw an_f_law_draw : Option Addr} {sl_f_law_draw : Array (Option Value)} {oc_f_law_draw kV_f_law_draw dc_f_law_draw pm_f_law_draw cd_f_law_draw ct_f_law_draw : Value} {a_f_law_menu : Addr} {od_f_law_menu an_f_law_menu : Option Addr} {sl_f_law_menu : Array (Option Value)} {oc_f_law_menu kV_f_law_menu dc_f_law_menu pm_f_law_menu cd_f_law_menu ct_f_law_menu : Value} {a_f_law_texts : Addr} {od_f_law_texts an_f_law_texts : Option Addr} {sl_f_law_texts : Array (Option Value)} {oc_f_law_texts kV_f_law_texts dc_f_law_texts pm_f_law_texts cd_f_law_texts ct_f_law_texts : Value} {a_f_law_near : Addr} {od_f_law_near an_f_law_near : Option Addr} {sl_f_law_near : Array (Option Value)} {oc_f_law_near kV_f_law_near dc_f_law_near pm_f_law_near cd_f_law_near ct_f_law_near : Value} {a_f_law_two : Addr} {od_f_law_two an_f_law_two : Option Addr} {sl_f_law_two : Array (Option Value)} {oc_f_law_two kV_f_law_two dc_f_law_two pm_f_law_two cd_f_law_two ct_f_law_two : Value} {a_f_law_costs : Addr} {od_f_law_costs an_f_law_costs : Option Addr} {sl_f_law_costs : Array (Option Value)} {oc_f_law_costs kV_f_law_costs dc_f_law_costs pm_f_law_costs cd_f_law_costs ct_f_law_costs : Value} {a_f_law_bent : Addr} {od_f_law_bent an_f_law_bent : Option Addr} {sl_f_law_bent : Array (Option Value)} {oc_f_law_bent kV_f_law_bent dc_f_law_bent pm_f_law_bent cd_f_law_bent ct_f_law_bent : Value} {a_f_law_free : Addr} {od_f_law_free an_f_law_free : Option Addr} {sl_f_law_free : Array (Option Value)} {oc_f_law_free kV_f_law_free dc_f_law_free pm_f_law_free cd_f_law_free ct_f_law_free : Value} {a_f_law_tables : Addr} {od_f_law_tables an_f_law_tables : Option Addr} {sl_f_law_tables : Array (Option Value)} {oc_f_law_tables kV_f_law_tables dc_f_law_tables pm_f_law_tables cd_f_law_tables ct_f_law_tables : Value} {a_f_law_walked : Addr} {od_f_law_walked an_f_law_walked : Option Addr} {sl_f_law_walked : Array (Option Value)} {oc_f_law_walked kV_f_law_walked dc_f_law_walked pm_f_law_walked cd_f_law_walked ct_f_law_walked : Value} {a_flaw : Addr} {od_flaw an_flaw : Option Addr} {sl_flaw : Array (Option Value)} {oc_flaw kV_flaw dc_flaw pm_flaw cd_flaw ct_flaw : Value}
    (zb_all : PySem.W.nsIn K mainGlobals "all" = some none)
    (zb_len : PySem.W.nsIn K mainGlobals "len" = some none)
    (zb_list : PySem.W.nsIn K mainGlobals "list" = some none)
    (zb_max : PySem.W.nsIn K mainGlobals "max" = some none)
    (zb_min : PySem.W.nsIn K mainGlobals "min" = some none)
    (zb_range : PySem.W.nsIn K mainGlobals "range" = some none)
    (zb_sum : PySem.W.nsIn K mainGlobals "sum" = some none)
    (zb_zip : PySem.W.nsIn K mainGlobals "zip" = some none)
    (z1_fprice_row : PySem.W.nsIn K mainGlobals "price_row" = some (some (.ref a_fprice_row)))
    (z2_fprice_row : K.lookup a_fprice_row = some ⟨oc_fprice_row, od_fprice_row, .func (PySem.W.fnOf "price_row" "price_row" (defArgs s_fprice_row) (defBody s_fprice_row) (defScope s_fprice_row) .none kV_fprice_row dc_fprice_row pm_fprice_row an_fprice_row cd_fprice_row ct_fprice_row), sl_fprice_row⟩)
    (z3_fprice_row : PySem.W.codeIn K cd_fprice_row "price_row" = true) (z4_fprice_row : PySem.W.keepIn K (.ref a_fprice_row) = true)
    (z1_fprices : PySem.W.nsIn K mainGlobals "prices" = some (some (.ref a_fprices)))
    (z2_fprices : K.lookup a_fprices = some ⟨oc_fprices, od_fprices, .func (PySem.W.fnOf "prices" "prices" (defArgs s_fprices) (defBody s_fprices) (defScope s_fprices) .none kV_fprices dc_fprices pm_fprices an_fprices cd_fprices ct_fprices), sl_fprices⟩)
    (z3_fprices : PySem.W.codeIn K cd_fprices "prices" = true) (z4_fprices : PySem.W.keepIn K (.ref a_fprices) = true)
    (z1_fdiffer_little : PySem.W.nsIn K mainGlobals "differ_little" = some (some (.ref a_fdiffer_little)))
    (z2_fdiffer_little : K.lookup a_fdiffer_little = some ⟨oc_fdiffer_little, od_fdiffer_little, .func (PySem.W.fnOf "differ_little" "differ_little" (defArgs s_fdiffer_little) (defBody s_fdiffer_little) (defScope s_fdiffer_little) .none kV_fdiffer_little dc_fdiffer_little pm_fdiffer_little an_fdiffer_little cd_fdiffer_little ct_fdiffer_little), sl_fdiffer_little⟩)
    (z3_fdiffer_little : PySem.W.codeIn K cd_fdiffer_little "differ_little" = true) (z4_fdiffer_little : PySem.W.keepIn K (.ref a_fdiffer_little) = true)
    (z1_fis_square : PySem.W.nsIn K mainGlobals "is_square" = some (some (.ref a_fis_square)))
    (z2_fis_square : K.lookup a_fis_square = some ⟨oc_fis_square, od_fis_square, .func (PySem.W.fnOf "is_square" "is_square" (defArgs s_fis_square) (defBody s_fis_square) (defScope s_fis_square) .none kV_fis_square dc_fis_square pm_fis_square an_fis_square cd_fis_square ct_fis_square), sl_fis_square⟩)
    (z3_fis_square : PySem.W.codeIn K cd_fis_square "is_square" = true) (z4_fis_square : PySem.W.keepIn K (.ref a_fis_square) = true)
    (z1_fare_prices : PySem.W.nsIn K mainGlobals "are_prices" = some (some (.ref a_fare_prices)))
    (z2_fare_prices : K.lookup a_fare_prices = some ⟨oc_fare_prices, od_fare_prices, .func (PySem.W.fnOf "are_prices" "are_prices" (defArgs s_fare_prices) (defBody s_fare_prices) (defScope s_fare_prices) .none kV_fare_prices dc_fare_prices pm_fare_prices an_fare_prices cd_fare_prices ct_fare_prices), sl_fare_prices⟩)
    (z3_fare_prices : PySem.W.codeIn K cd_fare_prices "are_prices" = true) (z4_fare_prices : PySem.W.keepIn K (.ref a_fare_prices) = true)
    (z1_falike_ahead : PySem.W.nsIn K mainGlobals "alike_ahead" = some (some (.ref a_falike_ahead)))
    (z2_falike_ahead : K.lookup a_falike_ahead = some ⟨oc_falike_ahead, od_falike_ahead, .func (PySem.W.fnOf "alike_ahead" "alike_ahead" (defArgs s_falike_ahead) (defBody s_falike_ahead) (defScope s_falike_ahead) .none kV_falike_ahead dc_falike_ahead pm_falike_ahead an_falike_ahead cd_falike_ahead ct_falike_ahead), sl_falike_ahead⟩)
    (z3_falike_ahead : PySem.W.codeIn K cd_falike_ahead "alike_ahead" = true) (z4_falike_ahead : PySem.W.keepIn K (.ref a_falike_ahead) = true)
    (z1_fsteps_between : PySem.W.nsIn K mainGlobals "steps_between" = some (some (.ref a_fsteps_between)))
    (z2_fsteps_between : K.lookup a_fsteps_between = some ⟨oc_fsteps_between, od_fsteps_between, .func (PySem.W.fnOf "steps_between" "steps_between" (defArgs s_fsteps_between) (defBody s_fsteps_between) (defScope s_fsteps_between) .none kV_fsteps_between dc_fsteps_between pm_fsteps_between an_fsteps_between cd_fsteps_between ct_fsteps_between), sl_fsteps_between⟩)
    (z3_fsteps_between : PySem.W.codeIn K cd_fsteps_between "steps_between" = true) (z4_fsteps_between : PySem.W.keepIn K (.ref a_fsteps_between) = true)
    (z1_fgathered : PySem.W.nsIn K mainGlobals "gathered" = some (some (.ref a_fgathered)))
    (z2_fgathered : K.lookup a_fgathered = some ⟨oc_fgathered, od_fgathered, .func (PySem.W.fnOf "gathered" "gathered" (defArgs s_fgathered) (defBody s_fgathered) (defScope s_fgathered) .none kV_fgathered dc_fgathered pm_fgathered an_fgathered cd_fgathered ct_fgathered), sl_fgathered⟩)
    (z3_fgathered : PySem.W.codeIn K cd_fgathered "gathered" = true) (z4_fgathered : PySem.W.keepIn K (.ref a_fgathered) = true)
    (z1_fjoined : PySem.W.nsIn K mainGlobals "joined" = some (some (.ref a_fjoined)))
    (z2_fjoined : K.lookup a_fjoined = some ⟨oc_fjoined, od_fjoined, .func (PySem.W.fnOf "joined" "joined" (defArgs s_fjoined) (defBody s_fjoined) (defScope s_fjoined) .none kV_fjoined dc_fjoined pm_fjoined an_fjoined cd_fjoined ct_fjoined), sl_fjoined⟩)
    (z3_fjoined : PySem.W.codeIn K cd_fjoined "joined" = true) (z4_fjoined : PySem.W.keepIn K (.ref a_fjoined) = true)
    (z1_fleast_change : PySem.W.nsIn K mainGlobals "least_change" = some (some (.ref a_fleast_change)))
    (z2_fleast_change : K.lookup a_fleast_change = some ⟨oc_fleast_change, od_fleast_change, .func (PySem.W.fnOf "least_change" "least_change" (defArgs s_fleast_change) (defBody s_fleast_change) (defScope s_fleast_change) .none kV_fleast_change dc_fleast_change pm_fleast_change an_fleast_change cd_fleast_change ct_fleast_change), sl_fleast_change⟩)
    (z3_fleast_change : PySem.W.codeIn K cd_fleast_change "least_change" = true) (z4_fleast_change : PySem.W.keepIn K (.ref a_fleast_change) = true)
    (z1_fcost_of : PySem.W.nsIn K mainGlobals "cost_of" = some (some (.ref a_fcost_of)))
    (z2_fcost_of : K.lookup a_fcost_of = some ⟨oc_fcost_of, od_fcost_of, .func (PySem.W.fnOf "cost_of" "cost_of" (defArgs s_fcost_of) (defBody s_fcost_of) (defScope s_fcost_of) .none kV_fcost_of dc_fcost_of pm_fcost_of an_fcost_of cd_fcost_of ct_fcost_of), sl_fcost_of⟩)
    (z3_fcost_of : PySem.W.codeIn K cd_fcost_of "cost_of" = true) (z4_fcost_of : PySem.W.keepIn K (.ref a_fcost_of) = true)
    (z1_f_law_begun : PySem.W.nsIn K mainGlobals "_law_begun" = some (some (.ref a_f_law_begun)))
    (z2_f_law_begun : K.lookup a_f_law_begun = some ⟨oc_f_law_begun, od_f_law_begun, .func (PySem.W.fnOf "_law_begun" "_law_begun" (defArgs s_f_law_begun) (defBody s_f_law_begun) (defScope s_f_law_begun) .none kV_f_law_begun dc_f_law_begun pm_f_law_begun an_f_law_begun cd_f_law_begun ct_f_law_begun), sl_f_law_begun⟩)
    (z3_f_law_begun : PySem.W.codeIn K cd_f_law_begun "_law_begun" = true) (z4_f_law_begun : PySem.W.keepIn K (.ref a_f_law_begun) = true)
    (z1_f_law_draw : PySem.W.nsIn K mainGlobals "_law_draw" = some (some (.ref a_f_law_draw)))
    (z2_f_law_draw : K.lookup a_f_law_draw = some ⟨oc_f_law_draw, od_f_law_draw, .func (PySem.W.fnOf "_law_draw" "_law_draw" (defArgs s_f_law_draw) (defBody s_f_law_draw) (defScope s_f_law_draw) .none kV_f_law_draw dc_f_law_draw pm_f_law_draw an_f_law_draw cd_f_law_draw ct_f_law_draw), sl_f_law_draw⟩)
    (z3_f_law_draw : PySem.W.codeIn K cd_f_law_draw "_law_draw" = true) (z4_f_law_draw : PySem.W.keepIn K (.ref a_f_law_draw) = true)
    (z1_f_law_menu : PySem.W.nsIn K mainGlobals "_law_menu" = some (some (.ref a_f_law_menu)))
    (z2_f_law_menu : K.lookup a_f_law_menu = some ⟨oc_f_law_menu, od_f_law_menu, .func (PySem.W.fnOf "_law_menu" "_law_menu" (defArgs s_f_law_menu) (defBody s_f_law_menu) (defScope s_f_law_menu) .none kV_f_law_menu dc_f_law_menu pm_f_law_menu an_f_law_menu cd_f_law_menu ct_f_law_menu), sl_f_law_menu⟩)
    (z3_f_law_menu : PySem.W.codeIn K cd_f_law_menu "_law_menu" = true) (z4_f_law_menu : PySem.W.keepIn K (.ref a_f_law_menu) = true)
    (z1_f_law_texts : PySem.W.nsIn K mainGlobals "_law_texts" = some (some (.ref a_f_law_texts)))
    (z2_f_law_texts : K.lookup a_f_law_texts = some ⟨oc_f_law_texts, od_f_law_texts, .func (PySem.W.fnOf "_law_texts" "_law_texts" (defArgs s_f_law_texts) (defBody s_f_law_texts) (defScope s_f_law_texts) .none kV_f_law_texts dc_f_law_texts pm_f_law_texts an_f_law_texts cd_f_law_texts ct_f_law_texts), sl_f_law_texts⟩)
    (z3_f_law_texts : PySem.W.codeIn K cd_f_law_texts "_law_texts" = true) (z4_f_law_texts : PySem.W.keepIn K (.ref a_f_law_texts) = true)
    (z1_f_law_near : PySem.W.nsIn K mainGlobals "_law_near" = some (some (.ref a_f_law_near)))
    (z2_f_law_near : K.lookup a_f_law_near = some ⟨oc_f_law_near, od_f_law_near, .func (PySem.W.fnOf "_law_near" "_law_near" (defArgs s_f_law_near) (defBody s_f_law_near) (defScope s_f_law_near) .none kV_f_law_near dc_f_law_near pm_f_law_near an_f_law_near cd_f_law_near ct_f_law_near), sl_f_law_near⟩)
    (z3_f_law_near : PySem.W.codeIn K cd_f_law_near "_law_near" = true) (z4_f_law_near : PySem.W.keepIn K (.ref a_f_law_near) = true)
    (z1_f_law_two : PySem.W.nsIn K mainGlobals "_law_two" = some (some (.ref a_f_law_two)))
    (z2_f_law_two : K.lookup a_f_law_two = some ⟨oc_f_law_two, od_f_law_two, .func (PySem.W.fnOf "_law_two" "_law_two" (defArgs s_f_law_two) (defBody s_f_law_two) (defScope s_f_law_two) .none kV_f_law_two dc_f_law_two pm_f_law_two an_f_law_two cd_f_law_two ct_f_law_two), sl_f_law_two⟩)
    (z3_f_law_two : PySem.W.codeIn K cd_f_law_two "_law_two" = true) (z4_f_law_two : PySem.W.keepIn K (.ref a_f_law_two) = true)
    (z1_f_law_costs : PySem.W.nsIn K mainGlobals "_law_costs" = some (some (.ref a_f_law_costs)))
    (z2_f_law_costs : K.lookup a_f_law_costs = some ⟨oc_f_law_costs, od_f_law_costs, .func (PySem.W.fnOf "_law_costs" "_law_costs" (defArgs s_f_law_costs) (defBody s_f_law_costs) (defScope s_f_law_costs) .none kV_f_law_costs dc_f_law_costs pm_f_law_costs an_f_law_costs cd_f_law_costs ct_f_law_costs), sl_f_law_costs⟩)
    (z3_f_law_costs : PySem.W.codeIn K cd_f_law_costs "_law_costs" = true) (z4_f_law_costs : PySem.W.keepIn K (.ref a_f_law_costs) = true)
    (z1_f_law_bent : PySem.W.nsIn K mainGlobals "_law_bent" = some (some (.ref a_f_law_bent)))
    (z2_f_law_bent : K.lookup a_f_law_bent = some ⟨oc_f_law_bent, od_f_law_bent, .func (PySem.W.fnOf "_law_bent" "_law_bent" (defArgs s_f_law_bent) (defBody s_f_law_bent) (defScope s_f_law_bent) .none kV_f_law_bent dc_f_law_bent pm_f_law_bent an_f_law_bent cd_f_law_bent ct_f_law_bent), sl_f_law_bent⟩)
    (z3_f_law_bent : PySem.W.codeIn K cd_f_law_bent "_law_bent" = true) (z4_f_law_bent : PySem.W.keepIn K (.ref a_f_law_bent) = true)
    (z1_f_law_free : PySem.W.nsIn K mainGlobals "_law_free" = some (some (.ref a_f_law_free)))
    (z2_f_law_free : K.lookup a_f_law_free = some ⟨oc_f_law_free, od_f_law_free, .func (PySem.W.fnOf "_law_free" "_law_free" (defArgs s_f_law_free) (defBody s_f_law_free) (defScope s_f_law_free) .none kV_f_law_free dc_f_law_free pm_f_law_free an_f_law_free cd_f_law_free ct_f_law_free), sl_f_law_free⟩)
    (z3_f_law_free : PySem.W.codeIn K cd_f_law_free "_law_free" = true) (z4_f_law_free : PySem.W.keepIn K (.ref a_f_law_free) = true)
    (z1_f_law_tables : PySem.W.nsIn K mainGlobals "_law_tables" = some (some (.ref a_f_law_tables)))
    (z2_f_law_tables : K.lookup a_f_law_tables = some ⟨oc_f_law_tables, od_f_law_tables, .func (PySem.W.fnOf "_law_tables" "_law_tables" (defArgs s_f_law_tables) (defBody s_f_law_tables) (defScope s_f_law_tables) .none kV_f_law_tables dc_f_law_tables pm_f_law_tables an_f_law_tables cd_f_law_tables ct_f_law_tables), sl_f_law_tables⟩)
    (z3_f_law_tables : PySem.W.codeIn K cd_f_law_tables "_law_tables" = true) (z4_f_law_tables : PySem.W.keepIn K (.ref a_f_law_tables) = true)
    (z1_f_law_walked : PySem.W.nsIn K mainGlobals "_law_walked" = some (some (.ref a_f_law_walked)))
    (z2_f_law_walked : K.lookup a_f_law_walked = some ⟨oc_f_law_walked, od_f_law_walked, .func (PySem.W.fnOf "_law_walked" "_law_walked" (defArgs s_f_law_walked) (defBody s_f_law_walked) (defScope s_f_law_walked) .none kV_f_law_walked dc_f_law_walked pm_f_law_walked an_f_law_walked cd_f_law_walked ct_f_law_walked), sl_f_law_walked⟩)
    (z3_f_law_walked : PySem.W.codeIn K cd_f_law_walked "_law_walked" = true) (z4_f_law_walked : PySem.W.keepIn K (.ref a_f_law_walked) = true)
    (z1_flaw : PySem.W.nsIn K mainGlobals "law" = some (some (.ref a_flaw)))
    (z2_flaw : K.lookup a_flaw = some ⟨oc_flaw, od_flaw, .func (PySem.W.fnOf "law" "law" (defArgs s_flaw) (defBody s_flaw) (defScope s_flaw) .none kV_flaw dc_flaw pm_flaw an_flaw cd_flaw ct_flaw), sl_flaw⟩)
    (z3_flaw : PySem.W.codeIn K cd_flaw "law" = true) (z4_flaw : PySem.W.keepIn K (.ref a_flaw) = true) :
    ∃ fd : FuncData, (∀ (s : Shared) (v : Value), BindsTo s fd ⟨[v], []⟩ [("_law_script", v)]) ∧ ∀ base : Heap, K.In base → base.Ns mainGlobals mg → FnOk l.prog w K mg base CX0 5 fa fd ["_law_script"] (sp_flaw K) := by
  have e := hfa.symm.trans (PySem.W.mg_of X G z1_flaw)
  cases e
  have T : Txt K mg ⟨a_fprice_row, PySem.W.fnOf "price_row" "price_row" (defArgs s_fprice_row) (defBody s_fprice_row) (defScope s_fprice_row) .none kV_fprice_row dc_fprice_row pm_fprice_row an_fprice_row cd_fprice_row ct_fprice_row, a_fprices, PySem.W.fnOf "prices" "prices" (defArgs s_fprices) (defBody s_fprices) (defScope s_fprices) .none kV_fprices dc_fprices pm_fprices an_fprices cd_fprices ct_fprices, a_fdiffer_little, PySem.W.fnOf "differ_little" "differ_little" (defArgs s_fdiffer_little) (defBody s_fdiffer_little) (defScope s_fdiffer_little) .none kV_fdiffer_little dc_fdiffer_little pm_fdiffer_little an_fdiffer_little cd_fdiffer_little ct_fdiffer_little, a_fis_square, PySem.W.fnOf "is_square" "is_square" (defArgs s_fis_square) (defBody s_fis_square) (defScope s_fis_square) .none kV_fis_square dc_fis_square pm_fis_square an_fis_square cd_fis_square ct_fis_square, a_fare_prices, PySem.W.fnOf "are_prices" "are_prices" (defArgs s_fare_prices) (defBody s_fare_prices) (defScope s_fare_prices) .none kV_fare_prices dc_fare_prices pm_fare_prices an_fare_prices cd_fare_prices ct_fare_prices, a_falike_ahead, PySem.W.fnOf "alike_ahead" "alike_ahead" (defArgs s_falike_ahead) (defBody s_falike_ahead) (defScope s_falike_ahead) .none kV_falike_ahead dc_falike_ahead pm_falike_ahead an_falike_ahead cd_falike_ahead ct_falike_ahead, a_fsteps_between, PySem.W.fnOf "steps_between" "steps_between" (defArgs s_fsteps_between) (defBody s_fsteps_between) (defScope s_fsteps_between) .none kV_fsteps_between dc_fsteps_between pm_fsteps_between an_fsteps_between cd_fsteps_between ct_fsteps_between, a_fgathered, PySem.W.fnOf "gathered" "gathered" (defArgs s_fgathered) (defBody s_fgathered) (defScope s_fgathered) .none kV_fgathered dc_fgathered pm_fgathered an_fgathered cd_fgathered ct_fgathered, a_fjoined, PySem.W.fnOf "joined" "joined" (defArgs s_fjoined) (defBody s_fjoined) (defScope s_fjoined) .none kV_fjoined dc_fjoined pm_fjoined an_fjoined cd_fjoined ct_fjoined, a_fleast_change, PySem.W.fnOf "least_change" "least_change" (defArgs s_fleast_change) (defBody s_fleast_change) (defScope s_fleast_change) .none kV_fleast_change dc_fleast_change pm_fleast_change an_fleast_change cd_fleast_change ct_fleast_change, a_fcost_of, PySem.W.fnOf "cost_of" "cost_of" (defArgs s_fcost_of) (defBody s_fcost_of) (defScope s_fcost_of) .none kV_fcost_of dc_fcost_of pm_fcost_of an_fcost_of cd_fcost_of ct_fcost_of, a_f_law_begun, PySem.W.fnOf "_law_begun" "_law_begun" (defArgs s_f_law_begun) (defBody s_f_law_begun) (defScope s_f_law_begun) .none kV_f_law_begun dc_f_law_begun pm_f_law_begun an_f_law_begun cd_f_law_begun ct_f_law_begun, a_f_law_draw, PySem.W.fnOf "_law_draw" "_law_draw" (defArgs s_f_law_draw) (defBody s_f_law_draw) (defScope s_f_law_draw) .none kV_f_law_draw dc_f_law_draw pm_f_law_draw an_f_law_draw cd_f_law_draw ct_f_law_draw, a_f_law_menu, PySem.W.fnOf "_law_menu" "_law_menu" (defArgs s_f_law_menu) (defBody s_f_law_menu) (defScope s_f_law_menu) .none kV_f_law_menu dc_f_law_menu pm_f_law_menu an_f_law_menu cd_f_law_menu ct_f_law_menu, a_f_law_texts, PySem.W.fnOf "_law_texts" "_law_texts" (defArgs s_f_law_texts) (defBody s_f_law_texts) (defScope s_f_law_texts) .none kV_f_law_texts dc_f_law_texts pm_f_law_texts an_f_law_texts cd_f_law_texts ct_f_law_texts, a_f_law_near, PySem.W.fnOf "_law_near" "_law_near" (defArgs s_f_law_near) (defBody s_f_law_near) (defScope s_f_law_near) .none kV_f_law_near dc_f_law_near pm_f_law_near an_f_law_near cd_f_law_near ct_f_law_near, a_f_law_two, PySem.W.fnOf "_law_two" "_law_two" (defArgs s_f_law_two) (defBody s_f_law_two) (defScope s_f_law_two) .none kV_f_law_two dc_f_law_two pm_f_law_two an_f_law_two cd_f_law_two ct_f_law_two, a_f_law_costs, PySem.W.fnOf "_law_costs" "_law_costs" (defArgs s_f_law_costs) (defBody s_f_law_costs) (defScope s_f_law_costs) .none kV_f_law_costs dc_f_law_costs pm_f_law_costs an_f_law_costs cd_f_law_costs ct_f_law_costs, a_f_law_bent, PySem.W.fnOf "_law_bent" "_law_bent" (defArgs s_f_law_bent) (defBody s_f_law_bent) (defScope s_f_law_bent) .none kV_f_law_bent dc_f_law_bent pm_f_law_bent an_f_law_bent cd_f_law_bent ct_f_law_bent, a_f_law_free, PySem.W.fnOf "_law_free" "_law_free" (defArgs s_f_law_free) (defBody s_f_law_free) (defScope s_f_law_free) .none kV_f_law_free dc_f_law_free pm_f_law_free an_f_law_free cd_f_law_free ct_f_law_free, a_f_law_tables, PySem.W.fnOf "_law_tables" "_law_tables" (defArgs s_f_law_tables) (defBody s_f_law_tables) (defScope s_f_law_tables) .none kV_f_law_tables dc_f_law_tables pm_f_law_tables an_f_law_tables cd_f_law_tables ct_f_law_tables, a_f_law_walked, PySem.W.fnOf "_law_walked" "_law_walked" (defArgs s_f_law_walked) (defBody s_f_law_walked) (defScope s_f_law_walked) .none kV_f_law_walked dc_f_law_walked pm_f_law_walked an_f_law_walked cd_f_law_walked ct_f_law_walked, fa, PySem.W.fnOf "law" "law" (defArgs s_flaw) (defBody s_flaw) (defScope s_flaw) .none kV_flaw dc_flaw pm_flaw an_flaw cd_flaw ct_flaw⟩ (fun x => 0) := by
    refine ⟨PySem.W.mg_none_of X G zb_all, PySem.W.mg_none_of X G zb_len, PySem.W.mg_none_of X G zb_list, PySem.W.mg_none_of X G zb_max, PySem.W.mg_none_of X G zb_min, PySem.W.mg_none_of X G zb_range, PySem.W.mg_none_of X G zb_sum, PySem.W.mg_none_of X G zb_zip, fun_mk (st := s_fprice_row) z2_fprice_row z3_fprice_row z4_fprice_row, PySem.W.mg_of X G z1_fprice_row, z4_fprice_row, (fun_mk (st := s_fprice_row) z2_fprice_row z3_fprice_row z4_fprice_row).binds (ps := ["text", "other", "below", "last"]) fun _ _ _ _ _ _ us hl => match us, hl with | [_, _, _, _], _ => rfl, fun_mk (st := s_fprices) z2_fprices z3_fprices z4_fprices, PySem.W.mg_of X G z1_fprices, z4_fprices, (fun_mk (st := s_fprices) z2_fprices z3_fprices z4_fprices).binds (ps := ["one", "other"]) fun _ _ _ _ _ _ us hl => match us, hl with | [_, _], _ => rfl, fun_mk (st := s_fdiffer_little) z2_fdiffer_little z3_fdiffer_little z4_fdiffer_little, PySem.W.mg_of X G z1_fdiffer_little, z4_fdiffer_little, (fun_mk (st := s_fdiffer_little) z2_fdiffer_little z3_fdiffer_little z4_fdiffer_little).binds (ps := ["some", "others"]) fun _ _ _ _ _ _ us hl => match us, hl with | [_, _], _ => rfl, fun_mk (st := s_fis_square) z2_fis_square z3_fis_square z4_fis_square, PySem.W.mg_of X G z1_fis_square, z4_fis_square, (fun_mk (st := s_fis_square) z2_fis_square z3_fis_square z4_fis_square).binds (ps := ["some", "many", "of_each"]) fun _ _ _ _ _ _ us hl => match us, hl with | [_, _, _], _ => rfl, fun_mk (st := s_fare_prices) z2_fare_prices z3_fare_prices z4_fare_prices, PySem.W.mg_of X G z1_fare_prices, z4_fare_prices, (fun_mk (st := s_fare_prices) z2_fare_prices z3_fare_prices z4_fare_prices).binds (ps := ["one", "other", "some"]) fun _ _ _ _ _ _ us hl => match us, hl with | [_, _, _], _ => rfl, fun_mk (st := s_falike_ahead) z2_falike_ahead z3_falike_ahead z4_falike_ahead, PySem.W.mg_of X G z1_falike_ahead, z4_falike_ahead, (fun_mk (st := s_falike_ahead) z2_falike_ahead z3_falike_ahead z4_falike_ahead).binds (ps := ["one", "other"]) fun _ _ _ _ _ _ us hl => match us, hl with | [_, _], _ => rfl, fun_mk (st := s_fsteps_between) z2_fsteps_between z3_fsteps_between z4_fsteps_between, PySem.W.mg_of X G z1_fsteps_between, z4_fsteps_between, (fun_mk (st := s_fsteps_between) z2_fsteps_between z3_fsteps_between z4_fsteps_between).binds (ps := ["one", "other"]) fun _ _ _ _ _ _ us hl => match us, hl with | [_, _], _ => rfl, fun_mk (st := s_fgathered) z2_fgathered z3_fgathered z4_fgathered, PySem.W.mg_of X G z1_fgathered, z4_fgathered, (fun_mk (st := s_fgathered) z2_fgathered z3_fgathered z4_fgathered).binds (ps := ["outs", "puts"]) fun _ _ _ _ _ _ us hl => match us, hl with | [_, _], _ => rfl, fun_mk (st := s_fjoined) z2_fjoined z3_fjoined z4_fjoined, PySem.W.mg_of X G z1_fjoined, z4_fjoined, (fun_mk (st := s_fjoined) z2_fjoined z3_fjoined z4_fjoined).binds (ps := ["steps"]) fun _ _ _ _ _ _ us hl => match us, hl with | [_], _ => rfl, fun_mk (st := s_fleast_change) z2_fleast_change z3_fleast_change z4_fleast_change, PySem.W.mg_of X G z1_fleast_change, z4_fleast_change, (fun_mk (st := s_fleast_change) z2_fleast_change z3_fleast_change z4_fleast_change).binds (ps := ["one", "other"]) fun _ _ _ _ _ _ us hl => match us, hl with | [_, _], _ => rfl, fun_mk (st := s_fcost_of) z2_fcost_of z3_fcost_of z4_fcost_of, PySem.W.mg_of X G z1_fcost_of, z4_fcost_of, (fun_mk (st := s_fcost_of) z2_fcost_of z3_fcost_of z4_fcost_of).binds (ps := ["change"]) fun _ _ _ _ _ _ us hl => match us, hl with | [_], _ => rfl, fun_mk (st := s_f_law_begun) z2_f_law_begun z3_f_law_begun z4_f_law_begun, PySem.W.mg_of X G z1_f_law_begun, z4_f_law_begun, (fun_mk (st := s_f_law_begun) z2_f_law_begun z3_f_law_begun z4_f_law_begun).binds (ps := ["_law_script", "_law_k"]) fun _ _ _ _ _ _ us hl => match us, hl with | [_, _], _ => rfl, fun_mk (st := s_f_law_draw) z2_f_law_draw z3_f_law_draw z4_f_law_draw, PySem.W.mg_of X G z1_f_law_draw, z4_f_law_draw, (fun_mk (st := s_f_law_draw) z2_f_law_draw z3_f_law_draw z4_f_law_draw).binds (ps := ["_law_state", "_law_many"]) fun _ _ _ _ _ _ us hl => match us, hl with | [_, _], _ => rfl, fun_mk (st := s_f_law_menu) z2_f_law_menu z3_f_law_menu z4_f_law_menu, PySem.W.mg_of X G z1_f_law_menu, z4_f_law_menu, (fun_mk (st := s_f_law_menu) z2_f_law_menu z3_f_law_menu z4_f_law_menu).binds (ps := ["_law_script"]) fun _ _ _ _ _ _ us hl => match us, hl with | [_], _ => rfl, fun_mk (st := s_f_law_texts) z2_f_law_texts z3_f_law_texts z4_f_law_texts, PySem.W.mg_of X G z1_f_law_texts, z4_f_law_texts, (fun_mk (st := s_f_law_texts) z2_f_law_texts z3_f_law_texts z4_f_law_texts).binds (ps := ["_law_script", "_law_k", "_law_menu_here"]) fun _ _ _ _ _ _ us hl => match us, hl with | [_, _, _], _ => rfl, fun_mk (st := s_f_law_near) z2_f_law_near z3_f_law_near z4_f_law_near, PySem.W.mg_of X G z1_f_law_near, z4_f_law_near, (fun_mk (st := s_f_law_near) z2_f_law_near z3_f_law_near z4_f_law_near).binds (ps := ["_law_script", "_law_k", "_law_menu_here", "_law_one"]) fun _ _ _ _ _ _ us hl => match us, hl with | [_, _, _, _], _ => rfl, fun_mk (st := s_f_law_two) z2_f_law_two z3_f_law_two z4_f_law_two, PySem.W.mg_of X G z1_f_law_two, z4_f_law_two, (fun_mk (st := s_f_law_two) z2_f_law_two z3_f_law_two z4_f_law_two).binds (ps := ["_law_script"]) fun _ _ _ _ _ _ us hl => match us, hl with | [_], _ => rfl, fun_mk (st := s_f_law_costs) z2_f_law_costs z3_f_law_costs z4_f_law_costs, PySem.W.mg_of X G z1_f_law_costs, z4_f_law_costs, (fun_mk (st := s_f_law_costs) z2_f_law_costs z3_f_law_costs z4_f_law_costs).binds (ps := ["_law_one", "_law_other"]) fun _ _ _ _ _ _ us hl => match us, hl with | [_, _], _ => rfl, fun_mk (st := s_f_law_bent) z2_f_law_bent z3_f_law_bent z4_f_law_bent, PySem.W.mg_of X G z1_f_law_bent, z4_f_law_bent, (fun_mk (st := s_f_law_bent) z2_f_law_bent z3_f_law_bent z4_f_law_bent).binds (ps := ["_law_state", "_law_rows"]) fun _ _ _ _ _ _ us hl => match us, hl with | [_, _], _ => rfl, fun_mk (st := s_f_law_free) z2_f_law_free z3_f_law_free z4_f_law_free, PySem.W.mg_of X G z1_f_law_free, z4_f_law_free, (fun_mk (st := s_f_law_free) z2_f_law_free z3_f_law_free z4_f_law_free).binds (ps := ["_law_state", "_law_one", "_law_other"]) fun _ _ _ _ _ _ us hl => match us, hl with | [_, _, _], _ => rfl, fun_mk (st := s_f_law_tables) z2_f_law_tables z3_f_law_tables z4_f_law_tables, PySem.W.mg_of X G z1_f_law_tables, z4_f_law_tables, (fun_mk (st := s_f_law_tables) z2_f_law_tables z3_f_law_tables z4_f_law_tables).binds (ps := ["_law_script", "_law_one", "_law_other"]) fun _ _ _ _ _ _ us hl => match us, hl with | [_, _, _], _ => rfl, fun_mk (st := s_f_law_walked) z2_f_law_walked z3_f_law_walked z4_f_law_walked, PySem.W.mg_of X G z1_f_law_walked, z4_f_law_walked, (fun_mk (st := s_f_law_walked) z2_f_law_walked z3_f_law_walked z4_f_law_walked).binds (ps := ["_law_state", "_law_one", "_law_other"]) fun _ _ _ _ _ _ us hl => match us, hl with | [_, _, _], _ => rfl, fun_mk (st := s_flaw) z2_flaw z3_flaw z4_flaw, PySem.W.mg_of X G z1_flaw, z4_flaw, (fun_mk (st := s_flaw) z2_flaw z3_flaw z4_flaw).binds (ps := ["_law_script"]) fun _ _ _ _ _ _ us hl => match us, hl with | [_], _ => rfl⟩
  refine ⟨PySem.W.fnOf "law" "law" (defArgs s_flaw) (defBody s_flaw) (defScope s_flaw) .none kV_flaw dc_flaw pm_flaw an_flaw cd_flaw ct_flaw, fun s v => .of_eq rfl, fun base _ _ => ?_⟩
  have r_fprice_row := ok_fprice_row (P := l.prog) (w := w) (base := base) T
  have r_fdiffer_little := ok_fdiffer_little (P := l.prog) (w := w) (base := base) T
  have r_fis_square := ok_fis_square (P := l.prog) (w := w) (base := base) T
  have r_falike_ahead := ok_falike_ahead (P := l.prog) (w := w) (base := base) T
  have r_fgathered := ok_fgathered (P := l.prog) (w := w) (base := base) T
  have r_fcost_of := ok_fcost_of (P := l.prog) (w := w) (base := base) T
  have r_f_law_begun := ok_f_law_begun (P := l.prog) (w := w) (base := base) T
  have r_f_law_draw := ok_f_law_draw (P := l.prog) (w := w) (base := base) T
  have r_f_law_costs := ok_f_law_costs (P := l.prog) (w := w) (base := base) T
  have r_fprices := ok_fprices (P := l.prog) (w := w) (base := base) T r_fprice_row
  have r_fare_prices := ok_fare_prices (P := l.prog) (w := w) (base := base) T r_fdiffer_little r_fis_square
  have r_fjoined := ok_fjoined (P := l.prog) (w := w) (base := base) T r_fgathered
  have r_f_law_menu := ok_f_law_menu (P := l.prog) (w := w) (base := base) T r_f_law_begun r_f_law_draw
  have r_f_law_texts := ok_f_law_texts (P := l.prog) (w := w) (base := base) T r_f_law_begun r_f_law_draw
  have r_f_law_near := ok_f_law_near (P := l.prog) (w := w) (base := base) T r_f_law_begun r_f_law_draw
  have r_f_law_bent := ok_f_law_bent (P := l.prog) (w := w) (base := base) T r_f_law_draw
  have r_f_law_free := ok_f_law_free (P := l.prog) (w := w) (base := base) T r_f_law_draw
  have r_f_law_walked := ok_f_law_walked (P := l.prog) (w := w) (base := base) T r_f_law_draw
  have r_fsteps_between := ok_fsteps_between (P := l.prog) (w := w) (base := base) T r_fprices
  have r_f_law_two := ok_f_law_two (P := l.prog) (w := w) (base := base) T r_f_law_begun r_f_law_draw r_f_law_menu r_f_law_near r_f_law_texts
  have r_f_law_tables := ok_f_law_tables (P := l.prog) (w := w) (base := base) T r_f_law_begun r_f_law_bent r_f_law_costs r_f_law_free
  have r_fleast_change := ok_fleast_change (P := l.prog) (w := w) (base := base) T r_falike_ahead r_fjoined r_fsteps_between
  exact ok_flaw T r_f_law_begun r_f_law_tables r_f_law_two r_f_law_walked r_fare_prices r_fcost_of r_fleast_change r_fprices
end My
open PySem PySem.W PyProof.Rows
set_option maxRecDepth 100000 in
set_option maxHeartbeats 0 in
theorem PySem.Challenge.cw_pagefolk_k76_whole_no_change_cheaper_holds : PySem.Challenge.rw_pagefolk_k76_whole_no_change_cheaper.Holds := by
  w_on; o_law; k_head; (case hw => w_witness2)
  k_fill
  refine L2.walk_ofK (l := PySem.Challenge.rw_pagefolk_k76_whole_no_change_cheaper) (n := 63) (k := 5) (x := "_law_script") (CX := L2.CX0) (sp := My.sp_flaw) rfl (by decide) rfl ⟨rfl, by decide, by decide⟩ (fun w h Y => PySem.W.kIn_of Y) ?F My.law_spec (fun _ _ _ _ z => z)
  case F =>
    intro w mg fa h KX G hmg
    refine' My.all_mk KX G hmg ?zb_all ?zb_len ?zb_list ?zb_max ?zb_min ?zb_range ?zb_sum ?zb_zip ?z1_fprice_row ?z2_fprice_row ?z3_fprice_row ?z4_fprice_row ?z1_fprices ?z2_fprices ?z3_fprices ?z4_fprices ?z1_fdiffer_little ?z2_fdiffer_little ?z3_fdiffer_little ?z4_fdiffer_little ?z1_fis_square ?z2_fis_square ?z3_fis_square ?z4_fis_square ?z1_fare_prices ?z2_fare_prices ?z3_fare_prices ?z4_fare_prices ?z1_falike_ahead ?z2_falike_ahead ?z3_falike_ahead ?z4_falike_ahead ?z1_fsteps_between ?z2_fsteps_between ?z3_fsteps_between ?z4_fsteps_between ?z1_fgathered ?z2_fgathered ?z3_fgathered ?z4_fgathered ?z1_fjoined ?z2_fjoined ?z3_fjoined ?z4_fjoined ?z1_fleast_change ?z2_fleast_change ?z3_fleast_change ?z4_fleast_change ?z1_fcost_of ?z2_fcost_of ?z3_fcost_of ?z4_fcost_of ?z1_f_law_begun ?z2_f_law_begun ?z3_f_law_begun ?z4_f_law_begun ?z1_f_law_draw ?z2_f_law_draw ?z3_f_law_draw ?z4_f_law_draw ?z1_f_law_menu ?z2_f_law_menu ?z3_f_law_menu ?z4_f_law_menu ?z1_f_law_texts ?z2_f_law_texts ?z3_f_law_texts ?z4_f_law_texts ?z1_f_law_near ?z2_f_law_near ?z3_f_law_near ?z4_f_law_near ?z1_f_law_two ?z2_f_law_two ?z3_f_law_two ?z4_f_law_two ?z1_f_law_costs ?z2_f_law_costs ?z3_f_law_costs ?z4_f_law_costs ?z1_f_law_bent ?z2_f_law_bent ?z3_f_law_bent ?z4_f_law_bent ?z1_f_law_free ?z2_f_law_free ?z3_f_law_free ?z4_f_law_free ?z1_f_law_tables ?z2_f_law_tables ?z3_f_law_tables ?z4_f_law_tables ?z1_f_law_walked ?z2_f_law_walked ?z3_f_law_walked ?z4_f_law_walked ?z1_flaw ?z2_flaw ?z3_flaw ?z4_flaw
    (case zb_all => k_is)
    (case zb_len => k_is)
    (case zb_list => k_is)
    (case zb_max => k_is)
    (case zb_min => k_is)
    (case zb_range => k_is)
    (case zb_sum => k_is)
    (case zb_zip => k_is)
    (case z1_fprice_row => k_is)
    (case z2_fprice_row => k_is)
    (case z3_fprice_row => k_is)
    (case z4_fprice_row => k_is)
    (case z1_fprices => k_is)
    (case z2_fprices => k_is)
    (case z3_fprices => k_is)
    (case z4_fprices => k_is)
    (case z1_fdiffer_little => k_is)
    (case z2_fdiffer_little => k_is)
    (case z3_fdiffer_little => k_is)
    (case z4_fdiffer_little => k_is)
    (case z1_fis_square => k_is)
    (case z2_fis_square => k_is)
    (case z3_fis_square => k_is)
    (case z4_fis_square => k_is)
    (case z1_fare_prices => k_is)
    (case z2_fare_prices => k_is)
    (case z3_fare_prices => k_is)
    (case z4_fare_prices => k_is)
    (case z1_falike_ahead => k_is)
    (case z2_falike_ahead => k_is)
    (case z3_falike_ahead => k_is)
    (case z4_falike_ahead => k_is)
    (case z1_fsteps_between => k_is)
    (case z2_fsteps_between => k_is)
    (case z3_fsteps_between => k_is)
    (case z4_fsteps_between => k_is)
    (case z1_fgathered => k_is)
    (case z2_fgathered => k_is)
    (case z3_fgathered => k_is)
    (case z4_fgathered => k_is)
    (case z1_fjoined => k_is)
    (case z2_fjoined => k_is)
    (case z3_fjoined => k_is)
    (case z4_fjoined => k_is)
    (case z1_fleast_change => k_is)
    (case z2_fleast_change => k_is)
    (case z3_fleast_change => k_is)
    (case z4_fleast_change => k_is)
    (case z1_fcost_of => k_is)
    (case z2_fcost_of => k_is)
    (case z3_fcost_of => k_is)
    (case z4_fcost_of => k_is)
    (case z1_f_law_begun => k_is)
    (case z2_f_law_begun => k_is)
    (case z3_f_law_begun => k_is)
    (case z4_f_law_begun => k_is)
    (case z1_f_law_draw => k_is)
    (case z2_f_law_draw => k_is)
    (case z3_f_law_draw => k_is)
    (case z4_f_law_draw => k_is)
    (case z1_f_law_menu => k_is)
    (case z2_f_law_menu => k_is)
    (case z3_f_law_menu => k_is)
    (case z4_f_law_menu => k_is)
    (case z1_f_law_texts => k_is)
    (case z2_f_law_texts => k_is)
    (case z3_f_law_texts => k_is)
    (case z4_f_law_texts => k_is)
    (case z1_f_law_near => k_is)
    (case z2_f_law_near => k_is)
    (case z3_f_law_near => k_is)
    (case z4_f_law_near => k_is)
    (case z1_f_law_two => k_is)
    (case z2_f_law_two => k_is)
    (case z3_f_law_two => k_is)
    (case z4_f_law_two => k_is)
    (case z1_f_law_costs => k_is)
    (case z2_f_law_costs => k_is)
    (case z3_f_law_costs => k_is)
    (case z4_f_law_costs => k_is)
    (case z1_f_law_bent => k_is)
    (case z2_f_law_bent => k_is)
    (case z3_f_law_bent => k_is)
    (case z4_f_law_bent => k_is)
    (case z1_f_law_free => k_is)
    (case z2_f_law_free => k_is)
    (case z3_f_law_free => k_is)
    (case z4_f_law_free => k_is)
    (case z1_f_law_tables => k_is)
    (case z2_f_law_tables => k_is)
    (case z3_f_law_tables => k_is)
    (case z4_f_law_tables => k_is)
    (case z1_f_law_walked => k_is)
    (case z2_f_law_walked => k_is)
    (case z3_f_law_walked => k_is)
    (case z4_f_law_walked => k_is)
    (case z1_flaw => k_is)
    (case z2_flaw => k_is)
    (case z3_flaw => k_is)
    (case z4_flaw => k_is)
