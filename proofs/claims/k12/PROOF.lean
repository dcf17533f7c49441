import PyProof.Rows.All
import Wide.All
import OpenK.AllK
import Wide.FinOn
import Lean
import PyProof.EqAt
import PyProof.EqKinds
import PyProof.TupleCall
import KE.KSortTup
import KE.KDictOf
import PyProof.AttrMissHeap
import KE.KSortKey
import KE.KNestM
import KE.KLam
import PySem.Challenge.RW_pagefolk_k12_rows_in_order
set_option Elab.async false
set_option linter.all false
set_option maxRecDepth 100000
namespace L2
open PySem PySem.Spec PyProof.Rows
abbrev Key := Sum Int Str
def keyIs : Key → Value → Bool
  | .inl k, v => Value.isInt k v
  | .inr x, v => Value.isStrOf x v
def keyH (w : World) : Key → Int
  | .inl k => hashInt k
  | .inr x => hashStr w x
theorem keyIs_shape : ∀ {k : Key} {v : Value}, keyIs k v = true → (∃ i t, k = Sum.inl i ∧ v = Value.int i t) ∨ (∃ x t, k = Sum.inr x ∧ v = Value.str x t)
  | .inl i, v, h => by
    obtain ⟨t, e⟩ := Value.isInt_shape (k := i) (v := v) h
    exact .inl ⟨i, t, rfl, e⟩
  | .inr x, v, h => by
    obtain ⟨t, e⟩ := Value.isStrOf_shape (x := x) (v := v) h
    exact .inr ⟨x, t, rfl, e⟩
theorem keyIs_int (i : Int) (t : Tok) : keyIs (.inl i) (.int i t) = true := by simp [keyIs, Value.isInt]
theorem keyIs_str (x : Str) (t : Tok) : keyIs (.inr x) (.str x t) = true := by simp [keyIs, Value.isStrOf]
theorem key_ll (a b : Int) : decide ((Sum.inl a : Key) = Sum.inl b) = (a == b) := by
  by_cases e : a = b
  · subst e; simp
  · have h : ¬ (Sum.inl a : Key) = Sum.inl b := fun q => e (Sum.inl.inj q)
    rw [decide_eq_false h]
    exact (beq_eq_false_iff_ne.mpr e).symm
theorem key_rr (a b : Str) : decide ((Sum.inr a : Key) = Sum.inr b) = decide (a = b) := by
  by_cases e : a = b
  · subst e; simp
  · have h : ¬ (Sum.inr a : Key) = Sum.inr b := fun q => e (Sum.inr.inj q)
    rw [decide_eq_false h, decide_eq_false e]
theorem key_lr (a : Int) (b : Str) : decide ((Sum.inl a : Key) = Sum.inr b) = false := decide_eq_false (fun q => nomatch q)
theorem key_rl (a : Str) (b : Int) : decide ((Sum.inr a : Key) = Sum.inl b) = false := decide_eq_false (fun q => nomatch q)
def mixKind (prog : Program) (w : World) : PySem.KeyKind prog w Key where
  is := keyIs
  hash := keyH w
  inj := fun v a b ha hb => by
    rcases keyIs_shape ha with ⟨i, t, rfl, rfl⟩ | ⟨x, t, rfl, rfl⟩
    · rcases keyIs_shape hb with ⟨j, u, rfl, e⟩ | ⟨y, u, rfl, e⟩
      · injection e with e1 _; rw [e1]
      · exact nomatch e
    · rcases keyIs_shape hb with ⟨j, u, rfl, e⟩ | ⟨y, u, rfl, e⟩
      · exact nomatch e
      · injection e with e1 _; rw [e1]
  byValue := fun k v h => by
    rcases keyIs_shape h with ⟨i, t, rfl, rfl⟩ | ⟨x, t, rfl, rfl⟩ <;> rfl
  pyHash := fun hv h => by
    rcases keyIs_shape hv with ⟨i, t, rfl, rfl⟩ | ⟨x, t, rfl, rfl⟩
    · exact wpAny_pyHash_int h
    · exact wpAny_pyHash_str h
  eqBool := fun hu hv h => by
    rcases keyIs_shape hu with ⟨i, t, rfl, rfl⟩ | ⟨x, t, rfl, rfl⟩
    · rcases keyIs_shape hv with ⟨j, u, rfl, rfl⟩ | ⟨y, u, rfl, rfl⟩
      · rw [key_ll] at h; exact wpAny_eqBool_int h
      · rw [key_lr] at h; exact SeqAt.EqAt.int_str i t y u _ _ _ _ h
    · rcases keyIs_shape hv with ⟨j, u, rfl, rfl⟩ | ⟨y, u, rfl, rfl⟩
      · rw [key_rl] at h; exact SeqAt.EqAt.str_int x t j u _ _ _ _ h
      · rw [key_rr] at h; exact wpAny_eqBool_str h
  «strs» := fun k x t v h => by
    rcases keyIs_shape h with ⟨i, u, rfl, e⟩ | ⟨y, u, rfl, e⟩
    · exact nomatch e
    · injection e with e1 _
      subst e1
      cases v <;> rfl
theorem mixKind_int (prog : Program) (w : World) (i : Int) (t : Tok) : (mixKind prog w).is (.inl i) (.int i t) = true := keyIs_int i t
theorem mixKind_str (prog : Program) (w : World) (x : Str) (t : Tok) : (mixKind prog w).is (.inr x) (.str x t) = true := keyIs_str x t
end L2
namespace L2
open PySem PySem.Spec PyProof.Rows
inductive V where
  | non | bl (b : Bool) | int (i : Int) | str (x : Str) | byt (b : Array UInt8) | flt (b : UInt64) | ref (a : Addr) | ty (n : String)
  deriving DecidableEq
def RelV : V → Value → Prop
  | .non, u => u = Value.none
  | .bl b, u => u = Value.bool b
  | .int i, u => ∃ t, u = Value.int i t
  | .str x, u => ∃ t, u = Value.str x t
  | .byt b, u => ∃ t, u = Value.bytes b t
  | .flt b, u => ∃ t, u = Value.float b t
  | .ref a, u => u = Value.ref a
  | .ty n, u => u = Value.type n
abbrev Vals : List V → List Value → Prop := Paired RelV
theorem Vals.length {xs : List V} {us : List Value} (r : Vals xs us) : xs.length = us.length := Paired.length r
theorem Vals.get : ∀ {xs : List V} {us : List Value} {i : Nat} {x : V}, Vals xs us → xs[i]? = some x → ∃ u, us[i]? = some u ∧ RelV x u
  | _, _, _, _, .nil, e => by simp at e
  | _, _, 0, _, .cons r _, e => by simp at e; subst e; exact ⟨_, rfl, r⟩
  | _, _, i + 1, x, .cons _ t, e => by
    obtain ⟨u, h1, h2⟩ := Vals.get (i := i) (x := x) t (by simpa using e)
    exact ⟨u, by simpa using h1, h2⟩
theorem Vals.set {x : V} {u : Value} (r : RelV x u) : ∀ {xs : List V} {us : List Value} (i : Nat), Vals xs us → Vals (xs.set i x) (us.set i u)
  | _, _, _, .nil => .nil
  | _, _, 0, .cons _ t => .cons r t
  | _, _, i + 1, .cons q t => .cons q (Vals.set r i t)
theorem Vals.append : ∀ {xs ys : List V} {us ws : List Value}, Vals xs us → Vals ys ws → Vals (xs ++ ys) (us ++ ws)
  | _, _, _, _, .nil, s => s
  | _, _, _, _, .cons r t, s => .cons r (Vals.append t s)
theorem Vals.take : ∀ {xs : List V} {us : List Value} (n : Nat), Vals xs us → Vals (xs.take n) (us.take n)
  | _, _, 0, _ => .nil
  | _, _, _ + 1, .nil => .nil
  | _, _, n + 1, .cons r t => .cons r (Vals.take n t)
theorem Vals.drop : ∀ {xs : List V} {us : List Value} (n : Nat), Vals xs us → Vals (xs.drop n) (us.drop n)
  | _, _, 0, r => r
  | _, _, _ + 1, .nil => .nil
  | _, _, n + 1, .cons _ t => Vals.drop n t
def RelO : Option V → Option Value → Prop
  | some v, some u => RelV v u
  | none, none => True
  | _, _ => False
def KV {κ : Type} : List (κ × V) → List (κ × Value) → Prop := Paired fun (p : κ × V) (q : κ × Value) => p.1 = q.1 ∧ RelV p.2 q.2
def kV : Key → V
  | .inl i => .int i
  | .inr x => .str x
inductive KD where
  | non
  | int (i : Int)
  | tup (ks : List Key)
deriving DecidableEq
def gHash (P : Program) (w : World) : KD → Int
  | .non => 4238894112
  | .int i => hashInt i
  | .tup ks => (tupleKind (mixKind P w)).hash ks
def gEnt (P : Program) (w : World) (x : KD × Value × Value) : DictEntry := ⟨gHash P w x.1, x.2.1, x.2.2⟩
inductive HO where
  | lst (xs : List V)
  | tup (xs : List V)
  | dK (kvs : List (Key × V)) | dT (kvs : List (List Key × V))
  | dG (kvs : List (KD × V × V))
  | set (S : Int → Bool) (n : Nat)
  | ins (C dx : Addr) (fs : List (Str × V))
  | own (x : Addr)
  | xd (fs : List (Str × V))
  | met (f x : Addr)
  | rng (lo hi : Int)
  | frz (o : Obj) (u : HO)
  | tbl (ps : Array Value)
  | ext (φ : Heap → Prop)
abbrev Hp := Addr → Option HO
def GK (H : Hp) : KD → V → Prop
  | .non, v => v = .non
  | .int i, v => v = .int i
  | .tup ks, v => ∃ b, v = .ref b ∧ H b = some (.tup (ks.map kV))
def upd (H : Hp) (a : Addr) (o : HO) : Hp := fun b => if b = a then some o else H b
theorem upd_same {H : Hp} {a : Addr} {o : HO} : upd H a o a = some o := by unfold upd; rw [if_pos rfl]
theorem upd_ne {H : Hp} {a b : Addr} {o : HO} (h : b ≠ a) : upd H a o b = H b := by unfold upd; rw [if_neg h]
theorem ne_of {H : Hp} {a b : Addr} {o u : HO} (h : H a = some o) (h' : H b = some u) (d : o ≠ u) : a ≠ b := by
  intro e; subst e; rw [h] at h'; exact d (Option.some.inj h')
theorem ne_of_none {H : Hp} {a b : Addr} {o : HO} (h : H a = some o) (h' : H b = none) : a ≠ b := by
  intro e; subst e; rw [h] at h'; cases h'
section
variable (P : Program) (w : World)
def ObjOk (H : Hp) (h : Heap) (a : Addr) : HO → Prop
  | .lst xs => xs.length ≤ sizeLine ∧ ∃ (its : List Value) (n : Nat), Vals xs its ∧ h.get? a = some { cls := .type "list", data := .seq its.toArray n }
  | .tup xs => xs.length ≤ sizeLine ∧ ∃ its : List Value, Vals xs its ∧ IsTup h a its.toArray
  | .dK kvs => kvs.length ≤ sizeLine ∧ (a == sysModules) = false ∧ ∃ vs, KV kvs vs ∧ h.DictOf (mixKind P w) a vs
  | .dT kvs => kvs.length ≤ sizeLine ∧ (a == sysModules) = false ∧ ∃ xs : List (List Key × Addr × Value),
      Paired (fun (p : List Key × V) (q : List Key × Addr × Value) => p.1 = q.1 ∧ H q.2.1 = some (.tup (p.1.map kV)) ∧ RelV p.2 q.2.2) kvs xs ∧
      ∃ o es ep, h.get? a = some o ∧ o.ExactDict ∧ o.data = .dict es ep ∧ es.toList = xs.map (entryOfKey (tupleKind (mixKind P w))) ∧ (xs.map (·.1)).Nodup
  | .dG kvs => kvs.length ≤ sizeLine ∧ (a == sysModules) = false ∧ ∃ xs : List (KD × Value × Value),
      Paired (fun (p : KD × V × V) (q : KD × Value × Value) => p.1 = q.1 ∧ GK H p.1 p.2.1 ∧ RelV p.2.1 q.2.1 ∧ RelV p.2.2 q.2.2) kvs xs ∧
      ∃ o es ep, h.get? a = some o ∧ o.ExactDict ∧ o.data = .dict es ep ∧ es.toList = xs.map (gEnt P w) ∧ (xs.map (·.1)).Nodup
  | .set S n => h.SetOf (intKind P w) a S n
  | .ins C dx fs => H dx = some (.own a) ∧ fs.length ≤ 1000 ∧ dx ≠ a ∧ h.get? a = some (PySem.W.instObj C dx) ∧
      ∃ mA, h.Ns1 dx mA ∧ (∀ f, RelO (fs.lookup f) (mA f)) ∧ PySem.Within mA (fs.map (·.1))
  | .own _ => ∃ o, h.get? a = some o
  | .xd fs => ∃ mA, h.Ns1 a mA ∧ ∀ f, RelO (fs.lookup f) (mA f)
  | .rng lo hi => ∃ t u v, h.get? a = some { cls := .type "range", data := .fields #[.int lo t, .int hi u, .int 1 v] }
  | .frz o u => h.get? a = some o ∧ ObjOk H h a u
  | .tbl ps => h.get? a = some { cls := .none, data := .fields ps }
  | .met f x => h.get? a = some (PySem.W.methodObj (.ref f) (.ref x))
  | .ext φ => φ h ∧ (∃ o, h.get? a = some o) ∧ ∀ h1 h2 : Heap, φ h1 → (∀ o, h1.get? a = some o → h2.get? a = some o) → φ h2
def HOk (H : Hp) (h : Heap) : Prop := ∀ a o, H a = some o → ObjOk P w H h a o
end
section
variable {P : Program} {w : World} {H H' : Hp} {h h' : Heap} {a : Addr} {o : HO}
theorem ObjOk.lt (x : ObjOk P w H h a o) : a < h.objs.size := by
  cases o with
  | lst xs => obtain ⟨_, _, _, _, e⟩ := x; exact Heap.lt_size e
  | tup xs => obtain ⟨_, _, _, p⟩ := x; exact p.lt
  | dK kvs => obtain ⟨_, _, _, _, o, _, _, e, _⟩ := x; exact Heap.lt_size e
  | dT kvs => obtain ⟨_, _, _, _, o, _, _, e, _⟩ := x; exact Heap.lt_size e
  | dG kvs => obtain ⟨_, _, _, _, o, _, _, e, _⟩ := x; exact Heap.lt_size e
  | set S n => obtain ⟨o, _, _, _, e, _⟩ := x; exact Heap.lt_size e
  | ins C dx fs => obtain ⟨_, _, _, e, _⟩ := x; exact Heap.lt_size e
  | own y => obtain ⟨_, e⟩ := x; exact Heap.lt_size e
  | xd fs => obtain ⟨_, ⟨_, _, _, e, _⟩, _⟩ := x; exact Heap.lt_size e
  | rng lo hi => obtain ⟨_, _, _, e⟩ := x; exact Heap.lt_size e
  | frz ob u => obtain ⟨e, _⟩ := x; exact Heap.lt_size e
  | tbl ps => exact Heap.lt_size (show h.get? a = some _ from x)
  | met f y => exact Heap.lt_size (show h.get? a = some _ from x)
  | ext φ => obtain ⟨_, ⟨_, e⟩, _⟩ := x; exact Heap.lt_size e
theorem Paired.mapP {α β : Type} {F G : α → β → Prop} : ∀ {l₁ : List α} {l₂ : List β}, Paired F l₁ l₂ → (∀ a b, F a b → G a b) → Paired G l₁ l₂
  | _, _, .nil, _ => .nil
  | _, _, .cons r t, f => .cons (f _ _ r) (Paired.mapP t f)
theorem GK.stay {H H' : Hp} {k : KD} {v : V} (g : GK H k v) (ht : ∀ b xs, H b = some (.tup xs) → H' b = some (.tup xs)) : GK H' k v := by
  cases k with
  | non => exact g
  | int i => exact g
  | tup ks => obtain ⟨b, e, h⟩ := g; exact ⟨b, e, ht _ _ h⟩
theorem ObjOk.stay (x : ObjOk P w H h a o) (k : ∀ b u, (b = a ∨ H b = some (.own a)) → h.get? b = some u → h'.get? b = some u)
    (ho : ∀ b, H b = some (.own a) → H' b = some (.own a)) (ht : ∀ b xs, H b = some (.tup xs) → H' b = some (.tup xs)) : ObjOk P w H' h' a o := by
  induction o with
  | lst xs => obtain ⟨z, its, n, r, e⟩ := x; exact ⟨z, its, n, r, k _ _ (.inl rfl) e⟩
  | tup xs => obtain ⟨z, its, r, ob, e, c⟩ := x; exact ⟨z, its, r, ob, k _ _ (.inl rfl) e, c⟩
  | dK kvs => obtain ⟨z, y, vs, r, ob, es, ep, e, c⟩ := x; exact ⟨z, y, vs, r, ob, es, ep, k _ _ (.inl rfl) e, c⟩
  | dT kvs =>
    obtain ⟨z, y, xs, r, ob, es, ep, e, c⟩ := x
    exact ⟨z, y, xs, Paired.mapP r fun p q z => ⟨z.1, ht _ _ z.2.1, z.2.2⟩, ob, es, ep, k _ _ (.inl rfl) e, c⟩
  | dG kvs =>
    obtain ⟨z, y, xs, r, ob, es, ep, e, c⟩ := x
    exact ⟨z, y, xs, Paired.mapP r fun p q z => ⟨z.1, z.2.1.stay ht, z.2.2⟩, ob, es, ep, k _ _ (.inl rfl) e, c⟩
  | set S n => obtain ⟨ob, es, ep, t, e, c⟩ := x; exact ⟨ob, es, ep, t, k _ _ (.inl rfl) e, c⟩
  | ins C dx fs =>
    obtain ⟨d, z, ne, e, mA, ⟨od, es, ep, e2, c⟩, r⟩ := x
    exact ⟨ho _ d, z, ne, k _ _ (.inl rfl) e, mA, ⟨od, es, ep, k _ _ (.inr d) e2, c⟩, r⟩
  | own y => obtain ⟨ob, e⟩ := x; exact ⟨ob, k _ _ (.inl rfl) e⟩
  | xd fs => obtain ⟨mA, ⟨od, es, ep, e, c⟩, r⟩ := x; exact ⟨mA, ⟨od, es, ep, k _ _ (.inl rfl) e, c⟩, r⟩
  | rng lo hi => obtain ⟨t, u, v, e⟩ := x; exact ⟨t, u, v, k _ _ (.inl rfl) e⟩
  | frz ob u ih => obtain ⟨e, q⟩ := x; exact ⟨k _ _ (.inl rfl) e, ih q⟩
  | tbl ps =>
    have e : h.get? a = some { cls := .none, data := .fields ps } := x
    show h'.get? a = some { cls := .none, data := .fields ps }
    exact k a _ (.inl rfl) e
  | met f y =>
    have e : h.get? a = some (PySem.W.methodObj (.ref f) (.ref y)) := x
    show h'.get? a = some (PySem.W.methodObj (.ref f) (.ref y))
    exact k a _ (.inl rfl) e
  | ext φ => obtain ⟨p, ⟨o, e⟩, st⟩ := x; exact ⟨st _ _ p fun o q => k _ _ (.inl rfl) q, ⟨o, k _ _ (.inl rfl) e⟩, st⟩
theorem HOk.lt (x : HOk P w H h) (e : H a = some o) : a < h.objs.size := (x a o e).lt
theorem HOk.fresh (x : HOk P w H h) (e : h.objs.size ≤ a) : H a = none := by
  cases q : H a with
  | none => rfl
  | some u => exact absurd (Nat.lt_of_lt_of_le (x.lt q) e) (Nat.lt_irrefl _)
theorem HOk.kept (x : HOk P w H h) (k : ∀ b u, h.get? b = some u → h'.get? b = some u) : HOk P w H h' := fun a o e =>
  (x a o e).stay (fun b u _ q => k b u q) (fun _ q => q) fun _ _ q => q
theorem HOk.laid (x : HOk P w H h) (k : ∀ b u, h.get? b = some u → h'.get? b = some u) (hp : h.objs.size ≤ a) (new : ObjOk P w (upd H a o) h' a o) : HOk P w (upd H a o) h' := fun b u e => by
  have hn := x.fresh hp
  by_cases hb : b = a
  · subst hb; rw [upd_same] at e; cases e; exact new
  · rw [upd_ne hb] at e
    exact (x b u e).stay (fun c v _ q => k c v q) (fun c q => by rw [upd_ne (ne_of_none q hn)]; exact q) fun c xs q => by rw [upd_ne (ne_of_none q hn)]; exact q
end
def Rd (H : Hp) (a : Addr) (u : HO) : Prop := H a = some u ∨ ∃ o, H a = some (.frz o u)
theorem Rd.ok {P : Program} {w : World} {H : Hp} {h : Heap} {a : Addr} {u : HO} (r : Rd H a u) (x : HOk P w H h) : ObjOk P w H h a u := by
  rcases r with r | ⟨o, r⟩
  · exact x a u r
  · obtain ⟨_, q⟩ := x a _ r
    exact q
def Mut : Option HO → Prop
  | some (.lst _) => True
  | some (.dK _) => True
  | some (.dT _) => True
  | some (.dG _) => True
  | some (.set _ _) => True
  | some (.ins _ _ _) => True
  | some (.ext _) => True
  | _ => False
section
variable {P : Program} {w : World} {H : Hp} {h h' : Heap} {x e : Addr} {o' : HO}
theorem HOk.write (ok : HOk P w H h) (mu : Mut (H x)) (he : e = x ∨ H e = some (.own x)) (k : ∀ b u, b ≠ e → h.get? b = some u → h'.get? b = some u) (heo : ∃ u, h'.get? e = some u)
    (new : ObjOk P w (upd H x o') h' x o') : HOk P w (upd H x o') h' := fun b u q => by
  have nown : ∀ c y, H c = some (.own y) → c ≠ x := fun c y r z => by subst z; rw [r] at mu; exact mu
  have ntup : ∀ c xs, H c = some (.tup xs) → c ≠ x := fun c xs r z => by subst z; rw [r] at mu; exact mu
  by_cases hb : b = x
  · subst hb; rw [upd_same] at q; cases q; exact new
  · rw [upd_ne hb] at q
    by_cases hbe : b = e
    · have q' : H b = some (.own x) := by
        rcases he with z | z
        · exact absurd (hbe.trans z) hb
        · rw [hbe]; exact z
      rw [q] at q'; cases q'
      obtain ⟨v, hv⟩ := heo
      exact ⟨v, by rw [hbe]; exact hv⟩
    · refine (ok b u q).stay (fun c v hc r => k c v ?_ r) (fun c r => by rw [upd_ne (nown c b r)]; exact r) fun c xs r => by rw [upd_ne (ntup c xs r)]; exact r
      rcases hc with rfl | hc
      · exact hbe
      · rintro rfl
        rcases he with z | z
        · exact nown c b hc z
        · rw [hc] at z; cases z; exact hb rfl
end
structure Un (fs ex : List Addr) (H H' : Hp) (h h' : Heap) : Prop where
  keep : ∀ b o, h.get? b = some o → H b = none → b ∉ fs → b ∉ ex → h'.get? b = some o
  slot : ∀ b o, h.get? b = some o → H b = none → b ∈ fs → b ∉ ex → ∃ sl, h'.get? b = some { o with slots := sl }
  free : ∀ b o, h.get? b = some o → H b = none → b ∉ ex → H' b = none
  there : ∀ b o, h.get? b = some o → b ∉ ex → ∃ o', h'.get? b = some o'
  tups : ∀ b xs, H b = some (.tup xs) → H' b = some (.tup xs)
  frzs : ∀ b o u, H b = some (.frz o u) → H' b = some (.frz o u)
  tbls : ∀ b ps, H b = some (.tbl ps) → ∃ more, H' b = some (.tbl (ps ++ more))
section
variable {fs fs' ex ex' : List Addr} {H H1 H2 : Hp} {h h1 h2 h' : Heap} {a x e : Addr} {o : HO}
theorem Un.any (u : Un fs ex H H1 h h1) {b : Addr} {ob : Obj} (q : h.get? b = some ob) (n : H b = none) (hx : b ∉ ex) : ∃ sl, h1.get? b = some { ob with slots := sl } := by
  by_cases hb : b ∈ fs
  · exact u.slot b ob q n hb hx
  · exact ⟨ob.slots, u.keep b ob q n hb hx⟩
theorem Un.trans (a : Un fs ex H H1 h h1) (b : Un fs ex H1 H2 h1 h2) : Un fs ex H H2 h h2 where
  keep := fun c ob q n hc hx => b.keep c ob (a.keep c ob q n hc hx) (a.free c ob q n hx) hc hx
  slot := fun c ob q n hc hx => by
    obtain ⟨sl, e1⟩ := a.slot c ob q n hc hx
    obtain ⟨sl', e2⟩ := b.slot c _ e1 (a.free c ob q n hx) hc hx
    exact ⟨sl', e2⟩
  free := fun c ob q n hx => by
    obtain ⟨o', e1⟩ := a.there c ob q hx
    exact b.free c o' e1 (a.free c ob q n hx) hx
  there := fun c ob q hx => by
    obtain ⟨o', e1⟩ := a.there c ob q hx
    exact b.there c o' e1 hx
  tups := fun c xs q => b.tups c xs (a.tups c xs q)
  frzs := fun c ob xs q => b.frzs c ob xs (a.frzs c ob xs q)
  tbls := fun c ps q => by
    obtain ⟨m1, e1⟩ := a.tbls c ps q
    obtain ⟨m2, e2⟩ := b.tbls c _ e1
    exact ⟨m1 ++ m2, by rw [e2, Array.append_assoc]⟩
theorem Un.kept (k : ∀ b u, h.get? b = some u → h'.get? b = some u) : Un fs ex H H h h' :=
  ⟨fun b ob q _ _ _ => k b ob q, fun b ob q _ _ _ => ⟨ob.slots, k b ob q⟩, fun _ _ _ n _ => n, fun b ob q _ => ⟨ob, k b ob q⟩, fun _ _ q => q, fun _ _ _ q => q, fun _ ps q => ⟨#[], by rw [q]; simp⟩⟩
theorem Un.refl : Un fs ex H H h h := Un.kept fun _ _ q => q
theorem Un.laid (k : ∀ b u, h.get? b = some u → h'.get? b = some u) (hp : h.objs.size ≤ a) (hn : H a = none) : Un fs ex H (upd H a o) h h' where
  keep := fun b u q _ _ _ => k b u q
  slot := fun b u q _ _ _ => ⟨u.slots, k b u q⟩
  free := fun b u q n _ => by rw [upd_ne (Nat.ne_of_lt (Nat.lt_of_lt_of_le (Heap.lt_size q) hp))]; exact n
  there := fun b u q _ => ⟨u, k b u q⟩
  tups := fun b xs q => by rw [upd_ne (ne_of_none q hn)]; exact q
  frzs := fun b u xs q => by rw [upd_ne (ne_of_none q hn)]; exact q
  tbls := fun b ps q => ⟨#[], by rw [upd_ne (ne_of_none q hn), q]; simp⟩
theorem Un.write (mu : Mut (H x)) (he : e = x ∨ H e = some (.own x)) (k : ∀ b u, b ≠ e → h.get? b = some u → h'.get? b = some u) (heo : ∃ u, h'.get? e = some u) : Un fs ex H (upd H x o) h h' := by
  have hx : ∀ b, H b = none → b ≠ x := fun b n z => by subst z; rw [n] at mu; exact mu
  have hb : ∀ b, H b = none → b ≠ e := fun b n z => by
    subst z
    rcases he with r | r
    · exact hx b n r
    · rw [n] at r; cases r
  have hm : ∀ b u, H b = some u → ¬ Mut (some u) → b ≠ x := fun b u q nm z => by subst z; rw [q] at mu; exact nm mu
  refine ⟨fun b u q n _ _ => k b u (hb b n) q, fun b u q n _ _ => ⟨u.slots, k b u (hb b n) q⟩, fun b u q n _ => by rw [upd_ne (hx b n)]; exact n, fun b u q _ => ?_,
    fun b xs q => by rw [upd_ne (hm b _ q fun z => z)]; exact q, fun b u xs q => by rw [upd_ne (hm b _ q fun z => z)]; exact q, fun b ps q => ⟨#[], by rw [upd_ne (hm b _ q fun z => z), q]; simp⟩⟩
  by_cases hbe : b = e
  · subst hbe; exact heo
  · exact ⟨u, k b u hbe q⟩
end
def trk (h : Heap) (H : Hp) : List Addr := (List.range h.objs.size).filter fun a => (H a).isSome
def hidT (h : Heap) (H : Hp) : Heap := PySem.W.hideAll h (trk h H)
theorem hidT_size (h : Heap) (H : Hp) : (hidT h H).objs.size = h.objs.size := PySem.W.hideAll_size _ _
theorem hidT_get {h : Heap} {H : Hp} {b : Addr} {o : Obj} (e : h.get? b = some o) (n : H b = none) : (hidT h H).get? b = some o :=
  PySem.W.hideAll_get _ e fun hm => by
    have q : (H b).isSome = true := (List.mem_filter.mp hm).2
    rw [n] at q; simp at q
theorem of_hidT {h : Heap} {H : Hp} {b : Addr} {o : Obj} (e : (hidT h H).get? b = some o) : h.get? b = some o ∧ H b = none := by
  have e' : h.get? b = some o := PySem.W.of_hideAll (trk h H) e
  refine ⟨e', ?_⟩
  cases q : H b with
  | none => rfl
  | some x =>
    have hm : b ∈ trk h H := List.mem_filter.mpr ⟨List.mem_range.mpr (Heap.lt_size e'), by simp [q]⟩
    have z : (hidT h H).get? b = none := PySem.W.hideAll_none (trk h H) hm
    rw [z] at e; cases e
end L2
namespace L2
open PySem PySem.Spec PyProof.Rows
structure Mod (K : PySem.W.Frag) (mg : Str → Option Value) (base : Heap) : Prop where
  kin : K.In base
  glob : base.Ns mainGlobals mg
  blt : ∃ mb, base.Ns builtinsNs mb ∧ ∀ x : Str, x ≠ "__name__" → mb x = bootBuiltins x
  nolimit : base.NoLimit
structure Cx where
  prog : Program
  w : World
  K : PySem.W.Frag
  mg : Str → Option Value
  base : Heap
  A : Around
  N : List Str
  s₀ : Shared
  H₀ : Hp
  env : Env
  outer : List Env
  stack : List Env
  ex : List Addr
  fn : Str → Bool
  calm : Bool
  pn : List (Addr × Obj)
  xe : Value → Shared → Prop
def frs (l : List Env) : List Addr := l.filterMap (·.frame)
abbrev Cx.fs (X : Cx) : List Addr := frs X.outer
def Vis (sc : Scope) (x : Str) : Prop := sc.names.lookup x = some .local ∨ sc.names.lookup x = some .cell ∨ sc.names.lookup x = some .free
def Loc (sc : Scope) (x : Str) : Prop := sc.names.lookup x = some .local ∨ sc.names.lookup x = some .cell
def Look (env : Env) (h : Heap) (m : Str → Option Value) (x : Str) (u : Value) : Prop :=
  (env.kindOf x = some .local ∧ m x = some u) ∨ ((env.kindOf x = some .cell ∨ env.kindOf x = some .free) ∧ ∃ c, env.cells.lookup x = some c ∧ h.IsCell c (some u))
structure Cx.Ok (X : Cx) : Prop where
  mod : Mod X.K X.mg X.base
  kind : X.env.scope.kind = .function
  glob : X.env.globals = mainGlobals
  blt : X.env.builtins = builtinsNs
  above : X.s₀.heap.objs.size ≤ X.env.locals
  inj : ∀ x y c, X.env.cells.lookup x = some c → X.env.cells.lookup y = some c → x = y
  has : ∀ x, (X.env.kindOf x = some .cell ∨ X.env.kindOf x = some .free) → ∃ c, X.env.cells.lookup x = some c
  cab : ∀ x c, X.fn x = true → X.env.cells.lookup x = some c → X.s₀.heap.objs.size ≤ c
  hd : X.calm = true → X.A.handled = none
  frames : X.A.frames = some X.stack
  stk : X.stack = X.outer ∨ (X.stack = X.env :: X.outer ∧ X.env.frame = some X.env.locals)
  exf : ∀ b ∈ X.ex, b ≠ X.env.locals ∧ ∀ x c, X.env.cells.lookup x = some c → c ≠ b
  bs : ∀ b o, X.base.get? b = some o → X.s₀.heap.get? b = some o ∧ X.H₀ b = none
  bsz : X.base.objs.size ≤ X.s₀.heap.objs.size
  noex : ∀ b o, X.base.get? b = some o → b ∉ X.ex
  exfs : ∀ b ∈ X.ex, b ∉ X.fs
  funs : X.s₀.heap.FunFrames X.base X.outer
  frf : ∀ b ∈ X.fs, X.H₀ b = none
structure Inv (X : Cx) (pins : List (Addr × Obj)) (σ : List (Option V)) (H : Hp) (s : Shared) : Prop where
  ok : X.Ok
  os : s.os = X.s₀.os
  bare : AllBare s.gens
  base : Un X.fs X.ex X.H₀ H X.s₀.heap s.heap
  loc : ∃ m, s.heap.Ns X.env.locals m ∧ ∀ (i : Nat) (x : Str) (v : V), X.N[i]? = some x → σ[i]? = some (some v) → Vis X.env.scope x → ∃ u, RelV v u ∧ Look X.env s.heap m x u
  cell : ∀ x c, X.env.cells.lookup x = some c → ∃ v, s.heap.IsCell c v
  free : H X.env.locals = none
  freeC : ∀ x c, X.env.cells.lookup x = some c → H c = none
  pin : ∀ p ∈ X.pn ++ pins, s.heap.get? p.1 = some p.2 ∧ H p.1 = none ∧ p.1 ≠ X.env.locals ∧ p.1 ∉ X.fs ∧ ∀ v, p.2.data ≠ .cell v
  hok : HOk X.prog X.w H s.heap
  len : σ.length = X.N.length
section
variable {X : Cx} {pins : List (Addr × Obj)} {σ : List (Option V)} {H H' : Hp} {s : Shared} {h' : Heap}
theorem Cx.Ok.nofr (ok : X.Ok) {b : Addr} {o : Obj} (e : X.base.get? b = some o) : b ∉ X.fs := fun hb => by
  have := (ok.funs.mem hb).1
  rw [e] at this; cases this
theorem Inv.bs (I : Inv X pins σ H s) : ∀ b o, X.base.get? b = some o → s.heap.get? b = some o ∧ H b = none := fun b o e =>
  ⟨I.base.keep b o (I.ok.bs b o e).1 (I.ok.bs b o e).2 (I.ok.nofr e) (I.ok.noex b o e), I.base.free b o (I.ok.bs b o e).1 (I.ok.bs b o e).2 (I.ok.noex b o e)⟩
theorem Inv.bk (I : Inv X pins σ H s) : ∀ b o, X.base.get? b = some o → s.heap.get? b = some o := fun b o e => (I.bs b o e).1
theorem Inv.mod (I : Inv X pins σ H s) : Mod X.K X.mg X.base := I.ok.mod
theorem Inv.kIn (I : Inv X pins σ H s) : X.K.In s.heap := I.ok.mod.kin.keeps I.bk
theorem Inv.lt (I : Inv X pins σ H s) : X.env.locals < s.heap.objs.size := let ⟨_, hn, _⟩ := I.loc; hn.lt
theorem Inv.sz (I : Inv X pins σ H s) : X.s₀.heap.objs.size ≤ s.heap.objs.size := Nat.le_trans I.ok.above (Nat.le_of_lt I.lt)
theorem Inv.nofs (I : Inv X pins σ H s) {a : Addr} (h : s.heap.objs.size ≤ a) : a ∉ X.fs := fun hb => by
  obtain ⟨_, o, ho, _⟩ := I.ok.funs.mem hb
  exact absurd (Nat.lt_of_lt_of_le (Heap.lt_size ho) (Nat.le_trans I.sz h)) (Nat.lt_irrefl _)
theorem Inv.cne (I : Inv X pins σ H s) : ∀ x c, X.env.cells.lookup x = some c → c ≠ X.env.locals := fun x c e z => by
  obtain ⟨v, o, ho, hd⟩ := I.cell x c e
  obtain ⟨m, ⟨o', es, ep, ho', hd', _⟩, _⟩ := I.loc
  rw [z, ho'] at ho; cases ho; rw [hd'] at hd; cases hd
theorem Inv.funs (I : Inv X pins σ H s) : s.heap.FunFrames X.base X.outer := by
  have all : ∀ (l : List Env), (∀ b ∈ frs l, b ∈ X.fs) → X.s₀.heap.FunFrames X.base l → s.heap.FunFrames X.base l := by
    intro l
    induction l with
    | nil => intro _ _; trivial
    | cons env r ih =>
      intro hs hl
      obtain ⟨hk, ⟨L, o, hf, hn, ho, hd⟩, hr⟩ := hl
      have hL : L ∈ X.fs := hs L (by unfold frs; rw [List.filterMap_cons, hf]; exact List.mem_cons_self)
      obtain ⟨sl, e⟩ := I.base.slot L o ho (I.ok.frf L hL) hL fun z => I.ok.exfs L z hL
      exact ⟨hk, ⟨L, _, hf, hn, e, hd⟩, ih (fun b hb => hs b (by unfold frs; rw [List.filterMap_cons, hf]; exact List.mem_cons_of_mem _ hb)) hr⟩
  exact all X.outer (fun _ hb => hb) I.ok.funs
theorem Inv.stack (I : Inv X pins σ H s) : s.heap.FunFrames X.base X.stack := by
  rcases I.ok.stk with e | ⟨e, hf⟩
  · rw [e]; exact I.funs
  · rw [e]
    obtain ⟨m, hn, _⟩ := I.loc
    refine .cons (by rw [I.ok.kind]; decide) hf hn ?_ I.funs
    exact Heap.get?_none_of_le (Nat.le_trans I.ok.bsz I.ok.above)
theorem Inv.stkSub (I : Inv X pins σ H s) : ∀ b ∈ frs X.stack, b ∈ X.env.locals :: X.fs := fun b hb => by
  rcases I.ok.stk with e | ⟨e, hf⟩
  · rw [e] at hb; exact List.mem_cons_of_mem _ hb
  · rw [e] at hb
    unfold frs at hb
    rw [List.filterMap_cons, hf] at hb
    exact hb
theorem Inv.stkFree (I : Inv X pins σ H s) : ∀ b ∈ frs X.stack, H b = none := fun b hb => by
  rcases List.mem_cons.mp (I.stkSub b hb) with e | hb
  · rw [e]; exact I.free
  · obtain ⟨_, o, ho, _⟩ := I.ok.funs.mem hb
    exact I.base.free b o ho (I.ok.frf b hb) fun z => I.ok.exfs b z hb
theorem Inv.step {g' : Array GenState} {t' : Nat} {d' : Drawn} {ch : List Addr} (I : Inv X pins σ H s)
    (hch : ∀ b ∈ ch, (b ∈ X.ex ∨ X.s₀.heap.objs.size ≤ b) ∧ b ≠ X.env.locals ∧ (∀ x c, X.env.cells.lookup x = some c → c ≠ b) ∧ ∀ p ∈ X.pn ++ pins, p.1 ≠ b)
    (keep : ∀ b o, b ≠ X.env.locals → b ∉ X.fs → b ∉ ch → s.heap.get? b = some o → H b = none → h'.get? b = some o)
    (slot : ∀ b o, b ≠ X.env.locals → b ∈ X.fs → b ∉ ch → s.heap.get? b = some o → H b = none → ∃ sl, h'.get? b = some { o with slots := sl }) (free : ∀ b o, b ∉ ch → s.heap.get? b = some o → H b = none → H' b = none)
    (there : ∀ b o, b ∉ ch → s.heap.get? b = some o → ∃ o', h'.get? b = some o')
    (tups : ∀ b xs, H b = some (.tup xs) → H' b = some (.tup xs)) (frzs : ∀ b o u, H b = some (.frz o u) → H' b = some (.frz o u)) (tbls : ∀ b ps, H b = some (.tbl ps) → ∃ more, H' b = some (.tbl (ps ++ more)))
    (ns : ∀ m, s.heap.Ns X.env.locals m → h'.Ns X.env.locals m) (hok : HOk X.prog X.w H' h') (hg : AllBare g') :
    Inv X pins σ H' { s with heap := h', gens := g', drawn := d', toks := t' } := by
  have neL : ∀ b o, X.s₀.heap.get? b = some o → b ≠ X.env.locals := fun b o e => Nat.ne_of_lt (Nat.lt_of_lt_of_le (Heap.lt_size e) I.ok.above)
  have neC : ∀ b o, X.s₀.heap.get? b = some o → b ∉ X.ex → b ∉ ch := fun b o e hx hb => by
    rcases (hch b hb).1 with z | z
    · exact hx z
    · exact absurd (Nat.lt_of_lt_of_le (Heap.lt_size e) z) (Nat.lt_irrefl _)
  have cellK : ∀ x c, X.env.cells.lookup x = some c → ∀ v, s.heap.IsCell c v → h'.IsCell c v := fun x c e v ⟨o, ho, hd⟩ => by
    have nch : c ∉ ch := fun z => (hch c z).2.2.1 x c e rfl
    by_cases hc : c ∈ X.fs
    · obtain ⟨sl, q⟩ := slot c o (I.cne x c e) hc nch ho (I.freeC x c e)
      exact ⟨_, q, hd⟩
    · exact ⟨o, keep c o (I.cne x c e) hc nch ho (I.freeC x c e), hd⟩
  refine ⟨I.ok, I.os, hg, ⟨fun b o e n hb hx => ?_, fun b o e n hb hx => ?_, fun b o e n hx => ?_, fun b o e hx => ?_, fun b xs e => tups b xs (I.base.tups b xs e), fun b o xs e => frzs b o xs (I.base.frzs b o xs e), fun b ps e => ?_⟩, ?_, fun x c e => ?_, ?_, fun x c e => ?_, fun p hp => ?_, hok, I.len⟩
  · exact keep b o (neL b o e) hb (neC b o e hx) (I.base.keep b o e n hb hx) (I.base.free b o e n hx)
  · obtain ⟨sl, e1⟩ := I.base.slot b o e n hb hx
    obtain ⟨sl', e2⟩ := slot b _ (neL b o e) hb (neC b o e hx) e1 (I.base.free b o e n hx)
    exact ⟨sl', e2⟩
  · obtain ⟨o', e1⟩ := I.base.there b o e hx
    exact free b o' (neC b o e hx) e1 (I.base.free b o e n hx)
  · obtain ⟨o', e1⟩ := I.base.there b o e hx
    exact there b o' (neC b o e hx) e1
  · obtain ⟨m1, e1⟩ := I.base.tbls b ps e
    obtain ⟨m2, e2⟩ := tbls b _ e1
    exact ⟨m1 ++ m2, by rw [e2, Array.append_assoc]⟩
  · obtain ⟨m, hn, hl⟩ := I.loc
    refine ⟨m, ns m hn, fun i x v e1 e2 e3 => ?_⟩
    obtain ⟨u, r, l⟩ := hl i x v e1 e2 e3
    refine ⟨u, r, ?_⟩
    rcases l with l | ⟨k, c, e, z⟩
    · exact .inl l
    · exact .inr ⟨k, c, e, cellK x c e _ z⟩
  · obtain ⟨v, z⟩ := I.cell x c e
    exact ⟨v, cellK x c e v z⟩
  · obtain ⟨m, ⟨o, _, _, ho, _⟩, _⟩ := I.loc
    exact free _ o (fun z => (hch _ z).2.1 rfl) ho I.free
  · obtain ⟨v, o, ho, hd⟩ := I.cell x c e
    exact free c o (fun z => (hch c z).2.2.1 x c e rfl) ho (I.freeC x c e)
  · obtain ⟨e, n, ne, nf, d⟩ := I.pin p hp
    have nch : p.1 ∉ ch := fun z => (hch p.1 z).2.2.2 p hp rfl
    exact ⟨keep p.1 p.2 ne nf nch e n, free p.1 p.2 nch e n, ne, nf, d⟩
theorem Inv.un {t' : Nat} (I : Inv X pins σ H s) (u : Un X.fs [] H H' s.heap h') (hok : HOk X.prog X.w H' h') : Inv X pins σ H' { s with heap := h', toks := t' } := by
  obtain ⟨m, ⟨o, es, ep, ho, r⟩, _⟩ := id I.loc
  obtain ⟨sl, hL⟩ := u.any ho I.free (by simp)
  exact I.step (g' := s.gens) (d' := s.drawn) (ch := []) (fun _ z => nomatch z) (fun b o _ hb _ e n => u.keep b o e n hb (by simp)) (fun b o _ hb _ e n => u.slot b o e n hb (by simp)) (fun b o _ e n => u.free b o e n (by simp)) (fun b o _ e => u.there b o e (by simp)) u.tups u.frzs u.tbls (fun m' hm => by
    obtain ⟨o', es', ep', ho', r'⟩ := hm
    rw [ho] at ho'; cases ho'
    exact ⟨_, es', ep', hL, r'⟩) hok I.bare
theorem Inv.call {g' : Array GenState} {t' : Nat} {d' : Drawn} {ch : List Addr} (I : Inv X pins σ H s) (u : Un (frs X.stack) ch H H' s.heap h') (hok : HOk X.prog X.w H' h') (hg : AllBare g')
    (hch : ∀ b ∈ ch, (b ∈ X.ex ∨ X.s₀.heap.objs.size ≤ b) ∧ b ≠ X.env.locals ∧ (∀ x c, X.env.cells.lookup x = some c → c ≠ b) ∧ ∀ p ∈ X.pn ++ pins, p.1 ≠ b) :
    Inv X pins σ H' { s with heap := h', gens := g', drawn := d', toks := t' } := by
  obtain ⟨m, ⟨o, es, ep, ho, r⟩, _⟩ := id I.loc
  obtain ⟨sl, hL⟩ := u.any ho I.free fun z => (hch _ z).2.1 rfl
  exact I.step (ch := ch) hch (fun b o hL hb hc e n => u.keep b o e n (fun z => (List.mem_cons.mp (I.stkSub b z)).elim hL hb) hc) (fun b o _ _ hc e n => u.any e n hc) (fun b o hc e n => u.free b o e n hc) (fun b o hc e => u.there b o e hc) u.tups u.frzs u.tbls (fun m' hm => by
    obtain ⟨o', es', ep', ho', r'⟩ := hm
    rw [ho] at ho'; cases ho'
    exact ⟨_, es', ep', hL, r'⟩) hok hg
theorem Inv.turned {t' : Nat} {it : Addr} (I : Inv X pins σ H s) (k : ∀ b o, b ≠ it → s.heap.get? b = some o → h'.get? b = some o) (hn : H it = none) (hL : it ≠ X.env.locals)
    (h1 : it ∈ X.ex ∨ X.s₀.heap.objs.size ≤ it) (h2 : ∀ x c, X.env.cells.lookup x = some c → c ≠ it) (h3 : ∀ p ∈ X.pn ++ pins, p.1 ≠ it) : Inv X pins σ H { s with heap := h', toks := t' } := by
  have nit : ∀ b u, H b = some u → b ≠ it := fun b u e z => by rw [z, hn] at e; cases e
  refine I.step (g' := s.gens) (d' := s.drawn) (ch := [it]) (fun b hb => ?_) (fun b o _ _ hc e _ => k b o (fun z => hc (by simp [z])) e) (fun b o _ _ hc e _ => ⟨o.slots, k b o (fun z => hc (by simp [z])) e⟩) (fun _ _ _ _ n => n)
    (fun b o hc e => ⟨o, k b o (fun z => hc (by simp [z])) e⟩) (fun _ _ e => e) (fun _ _ _ e => e) (fun b ps e => ⟨#[], by rw [e]; simp⟩) (fun m hm => ?_) (fun b u e => ?_) I.bare
  · have e : b = it := by simpa using hb
    subst e
    exact ⟨h1, hL, h2, h3⟩
  · obtain ⟨o, es, ep, ho, r⟩ := hm
    exact ⟨o, es, ep, k _ o (Ne.symm hL) ho, r⟩
  · refine (I.hok b u e).stay (fun c v hc q => k c v ?_ q) (fun _ q => q) fun _ _ q => q
    rcases hc with z | z
    · rw [z]; exact nit b u e
    · exact nit c _ z
theorem Inv.tok (I : Inv X pins σ H s) (t : Nat) : Inv X pins σ H { s with toks := t } := I.un (h' := s.heap) (t' := t) Un.refl I.hok
theorem Inv.kept {t' : Nat} (I : Inv X pins σ H s) (k : ∀ b u, s.heap.get? b = some u → h'.get? b = some u) : Inv X pins σ H { s with heap := h', toks := t' } := I.un (Un.kept k) (I.hok.kept k)
theorem Inv.laid {a : Addr} {o : HO} {t' : Nat} (I : Inv X pins σ H s) (k : ∀ b u, s.heap.get? b = some u → h'.get? b = some u) (hp : s.heap.objs.size ≤ a) (new : ObjOk X.prog X.w (upd H a o) h' a o) :
    Inv X pins σ (upd H a o) { s with heap := h', toks := t' } := I.un (Un.laid k hp (I.hok.fresh hp)) (I.hok.laid k hp new)
theorem Inv.write {x e : Addr} {o : HO} {t' : Nat} (I : Inv X pins σ H s) (mu : Mut (H x)) (he : e = x ∨ H e = some (.own x)) (k : ∀ b u, b ≠ e → s.heap.get? b = some u → h'.get? b = some u) (heo : ∃ u, h'.get? e = some u)
    (new : ObjOk X.prog X.w (upd H x o) h' x o) : Inv X pins σ (upd H x o) { s with heap := h', toks := t' } := I.un (Un.write mu he k heo) (I.hok.write mu he k heo new)
theorem Inv.weak {σ' : List (Option V)} (I : Inv X pins σ H s) (hl : σ'.length = σ.length) (w : ∀ (i : Nat) v, σ'[i]? = some (some v) → σ[i]? = some (some v)) : Inv X pins σ' H s :=
  ⟨I.ok, I.os, I.bare, I.base, let ⟨m, hn, hl'⟩ := I.loc; ⟨m, hn, fun i x v e1 e2 e3 => hl' i x v e1 (w i v e2) e3⟩, I.cell, I.free, I.freeC, I.pin, I.hok, hl.trans I.len⟩
theorem Inv.pins_of {pins' : List (Addr × Obj)} (I : Inv X pins σ H s) (h : ∀ p ∈ pins', s.heap.get? p.1 = some p.2 ∧ H p.1 = none ∧ p.1 ≠ X.env.locals ∧ p.1 ∉ X.fs ∧ ∀ v, p.2.data ≠ .cell v) : Inv X pins' σ H s :=
  ⟨I.ok, I.os, I.bare, I.base, I.loc, I.cell, I.free, I.freeC, fun p hp => (List.mem_append.mp hp).elim (fun z => I.pin p (List.mem_append_left _ z)) (h p), I.hok, I.len⟩
theorem nodup_ix {N : List Str} (hN : N.Nodup) {i j : Nat} {x : Str} (a : N[i]? = some x) (b : N[j]? = some x) : i = j := by
  obtain ⟨h1, e1⟩ := List.getElem?_eq_some_iff.mp a
  obtain ⟨h2, e2⟩ := List.getElem?_eq_some_iff.mp b
  exact (List.getElem_inj hN).mp (e1.trans e2.symm)
theorem store_ok2 {M : Model} {A : Around} {E : Value → Shared → Prop} {i : Nat} {x : Str} {v : V} {u : Value} {Q : Unit → Shared → Prop} (I : Inv X pins σ H s) (hN : X.N.Nodup) (hi : X.N[i]? = some x) (hx : Loc X.env.scope x) (r : RelV v u)
    (h : ∀ s', Inv X pins (σ.set i (some v)) H s' → (∃ a, Heap.SameBut a s.heap s'.heap ∧ (a = X.env.locals ∨ X.env.cells.lookup x = some a)) → Q () s') (hf : X.fn x = true ∨ X.env.scope.names.lookup x = some .local := by first | exact .inl rfl | exact .inr rfl | assumption) : wpAny M A (storeName X.env x u) Q E s := by
  obtain ⟨m, hn, hl⟩ := id I.loc
  have hcls : (X.env.scope.kind == .class || (X.env.scope.kind == .module && X.env.locals != X.env.globals)) = false := by rw [I.ok.kind]; rfl
  have hiσ : i < σ.length := by rw [I.len]; exact (List.getElem?_eq_some_iff.mp hi).1
  have cne := I.cne
  have tracked : ∀ {a : Addr} {h' : Heap}, (∃ o, s.heap.get? a = some o ∧ H a = none) → Heap.SameBut a s.heap h' → HOk X.prog X.w H h' := fun {a h'} ha hs b ob e => by
    obtain ⟨_, _, hfree⟩ := ha
    refine (I.hok b ob e).stay (fun c w' hc q => (hs.2 c ?_).trans q) (fun _ q => q) fun _ _ q => q
    rintro rfl
    rcases hc with rfl | hc
    · rw [hfree] at e; cases e
    · rw [hfree] at hc; cases hc
  rcases hx with hk | hk
  · refine wpAny_storeName_local hk hn (fun h' hn' hs => ?_) hcls
    obtain ⟨oL, _, _, hoL, _⟩ := id hn
    refine h _ ⟨I.ok, I.os, I.bare, ⟨fun b o e n hb hx => ?_, fun b o e n hb hx => ?_, I.base.free, fun b o e hx => ?_, I.base.tups, I.base.frzs, I.base.tbls⟩, ⟨_, hn', fun j y v' e1 e2 e3 => ?_⟩, fun y c e => ?_, I.free, I.freeC, fun p hp => ?_, tracked ⟨oL, hoL, I.free⟩ hs, by simpa using I.len⟩ ⟨_, hs, .inl rfl⟩
    · exact (hs.2 b (Nat.ne_of_lt (Nat.lt_of_lt_of_le (Heap.lt_size e) I.ok.above))).trans (I.base.keep b o e n hb hx)
    · obtain ⟨sl, e1⟩ := I.base.slot b o e n hb hx
      exact ⟨sl, (hs.2 b (Nat.ne_of_lt (Nat.lt_of_lt_of_le (Heap.lt_size e) I.ok.above))).trans e1⟩
    · obtain ⟨o', e1⟩ := I.base.there b o e hx
      exact ⟨o', (hs.2 b (Nat.ne_of_lt (Nat.lt_of_lt_of_le (Heap.lt_size e) I.ok.above))).trans e1⟩
    · by_cases hj : j = i
      · subst hj
        rw [hi] at e1; cases e1
        rw [List.getElem?_set_self hiσ] at e2
        cases e2
        exact ⟨u, r, .inl ⟨hk, by simp⟩⟩
      · rw [List.getElem?_set_ne (Ne.symm hj)] at e2
        obtain ⟨u', r', q⟩ := hl j y v' e1 e2 e3
        refine ⟨u', r', ?_⟩
        rcases q with ⟨k, e⟩ | ⟨k, c, e, z⟩
        · refine .inl ⟨k, ?_⟩
          have : y ≠ x := fun e => hj (nodup_ix hN e1 (e ▸ hi))
          simp [this, e]
        · exact .inr ⟨k, c, e, z.sameBut hs (cne y c e)⟩
    · obtain ⟨w', z⟩ := I.cell y c e
      exact ⟨w', z.sameBut hs (cne y c e)⟩
    · obtain ⟨e, n, ne, nf, d⟩ := I.pin p hp
      exact ⟨(hs.2 p.1 ne).trans e, n, ne, nf, d⟩
  · have hfn : X.fn x = true := by
      rcases hf with z | z
      · exact z
      · rw [z] at hk; cases hk
    obtain ⟨c, hc⟩ := I.ok.has x (.inl hk)
    obtain ⟨w', z⟩ := I.cell x c hc
    refine wpAny_storeName_cell I.ok.kind hk hc z (fun h' hc' hs => ?_)
    obtain ⟨oc, hoc, hocd⟩ := id z
    refine h { s with heap := h' } ⟨I.ok, I.os, I.bare, ⟨fun b o e n hb hx => ?_, fun b o e n hb hx => ?_, I.base.free, fun b o e hx => ?_, I.base.tups, I.base.frzs, I.base.tbls⟩, ⟨m, hn.sameBut hs (Ne.symm (cne x c hc)), fun j y v' e1 e2 e3 => ?_⟩, fun y c' e => ?_, I.free, I.freeC, fun p hp => ?_, tracked ⟨oc, hoc, I.freeC x c hc⟩ hs, by simpa using I.len⟩ ⟨c, hs, .inr hc⟩
    · exact (hs.2 b (Nat.ne_of_lt (Nat.lt_of_lt_of_le (Heap.lt_size e) (I.ok.cab x c hfn hc)))).trans (I.base.keep b o e n hb hx)
    · obtain ⟨sl, e1⟩ := I.base.slot b o e n hb hx
      exact ⟨sl, (hs.2 b (Nat.ne_of_lt (Nat.lt_of_lt_of_le (Heap.lt_size e) (I.ok.cab x c hfn hc)))).trans e1⟩
    · obtain ⟨o', e1⟩ := I.base.there b o e hx
      exact ⟨o', (hs.2 b (Nat.ne_of_lt (Nat.lt_of_lt_of_le (Heap.lt_size e) (I.ok.cab x c hfn hc)))).trans e1⟩
    · by_cases hj : j = i
      · subst hj
        rw [hi] at e1; cases e1
        rw [List.getElem?_set_self hiσ] at e2
        cases e2
        exact ⟨u, r, .inr ⟨.inl hk, c, hc, hc'⟩⟩
      · rw [List.getElem?_set_ne (Ne.symm hj)] at e2
        obtain ⟨u', r', q⟩ := hl j y v' e1 e2 e3
        refine ⟨u', r', ?_⟩
        rcases q with q | ⟨k, c', e, z'⟩
        · exact .inl q
        · refine .inr ⟨k, c', e, z'.sameBut hs ?_⟩
          rintro rfl
          exact hj (nodup_ix hN e1 (I.ok.inj _ _ _ e hc ▸ hi))
    · by_cases hcc : c' = c
      · subst hcc; exact ⟨_, hc'⟩
      · obtain ⟨w2, z2⟩ := I.cell y c' e
        exact ⟨w2, z2.sameBut hs hcc⟩
    · obtain ⟨e, n, ne, nf, d⟩ := I.pin p hp
      refine ⟨(hs.2 p.1 ?_).trans e, n, ne, nf, d⟩
      intro q
      rw [q, hoc] at e
      have q' : oc = p.2 := Option.some.inj e
      exact d w' (by rw [← q']; exact hocd)
theorem store_ok {M : Model} {A : Around} {E : Value → Shared → Prop} {i : Nat} {x : Str} {v : V} {u : Value} {Q : Unit → Shared → Prop} (I : Inv X pins σ H s) (hN : X.N.Nodup) (hi : X.N[i]? = some x) (hx : Loc X.env.scope x) (r : RelV v u)
    (h : ∀ s', Inv X pins (σ.set i (some v)) H s' → Q () s') (hf : X.fn x = true ∨ X.env.scope.names.lookup x = some .local := by first | exact .inl rfl | exact .inr rfl | assumption) : wpAny M A (storeName X.env x u) Q E s :=
  store_ok2 I hN hi hx r (fun s' I' _ => h s' I') hf
theorem Inv.call' {s' : Shared} {ch : List Addr} (I : Inv X pins σ H s) (ho : s'.os = s.os) (u : Un (frs X.stack) ch H H' s.heap s'.heap) (hok : HOk X.prog X.w H' s'.heap) (hg : AllBare s'.gens)
    (hch : ∀ b ∈ ch, (b ∈ X.ex ∨ X.s₀.heap.objs.size ≤ b) ∧ b ≠ X.env.locals ∧ (∀ x c, X.env.cells.lookup x = some c → c ≠ b) ∧ ∀ p ∈ X.pn ++ pins, p.1 ≠ b) : Inv X pins σ H' s' := by
  obtain ⟨h', g', d', t', o'⟩ := s'
  have e : o' = s.os := ho
  subst e
  exact I.call (g' := g') (t' := t') (d' := d') u hok hg hch
end
abbrev XK := Value → Option Addr → Hp → Prop
abbrev St := List (Option V)
abbrev VK := V → Hp → Prop
abbrev TE := St → Hp → VK → Prop
abbrev TT := St → Hp → (Bool → Hp → Prop) → Prop
abbrev TA := St → Hp → (List V → Hp → Prop) → Prop
structure Ends where
  nx : St → Hp → Prop
  rt : VK
  bk : St → Hp → Prop := fun _ _ => False
  ct : St → Hp → Prop := fun _ _ => False
abbrev TS := Ends → St → Hp → Prop
def EP (X : Cx) (pins : List (Addr × Obj)) (σ : St) (Q : VK) (u : Value) (s' : Shared) : Prop := ∃ v H', Inv X pins σ H' s' ∧ RelV v u ∧ Q v H'
def TP (X : Cx) (pins : List (Addr × Obj)) (σ : St) (Q : Bool → Hp → Prop) (b : Bool) (s' : Shared) : Prop := ∃ H', Inv X pins σ H' s' ∧ Q b H'
def AP (X : Cx) (pins : List (Addr × Obj)) (σ : St) (Q : List V → Hp → Prop) (us : List Value) (s' : Shared) : Prop := ∃ vs H', Inv X pins σ H' s' ∧ Vals vs us ∧ Q vs H'
def SP (X : Cx) (pins : List (Addr × Obj)) (D : Ends) (f : Flow) (s' : Shared) : Prop :=
  match f with
  | .next => ∃ σ' H', Inv X pins σ' H' s' ∧ D.nx σ' H'
  | .brk => ∃ σ' H', Inv X pins σ' H' s' ∧ D.bk σ' H'
  | .cont => ∃ σ' H', Inv X pins σ' H' s' ∧ D.ct σ' H'
  | .ret u => ∃ v σ' H', Inv X pins σ' H' s' ∧ RelV v u ∧ D.rt v H'
def PE (X : Cx) (e : Expr) (t : TE) : Prop :=
  ∀ (pins : List (Addr × Obj)) (s : Shared) (σ : St) (H : Hp) (Q : VK), Inv X pins σ H s → t σ H Q → wpAny (model X.prog X.w) X.A (eval e X.env) (EP X pins σ Q) X.xe s
def PT (X : Cx) (e : Expr) (t : TT) : Prop :=
  ∀ (pins : List (Addr × Obj)) (s : Shared) (σ : St) (H : Hp) (Q : Bool → Hp → Prop), Inv X pins σ H s → t σ H Q → wpAny (model X.prog X.w) X.A (isTrue e X.env (eval e X.env)) (TP X pins σ Q) X.xe s
def PW (X : Cx) (e : Expr) (t : TT) : Prop :=
  ∀ (whole : Sem Value) (pins : List (Addr × Obj)) (s : Shared) (σ : St) (H : Hp) (Q : Bool → Hp → Prop), Inv X pins σ H s → t σ H Q → wpAny (model X.prog X.w) X.A (isTrue e X.env whole) (TP X pins σ Q) X.xe s
theorem PW.pt {X : Cx} {e : Expr} {t : TT} (h : PW X e t) : PT X e t := h _
def PA (X : Cx) (es : List Expr) (t : TA) : Prop :=
  ∀ (pos : Pos) (pins : List (Addr × Obj)) (s : Shared) (σ : St) (H : Hp) (Q : List V → Hp → Prop), Inv X pins σ H s → t σ H Q → wpAny (model X.prog X.w) X.A (spliced (backTo pos (starEach es X.env))) (AP X pins σ Q) X.xe s
def PS (X : Cx) (st : Stmt) (t : TS) : Prop :=
  ∀ (pins : List (Addr × Obj)) (s : Shared) (σ : St) (H : Hp) (D : Ends), Inv X pins σ H s → t D σ H → wpAny (model X.prog X.w) X.A (exec st X.env) (SP X pins D) X.xe s
def PSs (X : Cx) (st : List Stmt) (t : TS) : Prop :=
  ∀ (pins : List (Addr × Obj)) (s : Shared) (σ : St) (H : Hp) (D : Ends), Inv X pins σ H s → t D σ H → wpAny (model X.prog X.w) X.A (execs st X.env) (SP X pins D) X.xe s
theorem thn {α : Type} {t : Sem α} {Q Q' : α → Shared → Prop} {M : Model} {A : Around} {E : Value → Shared → Prop} {s : Shared} (h : wpAny M A t Q E s) (hQ : ∀ a s, Q a s → Q' a s) : wpAny M A t Q' E s := wpAny_mono h hQ fun _ _ x => x
end L2
namespace L2
open PySem PySem.Spec PyProof.Rows
section
variable {X : Cx}
def tVar (i : Nat) : TE := fun σ H Q => ∃ v, σ[i]? = some (some v) ∧ Q v H
def tC (v : V) : TE := fun _ H Q => Q v H
theorem pe_var {i : Nat} {x : Str} {pos : Pos} (hN : X.N[i]? = some x) (hv : Vis X.env.scope x) (hd : (x == ("__debug__" : Str)) = false := by decide) (hcd : (x == ("__classdict__" : Str)) = false := by decide) : PE X (.Name x pos) (tVar i) := by
  intro pins s σ H Q I h
  obtain ⟨v, e, h⟩ := h
  obtain ⟨m, hn, hl⟩ := I.loc
  obtain ⟨u, r, l⟩ := hl i x v hN e hv
  have fin : EP X pins σ Q u s := ⟨v, H, I, r, h⟩
  rcases l with ⟨hk, hm⟩ | ⟨hk, c, hc, hcell⟩
  · exact wpAny_Name (wpAny_loadName_local I.ok.kind hk hn hm fin) hd
  · rcases hk with hk | hk
    · exact wpAny_Name (wpAny_loadName_cell I.ok.kind hk hc hcell fin) hd
    · exact wpAny_Name (wpAny_loadName_free I.ok.kind hk hc hcell fin hcd) hd
theorem pe_int {i j pos} : PE X (.Constant (.int i) j pos) (tC (.int i)) := fun _ _ _ H _ I h => wpAny_Constant_int ⟨.int i, H, I.tok _, ⟨_, rfl⟩, h⟩
theorem pe_bl {b j pos} : PE X (.Constant (.bool b) j pos) (tC (.bl b)) := fun _ _ _ H _ I h => Constant_bool ⟨.bl b, H, I, rfl, h⟩
theorem pe_non {j pos} : PE X (.Constant .none j pos) (tC .non) := fun _ _ _ H _ I h => Constant_none ⟨.non, H, I, rfl, h⟩
theorem pe_str {x j pos} : PE X (.Constant (.str x) j pos) (tC (.str x)) := fun _ _ _ H _ I h => Calls.Constant_str ⟨.str x, H, I.tok _, ⟨_, rfl⟩, h⟩
def Gl (X : Cx) (x : Str) : Prop := X.env.kindOf x = some .globalImplicit
theorem ld_glob {E : Value → Shared → Prop} {pins : List (Addr × Obj)} {s : Shared} {σ : St} {H : Hp} {x : Str} {u : Value} {pos : Pos} {Q : Value → Shared → Prop} (I : Inv X pins σ H s) (hg : Gl X x) (hm : X.mg x = some u) (h : Q u s)
    (hd : (x == ("__debug__" : Str)) = false := by decide) : wpAny (model X.prog X.w) X.A (eval (.Name x pos) X.env) Q E s :=
  Calls.Name_function_global I.ok.kind hg (Calls.loadGlobal_global (by rw [I.ok.glob]; exact I.mod.glob.keeps I.bk) hm h) hd
theorem ld_blt {E : Value → Shared → Prop} {pins : List (Addr × Obj)} {s : Shared} {σ : St} {H : Hp} {x : Str} {u : Value} {pos : Pos} {Q : Value → Shared → Prop} (I : Inv X pins σ H s) (hg : Gl X x) (hm : X.mg x = none) (hv : bootBuiltins x = some u) (h : Q u s)
    (hn : x ≠ "__name__" := by decide) (hd : (x == ("__debug__" : Str)) = false := by decide) : wpAny (model X.prog X.w) X.A (eval (.Name x pos) X.env) Q E s := by
  obtain ⟨mb, h1, h2⟩ := I.mod.blt
  exact Calls.Name_function_global I.ok.kind hg (Calls.loadGlobal_builtin (by rw [I.ok.glob]; exact I.mod.glob.keeps I.bk) hm (by rw [I.ok.blt]; exact h1.keeps I.bk) ((h2 x hn).trans hv) h) hd
theorem pe_bltn {x : Str} {v : V} {u : Value} {pos : Pos} (hg : Gl X x) (hm : X.mg x = none) (hv : bootBuiltins x = some u) (r : RelV v u) (hn : x ≠ "__name__" := by decide) (hd : (x == ("__debug__" : Str)) = false := by decide) : PE X (.Name x pos) (tC v) :=
  fun _ _ _ H _ I h => ld_blt I hg hm hv ⟨v, H, I, r, h⟩ hn hd
variable {a b : Expr} {ta tb : TE} {pos : Pos}
def tB (t : TE) : TT := fun σ H Q => t σ H fun x H1 => ∃ c, x = .bl c ∧ Q c H1
theorem pt_val {e : Expr} {t : TE} (h : PE X e t) (he : ∀ whole, isTrue e X.env whole = (do let v ← whole; standAt e.pos; holding [v] (truthy v)) := by intro _; rfl) : PT X e (tB t) := by
  intro pins s σ H Q I hw
  refine isTrue_plain (thn (h pins s σ H _ I hw) fun v s1 ⟨x, H1, I1, r1, q1⟩ => ?_) (he _)
  obtain ⟨d, rfl, q⟩ := q1
  cases r1
  exact wpAny_truthy_bool ⟨H1, I1, q⟩
variable {tA tB' : TT} {rest : List Expr}
def tAnd (t u : TT) : TT := fun σ H Q => t σ H fun c H1 => if c = true then u σ H1 Q else Q false H1
def tOr (t u : TT) : TT := fun σ H Q => t σ H fun c H1 => if c = true then Q true H1 else u σ H1 Q
def tNot (t : TT) : TT := fun σ H Q => t σ H fun c H1 => Q (!c) H1
theorem pw_and1 (ha : PT X a tA) : PW X (.BoolOp .And [a] pos) tA := by
  intro wh pins s σ H Q I h
  refine isTrue_and (thn (ha pins s σ H Q I h) fun c s1 e => ?_)
  cases c with
  | true => exact isTrue_and_nil e
  | false => exact e
theorem pw_or1 (ha : PT X a tA) : PW X (.BoolOp .Or [a] pos) tA := by
  intro wh pins s σ H Q I h
  refine isTrue_or (thn (ha pins s σ H Q I h) fun c s1 e => ?_)
  cases c with
  | false => exact isTrue_or_nil e
  | true => exact e
theorem pw_and (ha : PT X a tA) (hb : PW X (.BoolOp .And (b :: rest) pos) tB') : PW X (.BoolOp .And (a :: b :: rest) pos) (tAnd tA tB') := by
  intro wh pins s σ H Q I h
  refine isTrue_and (thn (ha pins s σ H _ I h) fun c s1 ⟨H1, I1, q1⟩ => ?_)
  cases c with
  | true => exact hb wh pins s1 σ H1 Q I1 q1
  | false => exact ⟨H1, I1, q1⟩
theorem pw_or (ha : PT X a tA) (hb : PW X (.BoolOp .Or (b :: rest) pos) tB') : PW X (.BoolOp .Or (a :: b :: rest) pos) (tOr tA tB') := by
  intro wh pins s σ H Q I h
  refine isTrue_or (thn (ha pins s σ H _ I h) fun c s1 ⟨H1, I1, q1⟩ => ?_)
  cases c with
  | true => exact ⟨H1, I1, q1⟩
  | false => exact hb wh pins s1 σ H1 Q I1 q1
theorem pt_not (ha : PT X a tA) : PT X (.UnaryOp .Not a pos) (tNot tA) := by
  intro pins s σ H Q I h
  exact isTrue_not (ha pins s σ H (fun c H1 => Q (!c) H1) I h)
def tAndV (ta tb : TE) : TE := fun σ H Q => ta σ H fun x H1 => ∃ c, x = .bl c ∧ if c = true then tb σ H1 Q else Q (.bl false) H1
theorem pe_one {op} {t : TE} (h : PE X a t) : PE X (.BoolOp op [a] pos) t := fun pins s σ H Q I hw => BoolOp_one (h pins s σ H Q I hw)
theorem pe_and (ha : PE X a ta) (hb : PE X (.BoolOp .And (b :: rest) pos) tb) : PE X (.BoolOp .And (a :: b :: rest) pos) (tAndV ta tb) := by
  intro pins s σ H Q I h
  refine BoolOp_and (thn (ha pins s σ H _ I h) fun v s1 ⟨x, H1, I1, r1, q1⟩ => ?_)
  obtain ⟨c, rfl, q1⟩ := q1
  cases r1
  refine wpAny_truthy_bool ?_
  cases c with
  | true => exact hb pins s1 σ H1 Q I1 q1
  | false => exact ⟨.bl false, H1, I1, rfl, q1⟩
end
end L2
namespace L2
open PySem PySem.Spec PyProof.Rows
def SqL (K : PySem.W.Frag) (H : Hp) (a : Addr) (xs : List V) : Prop :=
  Rd H a (.lst xs) ∨
    ∃ (o : Obj) (its : Array Value) (n : Nat), K.lookup a = some o ∧ o.cls = .type "list" ∧ o.dict = none ∧ o.data = .seq its n ∧ its.size ≤ sizeLine ∧ Vals xs its.toList
def SqT (K : PySem.W.Frag) (H : Hp) (a : Addr) (xs : List V) : Prop :=
  Rd H a (.tup xs) ∨
    ∃ (o : Obj) (its : Array Value) (n : Nat), K.lookup a = some o ∧ o.cls = .type "tuple" ∧ o.data = .seq its n ∧ its.size ≤ sizeLine ∧ Vals xs its.toList
def absV : Value → Option V
  | .none => some .non
  | .bool b => some (.bl b)
  | .int i _ => some (.int i)
  | .str x _ => some (.str x)
  | .bytes b _ => some (.byt b)
  | .float b _ => some (.flt b)
  | .ref a => some (.ref a)
  | .type n => some (.ty n)
  | _ => none
theorem RelV.abs {x : V} {u : Value} (r : RelV x u) : absV u = some x := by
  cases x with
  | non => cases r; rfl
  | bl _ => cases r; rfl
  | int _ => obtain ⟨t, rfl⟩ := r; rfl
  | str _ => obtain ⟨t, rfl⟩ := r; rfl
  | byt _ => obtain ⟨t, rfl⟩ := r; rfl
  | flt _ => obtain ⟨t, rfl⟩ := r; rfl
  | ref _ => cases r; rfl
  | ty _ => cases r; rfl
theorem RelV.inj {x y : V} {u : Value} (r : RelV x u) (q : RelV y u) : x = y := Option.some.inj (r.abs.symm.trans q.abs)
theorem Vals.inj : ∀ {xs ys : List V} {us : List Value}, Vals xs us → Vals ys us → xs = ys
  | _, _, _, .nil, .nil => rfl
  | _, _, _, .cons r t, .cons r' t' => by rw [r.inj r', Vals.inj t t']
section
variable {X : Cx} {pins : List (Addr × Obj)} {σ : St} {H : Hp} {s : Shared} {a : Addr} {xs ys : List V}
theorem SqL.of {K : PySem.W.Frag} (h : H a = some (.lst xs)) : SqL K H a xs := .inl (.inl h)
theorem SqT.of {K : PySem.W.Frag} (h : H a = some (.tup xs)) : SqT K H a xs := .inl (.inl h)
theorem Inv.list (I : Inv X pins σ H s) (h : SqL X.K H a xs) : ∃ its : List Value, Vals xs its ∧ PlainL s.heap a its.toArray ∧ xs.length ≤ sizeLine := by
  rcases h with h | ⟨o, its, n, hk, hc, hd, hs, hz, r⟩
  · obtain ⟨z, its, n, r, e⟩ := h.ok I.hok
    exact ⟨its, r, ⟨_, n, e, rfl, rfl, rfl⟩, z⟩
  · refine ⟨its.toList, r, ⟨o, n, I.kIn a o hk, hc, hd, by simpa using hs⟩, ?_⟩
    have e := r.length
    simp only [Array.length_toList] at e
    omega
theorem Inv.tuple (I : Inv X pins σ H s) (h : SqT X.K H a xs) : ∃ its : List Value, Vals xs its ∧ IsTup s.heap a its.toArray ∧ xs.length ≤ sizeLine := by
  rcases h with h | ⟨o, its, n, hk, hc, hs, hz, r⟩
  · obtain ⟨z, its, r, p⟩ := h.ok I.hok
    exact ⟨its, r, p, z⟩
  · refine ⟨its.toList, r, ⟨o, I.kIn a o hk, hc, n, by simpa using hs⟩, ?_⟩
    have e := r.length
    simp only [Array.length_toList] at e
    omega
theorem Inv.list_inj (I : Inv X pins σ H s) (h : SqL X.K H a xs) (h' : SqL X.K H a ys) : xs = ys := by
  obtain ⟨its, r, ⟨o, n, e, _, _, d⟩, _⟩ := I.list h
  obtain ⟨its', r', ⟨o', n', e', _, _, d'⟩, _⟩ := I.list h'
  rw [e] at e'; cases e'
  rw [d] at d'
  injection d' with d1 _
  have : its = its' := by simpa using congrArg Array.toList d1
  subst this
  exact r.inj r'
end
abbrev Cx.wish (X : Cx) (E : Value → Shared → Prop) : Cx := { X with xe := E }
abbrev Cx.nox (X : Cx) : Cx := X.wish fun _ _ => False
theorem Cx.Ok.wish {X : Cx} (ok : X.Ok) (E : Value → Shared → Prop) : (X.wish E).Ok :=
  ⟨ok.mod, ok.kind, ok.glob, ok.blt, ok.above, ok.inj, ok.has, ok.cab, ok.hd, ok.frames, ok.stk, ok.exf, ok.bs, ok.bsz, ok.noex, ok.exfs, ok.funs, ok.frf⟩
theorem Cx.Ok.unwish {X : Cx} {E : Value → Shared → Prop} (ok : (X.wish E).Ok) : X.Ok :=
  ⟨ok.mod, ok.kind, ok.glob, ok.blt, ok.above, ok.inj, ok.has, ok.cab, ok.hd, ok.frames, ok.stk, ok.exf, ok.bs, ok.bsz, ok.noex, ok.exfs, ok.funs, ok.frf⟩
section
variable {X : Cx} {pins : List (Addr × Obj)} {σ : St} {H : Hp} {s : Shared} {E : Value → Shared → Prop}
theorem Inv.wish (I : Inv X pins σ H s) (E : Value → Shared → Prop) : Inv (X.wish E) pins σ H s := ⟨I.ok.wish E, I.os, I.bare, I.base, I.loc, I.cell, I.free, I.freeC, I.pin, I.hok, I.len⟩
theorem Inv.unwish (I : Inv (X.wish E) pins σ H s) : Inv X pins σ H s := ⟨I.ok.unwish, I.os, I.bare, I.base, I.loc, I.cell, I.free, I.freeC, I.pin, I.hok, I.len⟩
theorem SP.unwish {D : Ends} {f : Flow} {s' : Shared} (h : SP (X.wish E) pins D f s') : SP X pins D f s' := by
  cases f with
  | next => obtain ⟨σ', H', I, q⟩ := h; exact ⟨σ', H', I.unwish, q⟩
  | brk => obtain ⟨σ', H', I, q⟩ := h; exact ⟨σ', H', I.unwish, q⟩
  | cont => obtain ⟨σ', H', I, q⟩ := h; exact ⟨σ', H', I.unwish, q⟩
  | ret u => obtain ⟨v, σ', H', I, r, q⟩ := h; exact ⟨v, σ', H', I.unwish, r, q⟩
theorem PE.nox {e : Expr} {t : TE} (h : PE X.nox e t) : PE X e t := fun pins s σ H Q I hw =>
  wpAny_mono (h pins s σ H Q (I.wish _) hw) (fun _ _ ⟨v, H', I', r, q⟩ => ⟨v, H', I'.unwish, r, q⟩) fun _ _ z => False.elim z
theorem PSs.nox {st : List Stmt} {t : TS} (h : PSs X.nox st t) : PSs X st t := fun pins s σ H D I hw =>
  wpAny_mono (h pins s σ H D (I.wish _) hw) (fun _ _ q => q.unwish) fun _ _ z => False.elim z
end
section
variable {X : Cx} {st : Stmt} {rest : List Stmt} {t u : TS} {e : Expr} {te : TE} {pos : Pos}
def tNext : TS := fun D σ H => D.nx σ H
def tSeq (t u : TS) : TS := fun D σ H => t { D with nx := u D } σ H
theorem pss_nil : PSs X [] tNext := fun _ _ σ H _ I h => wpAny_execs_nil ⟨σ, H, I, h⟩
theorem pss_cons (h1 : PS X st t) (h2 : PSs X rest u) : PSs X (st :: rest) (tSeq t u) := by
  intro pins s σ H D I h
  refine wpAny_execs_cons (thn (h1 pins s σ H { D with nx := u D } I h) fun f s1 q => ?_)
  cases f with
  | next =>
    obtain ⟨σ', H', I', q⟩ := q
    exact h2 pins s1 σ' H' D I' q
  | ret v => exact q
  | brk => exact q
  | cont => exact q
theorem pss_one (h1 : PS X st t) : PSs X [st] t := by
  intro pins s σ H D I h
  refine wpAny_execs_cons (thn (h1 pins s σ H D I h) fun f s1 q => ?_)
  cases f with
  | next => exact wpAny_execs_nil q
  | ret v => exact q
  | brk => exact q
  | cont => exact q
theorem Inv.quiet {pins : List (Addr × Obj)} {σ : St} {H : Hp} {s : Shared} (I : Inv X pins σ H s) : interactive X.env = false := by simp [interactive, I.ok.kind]
def tDrop (te : TE) : TS := fun D σ H => te σ H fun _ H1 => D.nx σ H1
theorem ps_expr (he : PE X e te) (hs : swapsWith e none pos.line X.env = pure false := by rfl) : PS X (.Expr e pos) (tDrop te) := by
  intro pins s σ H D I h
  exact wpAny_Expr_any (thn (he pins s σ H _ I h) fun v s1 ⟨x, H1, I1, r1, q1⟩ => ⟨σ, H1, I1, q1⟩) I.quiet hs
def tRet (te : TE) : TS := fun D σ H => te σ H D.rt
theorem ps_ret (he : PE X e te) : PS X (.Return (some e) pos) (tRet te) := by
  intro pins s σ H D I h
  exact wpAny_Return_some (thn (he pins s σ H _ I h) fun v s1 ⟨x, H1, I1, r1, q1⟩ => ⟨x, σ, H1, I1, r1, q1⟩)
def tIfS (c : TT) (t u : TS) : TS := fun D σ H => c σ H fun b H1 => if b = true then t D σ H1 else u D σ H1
theorem ps_if {c : Expr} {a b : List Stmt} {tc : TT} (hc : PT X c tc) (ha : PSs X a t) (hb : PSs X b u) : PS X (.If c a b pos) (tIfS tc t u) := by
  intro pins s σ H D I h
  refine wpAny_If (thn (hc pins s σ H _ I h) fun d s1 ⟨H1, I1, q1⟩ => ?_)
  cases d with
  | true => exact ha pins s1 σ H1 D I1 q1
  | false => exact hb pins s1 σ H1 D I1 q1
end
abbrev TG := V → St → Hp → (St → Hp → Prop) → Prop
abbrev TGs := List V → St → Hp → (St → Hp → Prop) → Prop
def PG (X : Cx) (target : Expr) (t : TG) : Prop :=
  ∀ (pins : List (Addr × Obj)) (s : Shared) (σ : St) (H : Hp) (v : V) (u : Value) (Q : St → Hp → Prop), Inv X pins σ H s → RelV v u → t v σ H Q →
    wpAny (model X.prog X.w) X.A (assign target X.env u) (fun _ s' => ∃ σ' H', Inv X pins σ' H' s' ∧ Q σ' H') X.xe s
def PGs (X : Cx) (ts : List Expr) (t : TGs) : Prop :=
  ∀ (pins : List (Addr × Obj)) (s : Shared) (σ : St) (H : Hp) (vs : List V) (us : List Value) (Q : St → Hp → Prop), Inv X pins σ H s → Vals vs us → t vs σ H Q →
    wpAny (model X.prog X.w) X.A (assignInOrder ((assignEach ts X.env).map (·.2)) us) (fun _ s' => ∃ σ' H', Inv X pins σ' H' s' ∧ Q σ' H') X.xe s
abbrev TSet := V → V → V → Hp → (Hp → Prop) → Prop
def PSet (X : Cx) (t : TSet) : Prop :=
  ∀ (pins : List (Addr × Obj)) (s : Shared) (σ : St) (H : Hp) (o i v : V) (ov iv u : Value) (Q : Hp → Prop), Inv X pins σ H s → RelV o ov → RelV i iv → RelV v u → t o i v H Q →
    wpAny (model X.prog X.w) X.A (setItem ov iv u) (fun _ s' => ∃ H', Inv X pins σ H' s' ∧ Q H') X.xe s
section
variable {X : Cx} {pos : Pos}
def gName (i : Nat) : TG := fun v σ H Q => Q (σ.set i (some v)) H
theorem pg_name {i : Nat} {x : Str} (hN : X.N.Nodup) (hi : X.N[i]? = some x) (hx : Loc X.env.scope x) (hf : X.fn x = true ∨ X.env.scope.names.lookup x = some .local := by first | exact .inl rfl | exact .inr rfl | assumption) : PG X (.Name x pos) (gName i) := by
  intro pins s σ H v u Q I r h
  exact wpAny_assign_Name (store_ok I hN hi hx r (fun s' I' => ⟨_, H, I', h⟩) hf)
def gNil : TGs := fun vs σ H Q => vs = [] ∧ Q σ H
def gCons (t : TG) (u : TGs) : TGs := fun vs σ H Q => ∃ v r, vs = v :: r ∧ t v σ H fun σ' H' => u r σ' H' Q
theorem pgs_nil : PGs X [] gNil := by
  intro pins s σ H vs us Q I r h
  obtain ⟨e, h⟩ := h
  subst e
  cases r
  exact assignInOrder_nil ⟨σ, H, I, h⟩
theorem pgs_cons {e : Expr} {es : List Expr} {t : TG} {u : TGs} (h1 : PG X e t) (h2 : PGs X es u)
    (hs : (assignEach (e :: es) X.env).map (·.2) = assign e X.env :: (assignEach es X.env).map (·.2) := by rfl) : PGs X (e :: es) (gCons t u) := by
  intro pins s σ H vs us Q I r h
  obtain ⟨v, vr, e1, h⟩ := h
  subst e1
  cases r with
  | cons r rr =>
    rw [hs]
    refine assignInOrder_cons (thn (h1 pins s σ H _ _ _ I r h) fun _ s1 ⟨σ1, H1, I1, q1⟩ => ?_)
    exact h2 pins s1 σ1 H1 _ _ Q I1 rr q1
def gTup (K : PySem.W.Frag) (n : Nat) (t : TGs) : TG := fun v σ H Q => ∃ a xs, v = .ref a ∧ SqT K H a xs ∧ xs.length = n ∧ t xs σ H Q
theorem pg_tup {es : List Expr} {k : Nat} {t : TGs} {n : Nat} (hc : X.calm = true) (h : PGs X es t)
    (hn : (assignEach es X.env).length = n := by rfl) (hst : (assignEach es X.env).findIdx? (·.1) = none := by rfl) : PG X (.Tuple es k pos) (gTup X.K n t) := by
  intro pins s σ H v u Q I r hw
  obtain ⟨a, xs, e1, hq, hl, hw⟩ := hw
  subst e1
  cases r
  obtain ⟨its, rv, ht, hz⟩ := I.tuple hq
  refine assign_Tuple_tuple (I.ok.hd hc) ht (by simp [hn, ← hl, rv.length]) hst fun h' hx => ?_
  have I1 : Inv X pins σ H { s with heap := h' } := I.kept (t' := s.toks) fun b o e => hx b o (Nat.ne_of_lt (Heap.lt_size e)) e
  exact h pins _ σ H xs _ Q I1 (by simpa using rv) hw
def gSub (to ti : TE) (t : TSet) : TG := fun v σ H Q => to σ H fun o H1 => ti σ H1 fun i H2 => t o i v H2 fun H3 => Q σ H3
theorem pg_sub {o i : Expr} {to ti : TE} {t : TSet} (ho : PE X o to) (hi : PE X i ti) (hs : PSet X t)
    (ha : ∀ v, assign (.Subscript o i pos) X.env v = (do
      let ov ← holding [v] (eval o X.env)
      let iv ← holding [v, ov] (eval i X.env)
      standAt pos
      holding [v, ov, iv] (setItem ov iv v)
      release [v, ov, iv] []) := by intro _; rfl) : PG X (.Subscript o i pos) (gSub to ti t) := by
  intro pins s σ H v u Q I r h
  rw [ha]
  refine wpAny_bind (wpAny_holding (thn (ho pins s σ H _ I h) fun ov s1 ⟨x, H1, I1, r1, q1⟩ => ?_))
  refine wpAny_bind (wpAny_holding (thn (hi pins s1 σ H1 _ I1 q1) fun iv s2 ⟨y, H2, I2, r2, q2⟩ => ?_))
  refine wpAny_bind (wpAny_standAt (wpAny_bind (wpAny_holding (thn (hs pins s2 σ H2 x y v ov iv u _ I2 r1 r2 r q2) fun _ s3 ⟨H3, I3, q3⟩ => ?_))))
  exact wpAny_release ⟨σ, H3, I3, q3⟩
def tAsg (te : TE) (g : TG) : TS := fun D σ H => te σ H fun x H1 => g x σ H1 D.nx
theorem ps_asg {tg e : Expr} {te : TE} {g : TG} (he : PE X e te) (hg : PG X tg g) (hs : swapsWithSole [tg] e pos.line X.env = pure false := by rfl) (hw : swappedStores [tg] e X.env = pure none := by rfl)
    (h1 : (assignEach [tg] X.env).map (·.2) = [assign tg X.env] := by rfl) : PS X (.Assign [tg] e pos) (tAsg te g) := by
  intro pins s σ H D I h
  refine wpAny_Assign_stores (thn (he pins s σ H _ I h) fun v s1 ⟨x, H1, I1, r1, q1⟩ => ?_) hs hw
  rw [h1]
  exact thn (hg pins s1 σ H1 x v _ I1 r1 q1) fun _ s2 q => q
theorem ps_set {i : Nat} {x : Str} {e : Expr} {te : TE} {pos' : Pos} (hN : X.N.Nodup) (hi : X.N[i]? = some x) (hx : Loc X.env.scope x) (he : PE X e te) (hs : swapsWith e (some (.Name x pos')) pos.line X.env = pure false := by rfl) (hf : X.fn x = true ∨ X.env.scope.names.lookup x = some .local := by first | exact .inl rfl | exact .inr rfl | assumption) :
    PS X (.Assign [.Name x pos'] e pos) (tAsg te (gName i)) := by
  intro pins s σ H D I h
  refine wpAny_Assign_Name (thn (he pins s σ H _ I h) fun v s1 ⟨y, H1, I1, r1, q1⟩ => ?_) hs
  exact store_ok I1 hN hi hx r1 (fun s2 I2 => ⟨_, H1, I2, q1⟩) hf
end
section
variable {X : Cx} {pos : Pos}
def tWhile (c : TT) (tb : TS) : TS := fun D σ H => ∃ W : Nat → St → Hp → Prop, (∃ m, W m σ H) ∧ ∀ m σ H, W m σ H →
  c σ H fun b H1 => if b = true then ∃ N : St → Hp → Prop, (∀ σ' H', N σ' H' → ∃ m', m' < m ∧ W m' σ' H') ∧ tb { D with nx := N, ct := N, bk := D.nx } σ H1 else D.nx σ H1
theorem ps_while {c : Expr} {body : List Stmt} {tc : TT} {tb : TS} (hp : PassesOwn (model X.prog X.w) X.A X.env X.xe) (hc : PT X c tc) (hb : PSs X body tb) : PS X (.While c body [] pos) (tWhile tc tb) := by
  intro pins s σ H D I h
  obtain ⟨W, ⟨m0, w0⟩, turn⟩ := h
  refine wpAny_While (codeAny_whileLoop (fun n s' => ∃ σ' H', Inv X pins σ' H' s' ∧ W n σ' H') ?_ m0 ⟨σ, H, I, w0⟩)
  rintro n s1 ⟨σ1, H1, I1, w1⟩
  refine wpAny_passesOwn hp (thn (hc pins s1 σ1 H1 _ I1 (turn n σ1 H1 w1)) fun b s2 ⟨H2, I2, q2⟩ => ?_)
  cases b with
  | true =>
    obtain ⟨N, hN, q2⟩ := q2
    rw [if_pos rfl]
    refine wpAny_passesOwn hp (thn (hb pins s2 σ1 H2 _ I2 q2) fun f s3 q3 => ?_)
    cases f with
    | next =>
      obtain ⟨σ3, H3, I3, n3⟩ := q3
      obtain ⟨m', hm, w3⟩ := hN σ3 H3 n3
      exact ⟨m', hm, σ3, H3, I3, w3⟩
    | cont =>
      obtain ⟨σ3, H3, I3, n3⟩ := q3
      obtain ⟨m', hm, w3⟩ := hN σ3 H3 n3
      exact ⟨m', hm, σ3, H3, I3, w3⟩
    | brk => exact q3
    | ret v => exact q3
  | false =>
    rw [if_neg Bool.false_ne_true]
    exact wpAny_execs_nil ⟨σ1, H2, I2, q2⟩
end
structure It where
  go : Nat → Hp → Prop
  yld : Nat → Hp → V → Hp → Prop
  stop : Nat → Hp → Prop
def FpOk (X : Cx) (pins : List (Addr × Obj)) (H : Hp) (b : Addr) : Prop :=
  H b = none ∧ b ≠ X.env.locals ∧ b ∉ X.fs ∧ (b ∈ X.ex ∨ X.s₀.heap.objs.size ≤ b) ∧ (∀ x c, X.env.cells.lookup x = some c → c ≠ b) ∧ ∀ p ∈ X.pn ++ pins, p.1 ≠ b
theorem Inv.fpOk {X : Cx} {pins : List (Addr × Obj)} {σ : St} {H H' : Hp} {s : Shared} {b : Addr} (I : Inv X pins σ H s) (hb : s.heap.objs.size ≤ b) (hn : H' b = none) : FpOk X pins H' b := by
  refine ⟨hn, Nat.ne_of_gt (Nat.lt_of_lt_of_le I.lt hb), I.nofs hb, .inr (Nat.le_trans I.sz hb), fun x c e z => ?_, fun p hp z => ?_⟩
  · obtain ⟨v, q⟩ := I.cell x c e
    exact absurd (Nat.lt_of_lt_of_le q.lt (by rw [z]; exact hb)) (Nat.lt_irrefl _)
  · exact absurd (Nat.lt_of_lt_of_le (Heap.lt_size (I.pin p hp).1) (by rw [z]; exact hb)) (Nat.lt_irrefl _)
structure Turn (P : Program) (w : World) (K : PySem.W.Frag) (tg : Expr) (J : It) (fp : List Addr) (it : Addr) (tn : Nat → Heap → Prop) : Prop where
  mem : it ∈ fp
  obj : ∀ i h, tn i h → ∀ b ∈ fp, ∃ o, h.get? b = some o ∧ ∀ v, o.data ≠ .cell v
  keep : ∀ i h h', tn i h → (∀ b ∈ fp, ∀ o, h.get? b = some o → h'.get? b = some o) → tn i h'
  item : ∀ (X : Cx), X.prog = P → X.w = w → X.K = K → X.calm = true → ∀ (i : Nat) (pins : List (Addr × Obj)) (s : Shared) (σ : St) (H : Hp) (E : Value → Shared → Prop), Inv X pins σ H s → (∀ b ∈ fp, FpOk X pins H b) → tn i s.heap → J.go i H →
    wpAny (model P w) X.A (pyNext (.ref it)) (fun r s1 => ∃ u, r = some u ∧
      wpAny (model P w) X.A (letOwnedTupleGo tg (.ref it) u) (fun _ s2 => ∃ x H', Inv X pins σ H' s2 ∧ RelV x u ∧ J.yld i H x H' ∧ tn (i + 1) s2.heap ∧ ∀ b ∈ fp, H' b = none) E s1) E s
  done : ∀ (X : Cx), X.prog = P → X.w = w → X.K = K → X.calm = true → ∀ (i : Nat) (pins : List (Addr × Obj)) (s : Shared) (σ : St) (H : Hp) (E : Value → Shared → Prop), Inv X pins σ H s → (∀ b ∈ fp, FpOk X pins H b) → tn i s.heap → J.stop i H →
    wpAny (model P w) X.A (pyNext (.ref it)) (fun r s1 => r = none ∧ Inv X pins σ H s1) E s
  self : ∀ (A : Around) (i : Nat) (s : Shared) (Q : Value → Shared → Prop) (E : Value → Shared → Prop), tn i s.heap → Q (.ref it) s → wpAny (model P w) A (pyIter (.ref it)) Q E s
abbrev TI := St → Hp → (It → Hp → Prop) → Prop
def PIE (X : Cx) (pins : List (Addr × Obj)) (σ : St) (tg : Expr) (R : It → Hp → Prop) (itv : Value) (s2 : Shared) : Prop :=
  ∃ (it : Addr) (fp : List Addr) (tn : Nat → Heap → Prop) (J : It) (H' : Hp), itv = .ref it ∧ Inv X pins σ H' s2 ∧ Turn X.prog X.w X.K tg J fp it tn ∧ tn 0 s2.heap ∧ (∀ b ∈ fp, FpOk X pins H' b) ∧ R J H'
def PI (X : Cx) (tg iter : Expr) (wi : TI) : Prop :=
  ∀ (pins : List (Addr × Obj)) (s : Shared) (σ : St) (H : Hp) (R : It → Hp → Prop), Inv X pins σ H s → wi σ H R →
    wpAny (model X.prog X.w) X.A (eval iter X.env) (fun v s1 => wpAny (model X.prog X.w) X.A (pyIter v) (PIE X pins σ tg R) X.xe s1) X.xe s
theorem go_of {M : Model} {A : Around} {E : Value → Shared → Prop} {s : Shared} {tg : Expr} {it : Addr} {u : Value} {o : Obj} {n : String} {vs : Array Value} {Q : Unit → Shared → Prop} (ho : s.heap.get? it = some o) (hc : o.cls = .type n) (hd : o.data = .fields vs)
    (hn : ["enumerate", "zip", "dict_itemiterator", "dict_reverseitemiterator", "odict_iterator", "itertools.zip_longest", "itertools.pairwise"].contains n = false) (hQ : Q () s) : wpAny M A (letOwnedTupleGo tg (.ref it) u) Q E s := by
  unfold letOwnedTupleGo
  cases tg <;> first
    | exact wpAny_pure hQ
    | (cases u <;> first
        | exact wpAny_pure hQ
        | (refine wpAny_bind (wpAny_load ho ?_)
           rw [hc, hd]
           show wpAny M A (if (["enumerate", "zip", "dict_itemiterator", "dict_reverseitemiterator", "odict_iterator", "itertools.zip_longest", "itertools.pairwise"].contains n && vs[0]? == some (rawInt _)) = true then _ else _) Q E s
           rw [if_neg (by intro h; rw [hn, Bool.false_and] at h; cases h)]
           exact wpAny_pure hQ))
def Itl (K : PySem.W.Frag) (a : Addr) : It :=
  ⟨fun i H => ∃ xs x, SqL K H a xs ∧ xs[i]? = some x, fun i H x H' => H' = H ∧ ∀ xs, SqL K H a xs → xs[i]? = some x, fun i H => ∃ xs, SqL K H a xs ∧ xs.length ≤ i⟩
def Itr (lo : Int) (n : Nat) : It := ⟨fun i _ => i < n, fun i H x H' => H' = H ∧ x = .int (lo + i), fun i _ => n ≤ i⟩
theorem turn_list {P : Program} {w : World} {K : PySem.W.Frag} {tg : Expr} (a it : Addr) : Turn P w K tg (Itl K a) [it] it (fun i h => h.IsListIter it a i) where
  mem := by simp
  obj := fun i h st b hb => by
    have e : b = it := by simpa using hb
    subst e
    obtain ⟨o, e, c, d⟩ := st
    exact ⟨o, e, fun v z => by rw [d] at z; cases z⟩
  keep := fun i h h' st k => st.at fun o e => k it (by simp) o e
  item := by
    intro X hP hw hK hc i pins s σ H E I hf st hg
    subst hP hw hK
    obtain ⟨xs, x, hq, hx⟩ := hg
    obtain ⟨its, rv, p, hz⟩ := I.list hq
    obtain ⟨u, hu, ru⟩ := rv.get hx
    obtain ⟨f0, f1, f2, f3, f4, f5⟩ := hf it (by simp)
    refine wpAny_pyNext_list_item st p.isList (x := u) (by simpa using hu) fun h' st' sb => ?_
    have I1 : Inv X pins σ H { s with heap := h' } := I.turned (t' := s.toks) (fun b o hb e => (sb.2 b hb).trans e) f0 f1 f3 f4 f5
    obtain ⟨o, e, c, d⟩ := id st'
    exact ⟨u, rfl, go_of (s := { s with heap := h' }) e c d (by decide) ⟨x, H, I1, ru, ⟨rfl, fun ys hy => by rw [I.list_inj hy hq]; exact hx⟩, st', fun b hb => (hf b hb).1⟩⟩
  done := by
    intro X hP hw hK hc i pins s σ H E I hf st hg
    subst hP hw hK
    obtain ⟨xs, hq, hx⟩ := hg
    obtain ⟨its, rv, p, hz⟩ := I.list hq
    obtain ⟨f0, f1, f2, f3, f4, f5⟩ := hf it (by simp)
    have hl := rv.length
    exact wpAny_pyNext_list_end (I.ok.hd hc) st p.isList (by simp; omega) fun h' eb => ⟨rfl, I.turned (t' := s.toks) (fun b o hb e => eb b o hb e) f0 f1 f3 f4 f5⟩
  self := fun _ _ _ _ _ st h => wpAny_pyIter_listiter st h
theorem turn_range {P : Program} {w : World} {K : PySem.W.Frag} {tg : Expr} (it : Addr) (lo : Int) (n : Nat) : Turn P w K tg (Itr lo n) [it] it (fun i h => IsRangeIter h it (lo + (i : Nat) * 1) ((n : Int) - (i : Nat)) 1) where
  mem := by simp
  obj := fun i h st b hb => by
    have e : b = it := by simpa using hb
    subst e
    exact ⟨_, st, fun v z => by
      have z' : Data.fields _ = Data.cell v := z
      cases z'⟩
  keep := fun i h h' st k => k it (by simp) _ st
  item := by
    intro X hP hw hK hc i pins s σ H E I hf st hg
    subst hP hw hK
    obtain ⟨f0, f1, f2, f3, f4, f5⟩ := hf it (by simp)
    have W := Walks.range (prog := X.prog) (w := X.w) (I.ok.hd hc) it lo 1 n
    refine W.item i s _ _ hg st fun v h' tk hv st' kk => ?_
    obtain ⟨t, rfl⟩ := hv
    have I1 : Inv X pins σ H { s with heap := h', toks := tk } := I.turned (fun b o hb e => kk b o (by simpa using hb) e) f0 f1 f3 f4 f5
    refine ⟨_, rfl, go_of (s := { s with heap := h', toks := tk }) (n := "range_iterator") st' rfl rfl (by decide) ⟨.int (lo + i), H, I1, ⟨t, ?_⟩, ⟨rfl, rfl⟩, st', fun b hb => (hf b hb).1⟩⟩
    rw [Int.mul_one]
  done := by
    intro X hP hw hK hc i pins s σ H E I hf st hg
    subst hP hw hK
    obtain ⟨f0, f1, f2, f3, f4, f5⟩ := hf it (by simp)
    exact wpAny_pyNext_range_end (I.ok.hd hc) st (by have : n ≤ i := hg; omega) fun h' eb => ⟨rfl, I.turned (t' := s.toks) (fun b o hb e => eb b o hb e) f0 f1 f3 f4 f5⟩
  self := fun _ _ _ _ _ st h => wpAny_pyIter_rangeiter st h
end L2
namespace L2
open PySem PySem.Spec PyProof.Rows
section
variable {X : Cx} {tg : Expr}
def iList (K : PySem.W.Frag) (tl : TE) : TI := fun σ H R => tl σ H fun x H1 => ∃ a, x = .ref a ∧ (∃ xs, SqL K H1 a xs) ∧ R (Itl K a) H1
theorem pi_list {l : Expr} {tl : TE} (hl : PE X l tl) : PI X tg l (iList X.K tl) := by
  intro pins s σ H R I h
  refine thn (hl pins s σ H _ I h) fun v s1 ⟨x, H1, I1, r1, q1⟩ => ?_
  obtain ⟨a, e, ⟨xs, hq⟩, q⟩ := q1
  subst e
  cases r1
  obtain ⟨its, rv, p, hz⟩ := I1.list hq
  refine wpAny_pyIter_list p.isList ?_
  refine ⟨s1.heap.objs.size, [s1.heap.objs.size], _, _, H1, rfl, I1.kept (t' := s1.toks) fun b o e => Heap.get?_push_of_some _ e, turn_list a _, ⟨_, Heap.get?_push_size _ rfl, rfl, rfl⟩, fun b hb => ?_, q⟩
  have e : b = s1.heap.objs.size := by simpa using hb
  subst e
  exact I1.fpOk (Nat.le_refl _) (I1.hok.fresh (Nat.le_refl _))
theorem range_it {pins : List (Addr × Obj)} {σ : St} {H : Hp} {s : Shared} {R : It → Hp → Prop} {E : Value → Shared → Prop} {lo hi : Int} {t u v : Tok} {tk : Nat} (I : Inv X pins σ H s) (h1 : -(2 ^ 62) ≤ lo) (h2 : lo < 2 ^ 62) (h3 : -(2 ^ 62) ≤ hi) (h4 : hi < 2 ^ 62)
    (q : R (Itr lo (hi - lo).toNat) H) : wpAny (model X.prog X.w) X.A (pyIter (.ref s.heap.objs.size)) (PIE X pins σ tg R) E { s with heap := s.heap.push { cls := .type "range", data := .fields #[.int lo t, .int hi u, .int 1 v] }, toks := tk } := by
  refine wpAny_pyIter_range (IsRange.new ..) (small_one h1 h2 h3 h4) ?_
  have I1 : Inv X pins σ H { s with heap := s.heap.push { cls := .type "range", data := .fields #[.int lo t, .int hi u, .int 1 v] }, toks := tk } := I.kept fun b o e => Heap.get?_push_of_some _ e
  refine ⟨(s.heap.push { cls := .type "range", data := .fields #[.int lo t, .int hi u, .int 1 v] }).objs.size, [(s.heap.push { cls := .type "range", data := .fields #[.int lo t, .int hi u, .int 1 v] }).objs.size], _, _, H, rfl,
    I1.kept (t' := tk) fun b o e => Heap.get?_push_of_some _ e, turn_range _ lo (hi - lo).toNat, ?_, fun b hb => ?_, q⟩
  · have e1 : lo + ((0 : Nat) : Int) * 1 = lo := by simp
    have e2 : (((hi - lo).toNat : Nat) : Int) - ((0 : Nat) : Int) = Builtin.Range.rangeSize lo hi 1 := by rw [rangeSize_one]; split <;> omega
    show IsRangeIter _ _ (lo + ((0 : Nat) : Int) * 1) ((((hi - lo).toNat : Nat) : Int) - ((0 : Nat) : Int)) 1
    rw [e1, e2]
    exact Heap.get?_push_size _ rfl
  · have e : b = (s.heap.push { cls := .type "range", data := .fields #[.int lo t, .int hi u, .int 1 v] }).objs.size := by simpa using hb
    subst e
    exact I1.fpOk (Nat.le_refl _) (I1.hok.fresh (Nat.le_refl _))
def iRng1 (ta : TA) : TI := fun σ H R => ta σ H fun vs H1 => ∃ j : Int, vs = [.int j] ∧ -(2 ^ 62) ≤ j ∧ j < 2 ^ 62 ∧ R (Itr 0 j.toNat) H1
def iRng2 (ta : TA) : TI := fun σ H R => ta σ H fun vs H1 => ∃ i j : Int, vs = [.int i, .int j] ∧ (-(2 ^ 62) ≤ i ∧ i < 2 ^ 62 ∧ -(2 ^ 62) ≤ j ∧ j < 2 ^ 62) ∧ R (Itr i (j - i).toNat) H1
theorem pi_range1 {a : Expr} {ta : TA} {p pos : Pos} (hg : Gl X "range") (hm : X.mg "range" = none) (ha : PA X [a] ta) (hs : starEach [a] X.env = [(false, eval a X.env)] := by rfl) : PI X tg (.Call (.Name "range" p) [a] [] pos) (iRng1 ta) := by
  intro pins s σ H R I h
  refine Call_ (ld_blt I hg hm boot_range (PyProof.Rows.callWith_type1 (thn (ha pos pins s σ H _ I h) fun us s1 ⟨vs, H1, I1, r1, q1⟩ => ?_) hs rfl))
  obtain ⟨j, e, q1, q2, q⟩ := q1
  subst e
  cases r1 with
  | cons r rr =>
    cases rr
    obtain ⟨t, rfl⟩ := r
    exact call_range_1 (range_it I1 (by omega) (by omega) q1 q2 (by simpa using q))
theorem pi_range2 {a b : Expr} {ta : TA} {p pos : Pos} (hg : Gl X "range") (hm : X.mg "range" = none) (ha : PA X [a, b] ta) (hs : starEach [a, b] X.env = [(false, eval a X.env), (false, eval b X.env)] := by rfl) (hs2 : starEach [b] X.env = [(false, eval b X.env)] := by rfl) :
    PI X tg (.Call (.Name "range" p) [a, b] [] pos) (iRng2 ta) := by
  intro pins s σ H R I h
  refine Call_ (ld_blt I hg hm boot_range (PyProof.Rows.callWith_type1 (thn (ha pos pins s σ H _ I h) fun us s1 ⟨vs, H1, I1, r1, q1⟩ => ?_) (by rw [hs, hs2]) (by rw [hs2]; rfl)))
  obtain ⟨i, j, e, ⟨q1, q2, q3, q4⟩, q⟩ := q1
  subst e
  cases r1 with
  | cons r rr =>
    cases rr with
    | cons r' rr =>
      cases rr
      obtain ⟨t, rfl⟩ := r
      obtain ⟨t', rfl⟩ := r'
      exact call_range_2 (range_it I1 q1 q2 q3 q4 q)
def tFor (wi : TI) (g : TG) (tb : TS) : TS := fun D σ H => wi σ H fun J H1 => ∃ W : Nat → Nat → St → Hp → Prop, (∃ m, W 0 m σ H1) ∧ ∀ i m σ H, W i m σ H →
  (J.stop i H ∧ D.nx σ H) ∨ (J.go i H ∧ ∃ N : St → Hp → Prop, (∀ σ' H', N σ' H' → ∃ m', m' < m ∧ W (i + 1) m' σ' H') ∧ ∀ x H', J.yld i H x H' → g x σ H' fun σ2 H2 => tb { D with nx := N, ct := N, bk := D.nx } σ2 H2)
def pinsAt (fp : List Addr) (h : Heap) : List (Addr × Obj) := fp.filterMap fun b => (h.get? b).map fun o => (b, o)
theorem mem_pinsAt {fp : List Addr} {h : Heap} {b : Addr} {o : Obj} (hb : b ∈ fp) (e : h.get? b = some o) : (b, o) ∈ pinsAt fp h := List.mem_filterMap.mpr ⟨b, hb, by rw [e]; rfl⟩
theorem of_pinsAt {fp : List Addr} {h : Heap} {p : Addr × Obj} (hp : p ∈ pinsAt fp h) : p.1 ∈ fp ∧ h.get? p.1 = some p.2 := by
  obtain ⟨b, hb, e⟩ := List.mem_filterMap.mp hp
  cases q : h.get? b with
  | none => rw [q] at e; cases e
  | some o =>
    rw [q] at e
    have e' : (b, o) = p := Option.some.inj e
    subst e'
    exact ⟨hb, q⟩
theorem Inv.pinned {pins : List (Addr × Obj)} {σ : St} {H : Hp} {s : Shared} {fp : List Addr} (I : Inv X pins σ H s) (hf : ∀ b ∈ fp, FpOk X pins H b) (ho : ∀ b ∈ fp, ∃ o, s.heap.get? b = some o ∧ ∀ v, o.data ≠ .cell v) : Inv X (pins ++ pinsAt fp s.heap) σ H s :=
  I.pins_of fun p hp => (List.mem_append.mp hp).elim (fun z => I.pin p (List.mem_append_right _ z)) fun z => by
    obtain ⟨hb, e⟩ := of_pinsAt z
    obtain ⟨f0, f1, f2, _⟩ := hf p.1 hb
    obtain ⟨o, e', d⟩ := ho p.1 hb
    rw [e] at e'; cases e'
    exact ⟨e, f0, f1, f2, d⟩
theorem Inv.unpinned {pins pl : List (Addr × Obj)} {σ : St} {H : Hp} {s : Shared} (I : Inv X (pins ++ pl) σ H s) : Inv X pins σ H s := I.pins_of fun p hp => I.pin p (List.mem_append_right _ (List.mem_append_left _ hp))
theorem ps_for {iter : Expr} {body : List Stmt} {wi : TI} {g : TG} {tb : TS} {pos : Pos} (hp : PassesOwn (model X.prog X.w) X.A X.env X.xe) (hc : X.calm = true) (hi : PI X tg iter wi) (hg : PG X tg g) (hb : PSs X body tb)
    (hs : ∀ x, foldedSetIterable iter X.env x = pure x := by intro _; rfl) : PS X (.For tg iter body [] pos) (tFor wi g tb) := by
  intro pins s σ H D I h
  refine wpAny_For (thn (hi pins s σ H _ I h) fun v s1 h1 => thn h1 fun itv s2 h2 => ?_) hs
  obtain ⟨it, fp, tn, J, H2, e, I2, T, st2, f2, W, ⟨m0, w0⟩, turn⟩ := h2
  subst e
  have stat : ∀ {H' : Hp}, (∀ b ∈ fp, H' b = none) → ∀ b ∈ fp, FpOk X pins H' b := fun hn b hb => ⟨hn b hb, (f2 b hb).2⟩
  refine codeAny_forLoop_any (fun n s' => ∃ i σ' H', Inv X pins σ' H' s' ∧ tn i s'.heap ∧ (∀ b ∈ fp, H' b = none) ∧ W i n σ' H') ?_ m0 ⟨0, σ, H2, I2, st2, fun b hb => (f2 b hb).1, w0⟩
  rintro n s3 ⟨i, σ3, H3, I3, st3, fr3, w3⟩
  rcases turn i n σ3 H3 w3 with ⟨stop, qn⟩ | ⟨go, N, hN, step⟩
  · refine wpAny_passesOwn hp (thn (T.done X rfl rfl rfl hc i pins s3 σ3 H3 X.xe I3 (stat fr3) st3 stop) fun r s4 ⟨hr, I4⟩ => ?_)
    subst hr
    exact wpAny_execs_nil ⟨σ3, H3, I4, qn⟩
  · refine wpAny_passesOwn hp (thn (T.item X rfl rfl rfl hc i pins s3 σ3 H3 X.xe I3 (stat fr3) st3 go) fun r s4 ⟨u, hr, h4⟩ => ?_)
    subst hr
    refine wpAny_passesOwn hp (thn h4 fun _ s5 ⟨x, H5, I5, r5, y5, st5, fr5⟩ => ?_)
    have I5' := I5.pinned (stat fr5) (T.obj _ _ st5)
    refine wpAny_passesOwn hp (thn (hg _ s5 σ3 H5 x u _ I5' r5 (step x H5 y5)) fun _ s6 ⟨σ6, H6, I6, q6⟩ => ?_)
    refine wpAny_passesOwn hp (thn (hb _ s6 σ6 H6 _ I6 q6) fun f s7 q7 => ?_)
    have again : ∀ {σ7 : St} {H7 : Hp}, Inv X (pins ++ pinsAt fp s5.heap) σ7 H7 s7 → N σ7 H7 → ∃ m, m < n ∧ ∃ i σ' H', Inv X pins σ' H' s7 ∧ tn i s7.heap ∧ (∀ b ∈ fp, H' b = none) ∧ W i m σ' H' := fun {σ7 H7} I7 n7 => by
      obtain ⟨m', hm, w7⟩ := hN σ7 H7 n7
      refine ⟨m', hm, i + 1, σ7, H7, I7.unpinned, T.keep _ _ _ st5 fun b hb o e => (I7.pin (b, o) (List.mem_append_right _ (List.mem_append_right _ (mem_pinsAt hb e)))).1, fun b hb => ?_, w7⟩
      obtain ⟨o, e, d⟩ := T.obj _ _ st5 b hb
      exact (I7.pin (b, o) (List.mem_append_right _ (List.mem_append_right _ (mem_pinsAt hb e)))).2.1
    cases f with
    | next => obtain ⟨σ7, H7, I7, n7⟩ := q7; exact again I7 n7
    | cont => obtain ⟨σ7, H7, I7, n7⟩ := q7; exact again I7 n7
    | brk => obtain ⟨σ7, H7, I7, q7⟩ := q7; exact ⟨σ7, H7, I7.unpinned, q7⟩
    | ret v => obtain ⟨x7, σ7, H7, I7, r7, q7⟩ := q7; exact ⟨x7, σ7, H7, I7.unpinned, r7, q7⟩
end
theorem for_list {K : PySem.W.Frag} {a : Addr} {xs : List V} {g : TG} {tb : TS} {D : Ends} {σ : St} {H : Hp} (Pv : Nat → St → Hp → Prop) (h0 : Pv 0 σ H) (hl : ∀ i σ H, i ≤ xs.length → Pv i σ H → SqL K H a xs)
    (hs : ∀ i x σ H, xs[i]? = some x → Pv i σ H → g x σ H fun σ2 H2 => tb { D with nx := Pv (i + 1), ct := Pv (i + 1), bk := D.nx } σ2 H2) (hd : ∀ σ H, Pv xs.length σ H → D.nx σ H) :
    ∃ W : Nat → Nat → St → Hp → Prop, (∃ m, W 0 m σ H) ∧ ∀ i m σ H, W i m σ H →
      ((Itl K a).stop i H ∧ D.nx σ H) ∨ ((Itl K a).go i H ∧ ∃ N : St → Hp → Prop, (∀ σ' H', N σ' H' → ∃ m', m' < m ∧ W (i + 1) m' σ' H') ∧ ∀ x H', (Itl K a).yld i H x H' → g x σ H' fun σ2 H2 => tb { D with nx := N, ct := N, bk := D.nx } σ2 H2) := by
  refine ⟨fun i m σ H => m = xs.length - i ∧ i ≤ xs.length ∧ Pv i σ H, ⟨xs.length, by simp, Nat.zero_le _, h0⟩, ?_⟩
  rintro i m σ H ⟨rfl, hi, p⟩
  have q := hl i σ H hi p
  by_cases hlt : i < xs.length
  · refine .inr ⟨⟨xs, xs[i], q, by simp [hlt]⟩, Pv (i + 1), fun σ' H' p' => ⟨xs.length - (i + 1), by omega, rfl, hlt, p'⟩, fun x H' y => ?_⟩
    obtain ⟨e, y⟩ := y
    subst e
    exact hs i x σ _ (y xs q) p
  · have e : i = xs.length := by omega
    subst e
    exact .inl ⟨⟨xs, q, Nat.le_refl _⟩, hd σ H p⟩
theorem for_range {lo : Int} {n : Nat} {g : TG} {tb : TS} {D : Ends} {σ : St} {H : Hp} (Pv : Nat → St → Hp → Prop) (h0 : Pv 0 σ H)
    (hs : ∀ i σ H, i < n → Pv i σ H → g (.int (lo + i)) σ H fun σ2 H2 => tb { D with nx := Pv (i + 1), ct := Pv (i + 1), bk := D.nx } σ2 H2) (hd : ∀ σ H, Pv n σ H → D.nx σ H) :
    ∃ W : Nat → Nat → St → Hp → Prop, (∃ m, W 0 m σ H) ∧ ∀ i m σ H, W i m σ H →
      ((Itr lo n).stop i H ∧ D.nx σ H) ∨ ((Itr lo n).go i H ∧ ∃ N : St → Hp → Prop, (∀ σ' H', N σ' H' → ∃ m', m' < m ∧ W (i + 1) m' σ' H') ∧ ∀ x H', (Itr lo n).yld i H x H' → g x σ H' fun σ2 H2 => tb { D with nx := N, ct := N, bk := D.nx } σ2 H2) := by
  refine ⟨fun i m σ H => m = n - i ∧ i ≤ n ∧ Pv i σ H, ⟨n, by simp, Nat.zero_le _, h0⟩, ?_⟩
  rintro i m σ H ⟨rfl, hi, p⟩
  by_cases hlt : i < n
  · refine .inr ⟨hlt, Pv (i + 1), fun σ' H' p' => ⟨n - (i + 1), by omega, rfl, hlt, p'⟩, fun x H' y => ?_⟩
    obtain ⟨e, y⟩ := y
    subst e y
    exact hs i σ _ hlt p
  · have e : i = n := by omega
    subst e
    exact .inl ⟨Nat.le_refl _, hd σ H p⟩
end L2
namespace L2
open PySem PySem.Spec PyProof.Rows
abbrev R2 := V → V → Hp → VK → Prop
def OpR (X : Cx) (f : Value → Value → Sem Value) (r : R2) : Prop :=
  ∀ (pins : List (Addr × Obj)) (s : Shared) (σ : St) (H : Hp) (x y : V) (v u : Value) (Q : VK), Inv X pins σ H s → RelV x v → RelV y u → r x y H Q →
    wpAny (model X.prog X.w) X.A (f v u) (EP X pins σ Q) X.xe s
def UnR (X : Cx) (f : Value → Sem Value) (r : V → Hp → VK → Prop) : Prop :=
  ∀ (pins : List (Addr × Obj)) (s : Shared) (σ : St) (H : Hp) (x : V) (v : Value) (Q : VK), Inv X pins σ H s → RelV x v → r x H Q →
    wpAny (model X.prog X.w) X.A (f v) (EP X pins σ Q) X.xe s
def CallR (X : Cx) (f : Value) (r : List V → Hp → VK → Prop) : Prop :=
  ∀ (pins : List (Addr × Obj)) (s : Shared) (σ : St) (H : Hp) (xs : List V) (us : List Value) (Q : VK), Inv X pins σ H s → Vals xs us → r xs H Q →
    wpAny (model X.prog X.w) X.A (call f us) (EP X pins σ Q) X.xe s
def tOp (r : R2) (ta tb : TE) : TE := fun σ H Q => ta σ H fun x H1 => tb σ H1 fun y H2 => r x y H2 Q
def tUn (r : V → Hp → VK → Prop) (ta : TE) : TE := fun σ H Q => ta σ H fun x H1 => r x H1 Q
def rI (C : Int → Int → Prop) (g : Int → Int → V) : R2 := fun x y H Q => ∃ i j, x = .int i ∧ y = .int j ∧ C i j ∧ Q (g i j) H
def rI0 (g : Int → Int → V) : R2 := fun x y H Q => ∃ i j, x = .int i ∧ y = .int j ∧ Q (g i j) H
def rU (g : Int → V) : V → Hp → VK → Prop := fun x H Q => ∃ i, x = .int i ∧ Q (g i) H
section
variable {X : Cx} {a b c : Expr} {ta tb tc : TE} {pos : Pos}
theorem binT (ha : PE X a ta) (hb : PE X b tb) {pins : List (Addr × Obj)} {s : Shared} {σ : St} {H : Hp} {R : V → V → Hp → Prop} (I : Inv X pins σ H s)
    (h : ta σ H fun x H1 => tb σ H1 fun y H2 => R x y H2) {Q : Value → Shared → Prop} {f : Value → Value → Sem Value}
    (hf : ∀ v u s2 x y H2, Inv X pins σ H2 s2 → RelV x v → RelV y u → R x y H2 → wpAny (model X.prog X.w) X.A (f v u) Q X.xe s2) :
    wpAny (model X.prog X.w) X.A (eval a X.env) (fun v s₁ => wpAny (model X.prog X.w) X.A (eval b X.env) (fun u s₂ => wpAny (model X.prog X.w) X.A (f v u) Q X.xe s₂) X.xe s₁) X.xe s := by
  refine thn (ha pins s σ H _ I h) fun v s1 ⟨x, H1, I1, r1, q1⟩ => ?_
  refine thn (hb pins s1 σ H1 _ I1 q1) fun u s2 ⟨y, H2, I2, r2, q2⟩ => ?_
  exact hf v u s2 x y H2 I2 r1 r2 q2
theorem pe_op {op : Operator} {r : R2} (ho : OpR X (binaryOp op) r) (ha : PE X a ta) (hb : PE X b tb) : PE X (.BinOp a op b pos) (tOp r ta tb) := by
  intro pins s σ H Q I h
  exact wpAny_BinOp (binT ha hb I h fun v u s2 x y H2 I2 rx ry q => ho pins s2 σ H2 x y v u Q I2 rx ry q)
theorem pe_un {op : UnaryOp} {r : V → Hp → VK → Prop} (ho : UnR X (unaryOp op) r) (ha : PE X a ta) : PE X (.UnaryOp op a pos) (tUn r ta) := by
  intro pins s σ H Q I h
  exact UnaryOp_ (thn (ha pins s σ H _ I h) fun v s1 ⟨x, H1, I1, r1, q1⟩ => ho pins s1 σ H1 x v Q I1 r1 q1)
theorem opI {f : Value → Value → Sem Value} {C : Int → Int → Prop} {g : Int → Int → Int}
    (rule : ∀ (i j : Int) (t u : Tok) (s : Shared) (Q : Value → Shared → Prop) (E : Value → Shared → Prop), C i j → Q (.int (g i j) s.toks) { s with toks := s.toks + 1 } → wpAny (model X.prog X.w) X.A (f (.int i t) (.int j u)) Q E s) :
    OpR X f (rI C fun i j => .int (g i j)) := by
  intro pins s σ H x y v u Q I rx ry h
  obtain ⟨i, j, rfl, rfl, hc, q⟩ := h
  obtain ⟨t, rfl⟩ := rx
  obtain ⟨t', rfl⟩ := ry
  exact rule i j t t' s _ _ hc ⟨.int (g i j), H, I.tok _, ⟨_, rfl⟩, q⟩
theorem opI0 {f : Value → Value → Sem Value} {g : Int → Int → Int}
    (rule : ∀ (i j : Int) (t u : Tok) (s : Shared) (Q : Value → Shared → Prop) (E : Value → Shared → Prop), Q (.int (g i j) s.toks) { s with toks := s.toks + 1 } → wpAny (model X.prog X.w) X.A (f (.int i t) (.int j u)) Q E s) :
    OpR X f (rI0 fun i j => .int (g i j)) := by
  intro pins s σ H x y v u Q I rx ry h
  obtain ⟨i, j, rfl, rfl, q⟩ := h
  obtain ⟨t, rfl⟩ := rx
  obtain ⟨t', rfl⟩ := ry
  exact rule i j t t' s _ _ ⟨.int (g i j), H, I.tok _, ⟨_, rfl⟩, q⟩
theorem opB0 {f : Value → Value → Sem Value} {g : Int → Int → Bool}
    (rule : ∀ (i j : Int) (t u : Tok) (s : Shared) (Q : Value → Shared → Prop) (E : Value → Shared → Prop), Q (.bool (g i j)) s → wpAny (model X.prog X.w) X.A (f (.int i t) (.int j u)) Q E s) :
    OpR X f (rI0 fun i j => .bl (g i j)) := by
  intro pins s σ H x y v u Q I rx ry h
  obtain ⟨i, j, rfl, rfl, q⟩ := h
  obtain ⟨t, rfl⟩ := rx
  obtain ⟨t', rfl⟩ := ry
  exact rule i j t t' s _ _ ⟨.bl (g i j), H, I, rfl, q⟩
def CDiv (i j : Int) : Prop := 0 < j ∧ j < 1073741824
def CPow (i j : Int) : Prop := 0 ≤ j ∧ j ≤ 1000000 ∧ i.natAbs < 2 ^ 64
def CMul (i j : Int) : Prop := (-(2 ^ 64) < i ∧ i < 2 ^ 64) ∨ (-(2 ^ 64) < j ∧ j < 2 ^ 64)
theorem CMul.ok {i j : Int} (h : CMul i j) : IntMulOk i j := by
  rcases h with ⟨h1, h2⟩ | ⟨h1, h2⟩
  · exact .of_left (intBits_le_64 h1 h2)
  · exact .of_right (intBits_le_64 h1 h2)
theorem op_add : OpR X (binaryOp .Add) (rI0 fun i j => .int (i + j)) := opI0 fun _ _ _ _ _ _ _ q => add_int q
theorem op_sub : OpR X (binaryOp .Sub) (rI0 fun i j => .int (i - j)) := opI0 fun _ _ _ _ _ _ _ q => sub_int q
theorem op_mul : OpR X (binaryOp .Mult) (rI CMul fun i j => .int (i * j)) := opI fun _ _ _ _ _ _ _ hc q => mul_int q hc.ok
theorem op_fdiv : OpR X (binaryOp .FloorDiv) (rI CDiv fun i j => .int (i / j)) := opI fun i j _ _ _ _ _ hc q => by
  have h1 : (0 : Int) < j := hc.1
  have h2 : j < 1073741824 := hc.2
  exact floordiv_int (by omega) (by rw [Int.fdiv_eq_ediv_of_nonneg i (by omega)]; exact q) (.inl (PyProof.noPylong_small (by omega)))
theorem op_mod : OpR X (binaryOp .Mod) (rI (fun _ j => 0 < j) fun i j => .int (i % j)) := opI fun i j _ _ _ _ _ hc q => by
  have h1 : (0 : Int) < j := hc
  exact mod_int' (by omega) (by rw [Int.fmod_eq_emod_of_nonneg i (by omega)]; exact q)
theorem op_pow : OpR X (binaryOp .Pow) (rI CPow fun i j => .int (i ^ j.toNat)) := opI fun _ _ _ _ _ _ _ hc q => pow_int_small hc.1 hc.2.1 hc.2.2 q
theorem unI {f : Value → Sem Value} {g : Int → Int}
    (rule : ∀ (i : Int) (t : Tok) (s : Shared) (Q : Value → Shared → Prop) (E : Value → Shared → Prop), Q (.int (g i) s.toks) { s with toks := s.toks + 1 } → wpAny (model X.prog X.w) X.A (f (.int i t)) Q E s) :
    UnR X f (rU fun i => .int (g i)) := by
  intro pins s σ H x v Q I rx h
  obtain ⟨i, rfl, q⟩ := h
  obtain ⟨t, rfl⟩ := rx
  exact rule i t s _ _ ⟨.int (g i), H, I.tok _, ⟨_, rfl⟩, q⟩
theorem un_neg : UnR X (unaryOp .USub) (rU fun i => .int (-i)) := unI fun _ _ _ _ _ q => neg_int q
end
def scal : V → V → Bool
  | .non, .non => true | .non, .int _ => true | .int _, .non => true | .non, .bl _ => true | .bl _, .non => true | .non, .str _ => true | .str _, .non => true
  | .int _, .int _ => true | .bl _, .bl _ => true | .str _, .str _ => true | .byt _, .byt _ => true
  | .int _, .str _ => true | .str _, .int _ => true | .bl _, .str _ => true | .str _, .bl _ => true
  | _, _ => false
def rEq : R2 := fun x y H Q => scal x y = true ∧ Q (.bl (decide (x = y))) H
theorem dec_int {i j : Int} : decide (V.int i = V.int j) = (i == j) := by
  rw [Bool.eq_iff_iff]
  simp
theorem dec_bl {i j : Bool} : decide (V.bl i = V.bl j) = (i == j) := by
  rw [Bool.eq_iff_iff]
  simp
theorem dec_str {i j : Str} : decide (V.str i = V.str j) = (i == j) := by
  rw [Bool.eq_iff_iff]
  simp
theorem dec_byt {i j : Array UInt8} : decide (V.byt i = V.byt j) = (i.toList == j.toList) := by
  rw [Bool.eq_iff_iff]
  cases i
  cases j
  simp
section
variable {X : Cx} {a b c : Expr} {ta tb tc : TE} {pos : Pos}
theorem fin_bl {pins : List (Addr × Obj)} {σ : St} {H : Hp} {s : Shared} {Q : VK} {k k' : Bool} (I : Inv X pins σ H s) (q : Q (.bl k) H) (e : k = k') : EP X pins σ Q (.bool k') s := by
  subst e
  exact ⟨.bl k, H, I, rfl, q⟩
theorem op_eq : OpR X (compareOp .Eq) rEq := by
  intro pins s σ H x y v u Q I rx ry h
  obtain ⟨hs, q⟩ := h
  cases x with
  | non =>
    cases rx
    cases y with
    | non => cases ry; exact PySem.EqNone.eq_none_none (fin_bl I q (by simp))
    | bl j => cases ry; exact PySem.EqNone.eq_none_bool (fin_bl I q (by simp))
    | int j => obtain ⟨t', rfl⟩ := ry; exact PySem.EqNone.eq_none_int (fin_bl I q (by simp))
    | str j => obtain ⟨t', rfl⟩ := ry; exact PySem.EqNone.eq_none_str (fin_bl I q (by simp))
    | _ => exact absurd (show false = true from hs) Bool.false_ne_true
  | bl i =>
    cases rx
    cases y with
    | non => cases ry; exact PySem.EqNone.eq_bool_none (fin_bl I q (by simp))
    | bl j => cases ry; exact eq_bool (fin_bl I q dec_bl)
    | str j => obtain ⟨t', rfl⟩ := ry; exact PySem.EqMixed.eq_bool_str (fin_bl I q (by simp))
    | _ => exact absurd (show false = true from hs) Bool.false_ne_true
  | int i =>
    obtain ⟨t, rfl⟩ := rx
    cases y with
    | non => cases ry; exact PySem.EqNone.eq_int_none (fin_bl I q (by simp))
    | int j => obtain ⟨t', rfl⟩ := ry; exact eq_int (fin_bl I q dec_int)
    | str j => obtain ⟨t', rfl⟩ := ry; exact PySem.EqMixed.eq_int_str (fin_bl I q (by simp))
    | _ => exact absurd (show false = true from hs) Bool.false_ne_true
  | str i =>
    obtain ⟨t, rfl⟩ := rx
    cases y with
    | non => cases ry; exact PySem.EqNone.eq_str_none (fin_bl I q (by simp))
    | bl j => cases ry; exact PySem.EqMixed.eq_str_bool (fin_bl I q (by simp))
    | int j => obtain ⟨t', rfl⟩ := ry; exact PySem.EqMixed.eq_str_int (fin_bl I q (by simp))
    | str j => obtain ⟨t', rfl⟩ := ry; exact eq_str (fin_bl I q dec_str)
    | _ => exact absurd (show false = true from hs) Bool.false_ne_true
  | byt i =>
    obtain ⟨t, rfl⟩ := rx
    cases y with
    | byt j => obtain ⟨t', rfl⟩ := ry; exact PySem.W.eq_bytes (fin_bl I q dec_byt)
    | _ => exact absurd (show false = true from hs) Bool.false_ne_true
  | _ => cases y <;> exact absurd (show false = true from hs) Bool.false_ne_true
theorem op_lt : OpR X (compareOp .Lt) (rI0 fun i j => .bl (decide (i < j))) := opB0 fun _ _ _ _ _ _ _ q => lt_int q
theorem op_gt : OpR X (compareOp .Gt) (rI0 fun i j => .bl (decide (j < i))) := opB0 fun _ _ _ _ _ _ _ q => gt_int q
theorem op_ge : OpR X (compareOp .GtE) (rI0 fun i j => .bl (decide (j ≤ i))) := opB0 fun _ _ _ _ _ _ _ q => ge_int q
theorem nomark (b : Expr) {op : CmpOp} (h : op ≠ .In := by decide) (h2 : op ≠ .NotIn := by decide) : behindInMarks op b = false := by
  have e1 : (op == CmpOp.In) = false := by cases op <;> first | rfl | exact absurd rfl h
  have e2 : (op == CmpOp.NotIn) = false := by cases op <;> first | rfl | exact absurd rfl h2
  cases b <;> simp [behindInMarks, e1, e2]
theorem pe_cmpR {op : CmpOp} {r : R2} (ho : OpR X (compareOp op) r) (ha : PE X a ta) (hb : PE X b tb) (hm : behindInMarks op b = false) : PE X (.Compare a [op] [b] pos) (tOp r ta tb) := by
  intro pins s σ H Q I h
  exact wpAny_Compare1 (binT ha hb I h fun v u s2 x y H2 I2 rx ry q => ho pins s2 σ H2 x y v u Q I2 rx ry q) hm
def tTest (t : TE) : TT := fun σ H Q => t σ H fun x H' => ∃ k, x = .bl k ∧ Q k H'
theorem pt_cmpR {op : CmpOp} {r : R2} (ho : OpR X (compareOp op) r) (ha : PE X a ta) (hb : PE X b tb) (hm : behindInMarks op b = false) : PT X (.Compare a [op] [b] pos) (tTest (tOp r ta tb)) := by
  intro pins s σ H Q I h
  refine wpAny_isTrue_Compare1 (thn (ha pins s σ H _ I h) fun v s1 ⟨x, H1, I1, r1, q1⟩ => thn (hb pins s1 σ H1 _ I1 q1) fun u s2 ⟨y, H2, I2, r2, q2⟩ =>
    thn (ho pins s2 σ H2 x y v u _ I2 r1 r2 q2) fun c s3 ⟨z, H3, I3, r3, k, e, q3⟩ => ?_) hm
  subst e
  cases r3
  exact wpAny_truthy_bool ⟨H3, I3, q3⟩
theorem line63 : (sizeLine : Nat) < 2 ^ 63 := by rw [sizeLine_eq]; decide
theorem vals1 {x : V} {us : List Value} (r : Vals [x] us) : ∃ u, us = [u] ∧ RelV x u := by
  cases r with
  | cons r1 r2 => cases r2; exact ⟨_, rfl, r1⟩
theorem vals2 {x y : V} {us : List Value} (r : Vals [x, y] us) : ∃ u w', us = [u, w'] ∧ RelV x u ∧ RelV y w' := by
  cases r with
  | cons r1 r2 =>
    cases r2 with
    | cons r3 r4 => cases r4; exact ⟨_, _, rfl, r1, r3⟩
theorem call_min2 (hc : X.calm = true) : CallR X (.builtin "min") (fun xs H Q => ∃ i j, xs = [.int i, .int j] ∧ Q (.int (if j < i then j else i)) H) := by
  intro pins s σ H xs us Q I r h
  obtain ⟨i, j, rfl, q⟩ := h
  obtain ⟨u, w', rfl, ⟨t, rfl⟩, ⟨t', rfl⟩⟩ := vals2 r
  refine min_two_ints (I.ok.hd hc) fun h' tk k => ⟨_, H, I.kept k, ?_, q⟩
  by_cases hj : j < i
  · rw [if_pos hj, if_pos hj]; exact ⟨_, rfl⟩
  · rw [if_neg hj, if_neg hj]; exact ⟨_, rfl⟩
end
end L2
namespace L2
open PySem PySem.Spec PyProof.Rows
structure ObjM (h : Heap) (x dx C : Addr) (mA : Str → Option Value) : Prop where
  obj : h.get? x = some (PySem.W.instObj C dx)
  ns : h.Ns1 dx mA
  ne : dx ≠ x
theorem lookIn_ns {h : Heap} {dx : Addr} {mA : Str → Option Value} (n : h.Ns1 dx mA) : ∃ od, h.get? dx = some od ∧ ∀ name, PySem.W.lookIn name od = some (mA name) := by
  obtain ⟨o, es, ep, ho, hd, hk, _, hm⟩ := n
  refine ⟨o, ho, fun name => ?_⟩
  have e := hm name
  unfold nsFind findBy at e
  rw [← Array.find?_toList] at e
  unfold PySem.W.lookIn
  rw [hd]
  dsimp only
  split
  · rename_i y q
    rw [q] at e
    exact congrArg some e
  · rename_i q
    rw [q] at e
    have a : es.toList.any (·.refKey) = false := by
      rw [List.any_eq_false]
      intro y hy
      obtain ⟨z, t, hkey⟩ := hk y (Array.mem_toList_iff.mp hy)
      simp [DictEntry.refKey, hkey]
    have a' : ¬ es.toList.any (·.refKey) = true := by rw [a]; exact Bool.false_ne_true
    rw [if_neg a']
    exact congrArg some e
theorem ObjM.look {h : Heap} {x dx C : Addr} {mA : Str → Option Value} (I : ObjM h x dx C mA) : ∃ od, PySem.W.InstAt h x (PySem.W.instObj C dx) C (some od) ∧ ∀ name, PySem.W.lookIn name od = some (mA name) :=
  let ⟨od, ho, hl⟩ := lookIn_ns I.ns
  ⟨od, ⟨I.obj, rfl, rfl, ho⟩, hl⟩
section
variable {prog : Program} {w : World} {A : Around} {E : Value → Shared → Prop} {s : Shared} {K : PySem.W.Frag} {x dx C f : Addr} {mA : Str → Option Value} {name : Str} {v : Value}
end
section
variable {P : Program} {w : World} {H H' : Hp} {h h' : Heap} {a C dx : Addr} {fs fs' : List (Str × V)}
theorem ins_get (hok : HOk P w H h) (e : H a = some (.ins C dx fs)) : ∃ mA, ObjM h a dx C mA ∧ (∀ f, RelO (fs.lookup f) (mA f)) ∧ PySem.Within mA (fs.map (·.1)) ∧ fs.length ≤ 1000 ∧ H dx = some (.own a) := by
  obtain ⟨d, z, ne, ob, mA, n, r, q⟩ := (show ObjOk P w H h a (.ins C dx fs) from hok a _ e)
  exact ⟨mA, ⟨ob, n, ne⟩, r, q, z, d⟩
end
structure Cls (K : PySem.W.Frag) (C : Addr) : Prop where
  pg : PySem.W.plainGet K C Str.empty = true
  hd : PySem.W.hasDictIn K C = true
  po : PySem.W.plainOver K C = true
  sa : PySem.W.findIn K (.ref C) "__setattr__" = some (some (.builtin "object.__setattr__"))
theorem Cls.get {K : PySem.W.Frag} {C : Addr} (c : Cls K C) (f : Str) : PySem.W.plainGet K C f = true := c.pg
section
variable {X : Cx} {pins : List (Addr × Obj)} {σ : St} {H : Hp} {s : Shared} {a C dx : Addr} {fs : List (Str × V)} {f : Str} {v : V} {A : Around} {E : Value → Shared → Prop}
end
section
variable {X : Cx} {o e value : Expr} {f : Str} {pos pos' tpos : Pos} {ta tv : TE}
end
section
variable {X : Cx} {pins : List (Addr × Obj)} {σ : St} {H : Hp} {s : Shared} {A : Around} {E : Value → Shared → Prop} {Q : Value → Shared → Prop} {c : Value} {b : Bool}
inductive TyOf (K : PySem.W.Frag) (H : Hp) : V → Value → Prop where
  | non : TyOf K H .non (.type "NoneType")
  | bl (x : Bool) : TyOf K H (.bl x) (.type "bool")
  | int (i : Int) : TyOf K H (.int i) (.type "int")
  | str (x : Str) : TyOf K H (.str x) (.type "str")
  | flt (x : UInt64) : TyOf K H (.flt x) (.type "float")
  | lst {a : Addr} {xs : List V} (e : H a = some (.lst xs)) : TyOf K H (.ref a) (.type "list")
  | frz {a : Addr} {o : Obj} {xs : List V} (e : H a = some (.frz o (.lst xs))) : TyOf K H (.ref a) (.type "list")
  | tup {a : Addr} {xs : List V} (e : H a = some (.tup xs)) : TyOf K H (.ref a) (.type "tuple")
  | dK {a : Addr} {kvs : List (Key × V)} (e : H a = some (.dK kvs)) : TyOf K H (.ref a) (.type "dict")
  | dT {a : Addr} {kvs : List (List Key × V)} (e : H a = some (.dT kvs)) : TyOf K H (.ref a) (.type "dict")
  | dG {a : Addr} {kvs : List (KD × V × V)} (e : H a = some (.dG kvs)) : TyOf K H (.ref a) (.type "dict")
  | ins {a C dx : Addr} {fs : List (Str × V)} (e : H a = some (.ins C dx fs)) (cl : Cls K C) (ha : PySem.W.findIn K (.ref C) "__class__" = some (some (.builtin "object.__class__")))
      (hn : PySem.W.specialIn K (.builtin "object.__class__") "__get__" = some (some (.builtin "getset_descriptor.__get__"))) (htk : PySem.W.takesIn K (.builtin "object.__class__") = some true)
      (hm : PySem.W.mroIn K C (.type "object") = some true) : TyOf K H (.ref a) (.ref C)
theorem isinst_ok {x : V} {u t : Value} (I : Inv X pins σ H s) (rx : RelV x u) (ty : TyOf X.K H x t) (e : PySem.W.kitOne X.K t c = some b) (h : ∀ tk, Q (.bool b) { s with toks := tk }) :
    wpAny (model X.prog X.w) A (call (.builtin "isinstance") [u, c]) Q E s := by
  cases ty with
  | non => cases (show u = Value.none from rx); exact PySem.W.kia_one PySem.W.kitx_none I.kIn True.intro e (fun z => nomatch z) h
  | bl y => cases (show u = Value.bool y from rx); exact PySem.W.kia_one PySem.W.kitx_bool I.kIn True.intro e (fun z => nomatch z) h
  | int i => obtain ⟨t, q⟩ := (show ∃ t, u = Value.int i t from rx); cases q; exact PySem.W.kia_one PySem.W.kitx_int I.kIn True.intro e (fun z => nomatch z) h
  | str y => obtain ⟨t, q⟩ := (show ∃ t, u = Value.str y t from rx); cases q; exact PySem.W.kia_one PySem.W.kitx_str I.kIn True.intro e (fun z => nomatch z) h
  | flt y => obtain ⟨t, q⟩ := (show ∃ t, u = Value.float y t from rx); cases q; exact PySem.W.kia_one PySem.W.kitx_float I.kIn True.intro e (fun z => nomatch z) h
  | @lst a xs ea =>
    cases (show u = Value.ref a from rx)
    obtain ⟨_, _, n, _, h1⟩ := (show ObjOk X.prog X.w H s.heap a (.lst xs) from I.hok a _ ea)
    exact PySem.W.kia_one PySem.W.kitx_list I.kIn ⟨_, h1, rfl⟩ e (fun z => nomatch z) h
  | @frz a ob xs ea =>
    cases (show u = Value.ref a from rx)
    obtain ⟨_, _, _, n, _, h1⟩ := (show ObjOk X.prog X.w H s.heap a (.frz ob (.lst xs)) from I.hok a _ ea)
    exact PySem.W.kia_one PySem.W.kitx_list I.kIn ⟨_, h1, rfl⟩ e (fun z => nomatch z) h
  | @tup a xs ea =>
    cases (show u = Value.ref a from rx)
    obtain ⟨_, _, _, p⟩ := (show ObjOk X.prog X.w H s.heap a (.tup xs) from I.hok a _ ea)
    obtain ⟨o, h1, h2, _⟩ := p
    exact PySem.W.kia_one PySem.W.kitx_tuple I.kIn ⟨o, h1, h2⟩ e (fun z => nomatch z) h
  | @dK a kvs ea =>
    cases (show u = Value.ref a from rx)
    obtain ⟨_, _, vs, _, p⟩ := (show ObjOk X.prog X.w H s.heap a (.dK kvs) from I.hok a _ ea)
    obtain ⟨o, es, ep, h1, h2, _⟩ := p
    exact PySem.W.kia_one PySem.W.kitx_dict I.kIn ⟨o, h1, h2.1⟩ e (fun z => nomatch z) h
  | @dT a kvs ea =>
    cases (show u = Value.ref a from rx)
    obtain ⟨_, _, xs, _, o, es, ep, h1, h2, _⟩ := (show ObjOk X.prog X.w H s.heap a (.dT kvs) from I.hok a _ ea)
    exact PySem.W.kia_one PySem.W.kitx_dict I.kIn ⟨o, h1, h2.1⟩ e (fun z => nomatch z) h
  | @dG a kvs ea =>
    cases (show u = Value.ref a from rx)
    obtain ⟨_, _, xs, _, o, es, ep, h1, h2, _⟩ := (show ObjOk X.prog X.w H s.heap a (.dG kvs) from I.hok a _ ea)
    exact PySem.W.kia_one PySem.W.kitx_dict I.kIn ⟨o, h1, h2.1⟩ e (fun z => nomatch z) h
  | @ins a C dx fs ea cl ha hn htk hm =>
    cases (show u = Value.ref a from rx)
    obtain ⟨mA, O, _⟩ := ins_get I.hok ea
    obtain ⟨od, J, _⟩ := O.look
    exact PySem.W.kia_one (PySem.W.kitx_own (cl.get _) cl.hd ha hn htk hm) I.kIn J e (fun z => nomatch z) h
end
end L2
namespace L2
open PySem PySem.Spec PyProof.Rows
structure Room (k : Nat) (A : Around) : Prop where
  hd : A.handled = none
  dp : A.depth + 3 * k + 5 < recursionLimit
  un : A.units + 16 * k + 200 < cLine
theorem Room.mono {j k : Nat} {A : Around} (r : Room k A) (h : j ≤ k) : Room j A := ⟨r.hd, by have := r.dp; omega, by have := r.un; omega⟩
theorem Room.deeper {k : Nat} {A : Around} (r : Room (k + 1) A) (env : Env) : Room k (A.deeper env) :=
  ⟨r.hd, by have := r.dp; show A.depth + 1 + 3 * k + 5 < _; omega, by have := r.un; show A.units + 3 + 16 * k + 200 < _; omega⟩
theorem Room.depth {k : Nat} {A : Around} (r : Room k A) : A.depth < recursionLimit := by have := r.dp; omega
theorem Room.units {k : Nat} {A : Around} (r : Room k A) : A.units + 64 < cLine := by have := r.un; omega
theorem Room.units0 {k : Nat} {A : Around} (r : Room k A) : A.units < cLine := by have := r.un; omega
def tNil : TA := fun _ H Q => Q [] H
def tCons (ta : TE) (tr : TA) : TA := fun σ H Q => ta σ H fun x H1 => tr σ H1 fun xs H2 => Q (x :: xs) H2
section
variable {X : Cx} {e : Expr} {es : List Expr} {te : TE} {t : TA} {pos : Pos}
theorem pa_nil : PA X [] tNil := fun _ _ _ _ H Q I h => Calls.spliced_nil ⟨[], H, I, .nil, h⟩
theorem pa_cons (ha : PE X e te) (hr : PA X es t) (hs : starEach (e :: es) X.env = (false, eval e X.env) :: starEach es X.env := by rfl) : PA X (e :: es) (tCons te t) := by
  intro pos pins s σ H Q I h
  rw [hs]
  show wpAny _ _ (spliced ((false, eval e X.env) :: backTo pos (starEach es X.env))) _ _ s
  refine Calls.spliced_cons (thn (ha pins s σ H _ I h) fun u s1 ⟨x, H1, I1, r1, q1⟩ => ?_)
  exact thn (hr pos pins s1 σ H1 _ I1 q1) fun us s2 ⟨xs, H2, I2, r2, q2⟩ => ⟨x :: xs, H2, I2, .cons r1 r2, q2⟩
end
abbrev Sp := List V → Hp → VK → XK → Prop
abbrev CXT := List Env → Hp → Shared → XK → Value → Shared → Prop
structure Env0 (P : Program) (w : World) (K : PySem.W.Frag) (mg : Str → Option Value) (base : Heap) (A : Around) (outer : List Env) (s : Shared) (H : Hp) : Prop where
  frames : A.frames = some outer
  mod : Mod K mg base
  bs : ∀ b o, base.get? b = some o → s.heap.get? b = some o ∧ H b = none
  bsz : base.objs.size ≤ s.heap.objs.size
  funs : s.heap.FunFrames base outer
  frf : ∀ b ∈ frs outer, H b = none
  hok : HOk P w H s.heap
  bare : AllBare s.gens
def CE (outer : List Env) (P : Program) (w : World) (H : Hp) (s : Shared) (Q : VK) (u : Value) (s' : Shared) : Prop :=
  ∃ v H', s'.os = s.os ∧ AllBare s'.gens ∧ Un (frs outer) [] H H' s.heap s'.heap ∧ HOk P w H' s'.heap ∧ RelV v u ∧ Q v H'
def CR (CX : CXT) (outer : List Env) (P : Program) (w : World) (H : Hp) (s : Shared) (Q : VK) (E : XK) (r : Result) (s' : Shared) : Prop :=
  match r with
  | .ok (.ret u) => CE outer P w H s Q u s'
  | .ok _ => False
  | .error e => CX outer H s E e s'
structure FnOk (P : Program) (w : World) (K : PySem.W.Frag) (mg : Str → Option Value) (base : Heap) (CX : CXT) (k : Nat) (f : Addr) (fd : FuncData) (ps : List Str) (sp : Sp) : Prop where
  len : ∀ vs H Q E, sp vs H Q E → vs.length = ps.length
  run : ∀ (A : Around) (outer : List Env) (s : Shared) (H : Hp) (args : Args) (us : List Value) (vs : List V) (Q : VK) (E : XK), Room k A → Env0 P w K mg base A outer s H → BindsTo s fd args (ps.zip us) → Vals vs us → sp vs H Q E →
    codeAny (model P w) A (.call (.ref f) args) (CR CX outer P w H s Q E) s
section
variable {X : Cx} {pins : List (Addr × Obj)} {σ : St} {H : Hp} {s s' : Shared}
theorem Inv.env0 (I : Inv X pins σ H s) : Env0 X.prog X.w X.K X.mg X.base X.A X.stack s H :=
  ⟨I.ok.frames, I.ok.mod, I.bs, Nat.le_trans I.ok.bsz I.sz, I.stack, I.stkFree, I.hok, I.bare⟩
theorem Inv.after {Q : VK} {u : Value} (I : Inv X pins σ H s) (h : CE X.stack X.prog X.w H s Q u s') : EP X pins σ Q u s' := by
  obtain ⟨v, H', os, bare, un, hok, r, q⟩ := h
  obtain ⟨hh, g, d, t, os'⟩ := s'
  obtain rfl : os' = s.os := os
  exact ⟨v, H', I.call (h' := hh) (g' := g) (d' := d) (t' := t) (ch := []) un hok bare (fun b z => absurd z (by simp)), r, q⟩
end
def tCall (sp : Sp) (dvs : List V) (E : XK) (t : TA) : TE := fun σ H Q => t σ H fun vs H1 => sp (vs ++ dvs) H1 Q E
def Binds (K : PySem.W.Frag) (fd : FuncData) (ps : List Str) (ds : List Value) : Prop :=
  ∀ (s : Shared) (us : List Value), K.In s.heap → (us ++ ds).length = ps.length → BindsTo s fd ⟨us, []⟩ (ps.zip (us ++ ds))
theorem Binds.all {K : PySem.W.Frag} {fd : FuncData} {ps : List Str} (h : ∀ us : List Value, us.length = ps.length → bindArgs fd ⟨us, []⟩ = pure (ps.zip us)) : Binds K fd ps [] := fun s us _ hl => by
  rw [List.append_nil] at hl ⊢
  exact .of_eq (h us hl)
def Passes (CX : CXT) (X : Cx) (E : XK) : Prop := ∀ (pins : List (Addr × Obj)) (σ : St) (H : Hp) (s : Shared) (e : Value) (s' : Shared), Inv X pins σ H s → CX X.stack H s E e s' → X.xe e s'
section
variable {X : Cx} {CX : CXT} {k : Nat} {f C : Addr} {fd : FuncData} {ps : List Str} {sp : Sp} {dvs : List V} {ds : List Value} {E : XK} {x m : Str} {p pos apos : Pos} {e o : Expr} {es : List Expr} {ta : TE} {t : TA}
theorem run_fn {pins : List (Addr × Obj)} {σ : St} {H : Hp} {s : Shared} {Q : VK} {us : List Value} {vs : List V} (F : FnOk X.prog X.w X.K X.mg X.base CX k f fd ps sp) (hr : Room k X.A) (hb : Binds X.K fd ps ds) (hd : Vals dvs ds) (hx : Passes CX X E)
    (I : Inv X pins σ H s) (r : Vals vs us) (h : sp (vs ++ dvs) H Q E) : wpAny (model X.prog X.w) X.A (call (.ref f) us) (EP X pins σ Q) X.xe s := by
  have r2 : Vals (vs ++ dvs) (us ++ ds) := r.append hd
  have hl : (us ++ ds).length = ps.length := by rw [← r2.length]; exact F.len _ _ _ _ h
  refine wpAny_call (codeAny_mono (F.run X.A X.stack s H ⟨us, []⟩ (us ++ ds) (vs ++ dvs) Q E hr I.env0 (hb s us I.kIn hl) r2 h) fun r s' hq => ?_)
  cases r with
  | error e => exact hx pins σ H s e s' I hq
  | ok fl =>
    cases fl with
    | ret u => exact I.after hq
    | next => exact False.elim hq
    | brk => exact False.elim hq
    | cont => exact False.elim hq
theorem pe_call (F : FnOk X.prog X.w X.K X.mg X.base CX k f fd ps sp) (hr : Room k X.A) (hg : Gl X x) (hm : X.mg x = some (.ref f)) (hk : PySem.W.keepIn X.K (.ref f) = true) (hb : Binds X.K fd ps ds) (hd : Vals dvs ds) (hx : Passes CX X E)
    (ha : PA X (e :: es) t) (hdb : (x == ("__debug__" : Str)) = false := by decide) (he : starEach (e :: es) X.env = (false, eval e X.env) :: starEach es X.env := by rfl) (hpl : (backTo pos (starEach es X.env)).any (·.1) = false := by rfl) :
    PE X (.Call (.Name x p) (e :: es) [] pos) (tCall sp dvs E t) := by
  intro pins s σ H Q I h
  refine wpAny_Call_Name_kw (ld_glob I hg hm ?_ hdb)
  refine PySem.W.callWith_K (h₀ := X.base) I.ok.mod.kin hk (thn (ha pos pins s σ H _ I h) fun us s1 ⟨vs, H1, I1, r, q⟩ => ⟨I1.kIn, ?_⟩) he hpl
  exact run_fn F hr hb hd hx I1 r q
end
section
variable {X : Cx} {CX : CXT} {k : Nat} {f C : Addr} {fd : FuncData} {ps ks : List Str} {sp : Sp} {E : XK} {x m : Str} {p pos apos kpos : Pos} {e o : Expr} {es : List Expr} {kws : List Keyword} {te ta : TE} {t tk : TA} {nm : Option Str}
variable {g : List Value → List Value → List Value} {gV : List V → List V → List V}
end
structure FnScope (N P : List Str) (sc : Scope) : Prop where
  kind : sc.kind = .function
  co : sc.isCoroutine = false
  gen : sc.isGenerator = false
  nd : N.Nodup
  pre : N.take P.length = P
  par : ∀ x ∈ P, sc.names.lookup x = some .local ∨ sc.names.lookup x = some .cell
  nofree : ∀ y ∈ sc.names, y.2 ≠ .free
theorem bindL_out {kindOf : Str → Option NameKind} {x : Str} : ∀ {binds : List (Str × Value)} {m : Str → Option Value}, (∀ v, (x, v) ∉ binds) → bindL kindOf binds m x = m x
  | [], _, _ => rfl
  | (n, v) :: r, m, h => by
    unfold bindL
    rw [bindL_out fun w hw => h w (List.mem_cons_of_mem _ hw)]
    split
    · have : x ≠ n := by rintro rfl; exact h v List.mem_cons_self
      simp [this]
    · rfl
theorem bindC_out {kindOf : Str → Option NameKind} {x : Str} : ∀ {binds : List (Str × Value)} {m : Str → Option Value}, (∀ v, (x, v) ∉ binds) → bindC kindOf binds m x = m x
  | [], _, _ => rfl
  | (n, v) :: r, m, h => by
    unfold bindC
    rw [bindC_out fun w hw => h w (List.mem_cons_of_mem _ hw)]
    split
    · rfl
    · have : x ≠ n := by rintro rfl; exact h v List.mem_cons_self
      simp [this]
theorem bindL_get {kindOf : Str → Option NameKind} {x : Str} {v : Value} : ∀ {P : List Str} {vs : List Value} {i : Nat} {m : Str → Option Value}, P.Nodup → P[i]? = some x → vs[i]? = some v → kindOf x = some .local →
    bindL kindOf (P.zip vs) m x = some v
  | [], _, _, _, _, h, _, _ => by simp at h
  | _ :: _, [], _, _, _, _, h, _ => by simp at h
  | p :: P, w :: vs, 0, m, nd, h1, h2, hk => by
    simp at h1 h2; subst h1; subst h2
    show bindL kindOf ((p, w) :: P.zip vs) m p = _
    unfold bindL
    rw [bindL_out fun v hv => (List.nodup_cons.mp nd).1 (List.of_mem_zip hv).1, if_pos hk]
    simp
  | p :: P, w :: vs, i + 1, m, nd, h1, h2, hk => by
    show bindL kindOf ((p, w) :: P.zip vs) m x = _
    unfold bindL
    exact bindL_get (i := i) (List.nodup_cons.mp nd).2 (by simpa using h1) (by simpa using h2) hk
theorem bindC_get {kindOf : Str → Option NameKind} {x : Str} {v : Value} : ∀ {P : List Str} {vs : List Value} {i : Nat} {m : Str → Option Value}, P.Nodup → P[i]? = some x → vs[i]? = some v → kindOf x ≠ some .local →
    bindC kindOf (P.zip vs) m x = some v
  | [], _, _, _, _, h, _, _ => by simp at h
  | _ :: _, [], _, _, _, _, h, _ => by simp at h
  | p :: P, w :: vs, 0, m, nd, h1, h2, hk => by
    simp at h1 h2; subst h1; subst h2
    show bindC kindOf ((p, w) :: P.zip vs) m p = _
    unfold bindC
    rw [bindC_out fun v hv => (List.nodup_cons.mp nd).1 (List.of_mem_zip hv).1, if_neg hk]
    simp
  | p :: P, w :: vs, i + 1, m, nd, h1, h2, hk => by
    show bindC kindOf ((p, w) :: P.zip vs) m x = _
    unfold bindC
    exact bindC_get (i := i) (List.nodup_cons.mp nd).2 (by simpa using h1) (by simpa using h2) hk
def start (N : List Str) (vs : List V) : St := vs.map some ++ List.replicate (N.length - vs.length) none
def cxOf (CX : CXT) (P : Program) (w : World) (K : PySem.W.Frag) (mg : Str → Option Value) (base : Heap) (N : List Str) (qual : Str) (scope : Scope) (f : Addr) (cd : Value) (A : Around) (outer : List Env) (s : Shared) (H : Hp) (E : XK) : Cx where
  prog := P
  w := w
  K := K
  mg := mg
  base := base
  A := A.deeper (envOfC qual scope s.heap.objs.size f cd)
  N := N
  s₀ := s
  H₀ := H
  env := envOfC qual scope s.heap.objs.size f cd
  outer := outer
  stack := envOfC qual scope s.heap.objs.size f cd :: outer
  ex := []
  calm := true
  fn := fun _ => true
  pn := []
  xe := fun e s' => wpAny (model P w) (A.deeper (envOfC qual scope s.heap.objs.size f cd)) (leaving (envOfC qual scope s.heap.objs.size f cd) e) (fun _ s'' => CX outer H s E e s'') (fun e' s'' => CX outer H s E e' s'') s'
theorem cell_has {sc : Scope} {n : Nat} {x : Str} (h : sc.names.lookup x = some .cell) : ∃ c, (cellsFrom n sc.names []).lookup x = some c := by
  have q := PySem.W.cellsFrom_some sc.names n [] (.inl h)
  exact Option.isSome_iff_exists.mp q
theorem inv_start {CX : CXT} {P : Program} {w : World} {K : PySem.W.Frag} {mg : Str → Option Value} {base : Heap} {N ps : List Str} {qual : Str} {scope : Scope} {f : Addr} {cd : Value} {A : Around} {outer : List Env} {s s1 : Shared} {H : Hp} {E : XK} {us : List Value} {vs : List V}
    (S : FnScope N ps scope) (hd : A.handled = none) (e0 : Env0 P w K mg base A outer s H) (hl : vs.length = ps.length) (r : Vals vs us)
    (x : InCallC s s.heap.objs.size (bindL (envOfC qual scope s.heap.objs.size f cd).kindOf (ps.zip us) fun _ => none) (cellsFrom (s.heap.objs.size + 1) scope.names []) (bindC (envOfC qual scope s.heap.objs.size f cd).kindOf (ps.zip us) fun _ => none) s1) :
    Inv (cxOf CX P w K mg base N qual scope f cd A outer s H E) [] (start N vs) H s1 := by
  have hpl : ps.length ≤ N.length := by have := congrArg List.length S.pre; rw [List.length_take] at this; omega
  obtain ⟨h1, tk, rfl, hk⟩ := x.done
  have noA : ∀ b : Addr, b ∉ (cxOf CX P w K mg base N qual scope f cd A outer s H E).ex := fun b z => absurd (show b ∈ ([] : List Addr) from z) (by simp)
  refine ⟨⟨e0.mod, S.kind, rfl, rfl, Nat.le_refl _, fun y z c h1 h2 => ?_, fun y hy => ?_, fun y c _ h => ?_, fun _ => hd, Around.frames_deeper e0.frames, .inr ⟨rfl, rfl⟩, fun b z => absurd z (noA b), e0.bs, e0.bsz, fun b _ _ => noA b, fun b z => absurd z (noA b), e0.funs, e0.frf⟩,
    rfl, e0.bare, Un.kept hk, ⟨_, x.toInCall.ns, fun i y v h1 h2 h3 => ?_⟩, fun y c h => ⟨_, x.cell y c h⟩, e0.hok.fresh (Nat.le_refl _), fun y c h => ?_, fun p hp => absurd (show p ∈ ([] : List (Addr × Obj)) from hp) (by simp), e0.hok.kept hk, ?_⟩
  · exact name_of_addr x.apart (PySem.mem_of_lookup h1) (PySem.mem_of_lookup h2)
  · have hy : scope.names.lookup y = some .cell ∨ scope.names.lookup y = some .free := hy
    rcases hy with hy | hy
    · exact cell_has hy
    · exact absurd rfl (S.nofree _ (PySem.mem_of_lookup hy))
  · exact Nat.le_of_lt (x.above y c (PySem.mem_of_lookup h))
  · have hi : i < vs.length := by
      unfold start at h2
      by_cases hi : i < vs.length
      · exact hi
      · rw [List.getElem?_append_right (by simpa using hi)] at h2
        rw [List.getElem?_replicate] at h2
        split at h2 <;> cases h2
    have ha : vs[i]? = some v := by
      unfold start at h2
      rw [List.getElem?_append_left (by simpa using hi), List.getElem?_map] at h2
      cases e : vs[i]? with
      | none => rw [e] at h2; cases h2
      | some a => rw [e] at h2; cases h2; rfl
    obtain ⟨u, hu, rv⟩ := r.get ha
    have hp : ps[i]? = some y := by
      rw [← S.pre, List.getElem?_take_of_lt (by omega)]; exact h1
    have ndP : ps.Nodup := by rw [← S.pre]; exact S.nd.sublist (List.take_sublist _ _)
    refine ⟨u, rv, ?_⟩
    rcases S.par y (List.mem_of_getElem? hp) with k | k
    · exact .inl ⟨k, bindL_get ndP hp hu k⟩
    · obtain ⟨c, e⟩ := cell_has (n := s.heap.objs.size + 1) k
      refine .inr ⟨.inl k, c, e, ?_⟩
      have q := x.cell y c e
      rw [bindC_get ndP hp hu (by show scope.names.lookup y ≠ _; rw [k]; decide)] at q
      exact q
  · exact e0.hok.fresh (Nat.le_of_lt (x.above y c (PySem.mem_of_lookup h)))
  · unfold start
    show _ = N.length
    rw [List.length_append, List.length_map, List.length_replicate]
    omega
theorem fn_of {CX : CXT} {P : Program} {w : World} {K : PySem.W.Frag} {mg : Str → Option Value} {base : Heap} {k : Nat} {f : Addr} {name qual : Str} {params : Arguments} {body : List Stmt} {scope : Scope} {dV kV doc pm cdv ct oc : Value} {an od : Option Addr}
    {osl : Array (Option Value)} {N ps : List Str} {sp : Sp} (lk : K.lookup f = some ⟨oc, od, .func (PySem.W.fnOf name qual params body scope dV kV doc pm an cdv ct), osl⟩) (hcd : PySem.W.codeIn K cdv qual = true) (S : FnScope N ps scope)
    (len : ∀ vs H Q E, sp vs H Q E → vs.length = ps.length)
    (hbody : ∀ (A : Around) (outer : List Env) (s : Shared) (H : Hp) (vs : List V) (Q : VK) (E : XK), Room k (A.deeper (envOfC qual scope s.heap.objs.size f cdv)) → sp vs H Q E →
      ∃ t, PSs (cxOf CX P w K mg base N qual scope f cdv A outer s H E) body t ∧ t { nx := fun _ H' => Q .non H', rt := Q } (start N vs) H) :
    FnOk P w K mg base CX (k + 1) f (PySem.W.fnOf name qual params body scope dV kV doc pm an cdv ct) ps sp := by
  refine ⟨len, fun A outer s H args us vs Q E hr e0 hb r hsp => ?_⟩
  have hl := len _ _ _ _ hsp
  have KX : K.In s.heap := e0.mod.kin.keeps fun b o e => (e0.bs b o e).1
  have lim : s.heap.NoLimit := e0.mod.nolimit.keeps fun b o e => (e0.bs b o e).1
  have hkind : ∀ y ∈ ps.zip us, scope.names.lookup y.1 = some .local ∨ (scope.names.lookup y.1 = some .cell ∧ ((cellsFrom (s.heap.objs.size + 1) scope.names []).lookup y.1).isSome = true) := fun ⟨n, v⟩ hy => by
    rcases S.par n (List.of_mem_zip hy).1 with q | q
    · exact .inl q
    · exact .inr ⟨q, PySem.W.cellsFrom_some _ _ _ (.inl q)⟩
  refine codeAny_call_function hr.depth (KX _ _ lk) rfl S.co S.gen rfl (PySem.W.codeRec_of KX hcd) (hb _ _ _ _ ?_)
  refine wpAny_newFunctionEnv_cells S.kind hkind fun env he s1 x => ?_
  subst he
  refine ⟨lim.keeps x.toInCall.keep, codeAny_func ?_⟩
  obtain ⟨t, ht, hq⟩ := hbody A outer s H vs Q E (hr.deeper _) hsp
  have I : Inv (cxOf CX P w K mg base N qual scope f cdv A outer s H E) [] (start N vs) H s1 := inv_start S hr.hd e0 hl r x
  refine wpAny_mono (ht [] s1 (start N vs) H _ I hq) (fun fl s' hs => ?_) fun e s' hs => hs
  have fin : ∀ {σ' : St} {H' : Hp} {v : V} {u : Value}, Inv (cxOf CX P w K mg base N qual scope f cdv A outer s H E) [] σ' H' s' → RelV v u → Q v H' → CE outer P w H s Q u s' :=
    fun {σ' H' v u} J rv q => ⟨v, H', J.os, J.bare, J.base, J.hok, rv, q⟩
  cases fl with
  | ret u =>
    obtain ⟨v, σ', H', J, rv, q⟩ := hs
    exact fin J rv q
  | next =>
    obtain ⟨σ', H', J, q⟩ := hs
    exact fin (v := V.non) (u := Value.none) J rfl q
  | brk =>
    obtain ⟨_, _, _, q⟩ := hs
    exact False.elim q
  | cont =>
    obtain ⟨_, _, _, q⟩ := hs
    exact False.elim q
end L2
namespace L2
open PySem PySem.Spec PyProof.Rows
section
variable {X : Cx} {x : Str} {p pos : Pos} {e : Expr} {es : List Expr} {t : TA} {id T : String} {r : List V → Hp → VK → Prop}
def tCB (r : List V → Hp → VK → Prop) (t : TA) : TE := fun σ H Q => t σ H fun vs H1 => r vs H1 Q
theorem pe_callB (hc : CallR X (.builtin id) r) (hg : Gl X x) (hm : X.mg x = none) (hv : bootBuiltins x = some (.builtin id)) (ha : PA X (e :: es) t) (hn : x ≠ "__name__" := by decide) (hdb : (x == ("__debug__" : Str)) = false := by decide)
    (he : starEach (e :: es) X.env = (false, eval e X.env) :: starEach es X.env := by rfl) (hpl : (backTo pos (starEach es X.env)).any (·.1) = false := by rfl) : PE X (.Call (.Name x p) (e :: es) [] pos) (tCB r t) := by
  intro pins s σ H Q I h
  refine wpAny_Call_Name_kw (ld_blt I hg hm hv ?_ hn hdb)
  exact PyProof.Rows.callWith_builtin1 (thn (ha pos pins s σ H _ I h) fun us s1 ⟨vs, H1, I1, r1, q1⟩ => hc pins s1 σ H1 vs us Q I1 r1 q1) he hpl
theorem pe_callTy (hc : CallR X (.type T) r) (hg : Gl X x) (hm : X.mg x = none) (hv : bootBuiltins x = some (.type T)) (ha : PA X (e :: es) t) (hn : x ≠ "__name__" := by decide) (hdb : (x == ("__debug__" : Str)) = false := by decide)
    (he : starEach (e :: es) X.env = (false, eval e X.env) :: starEach es X.env := by rfl) (hpl : (backTo pos (starEach es X.env)).any (·.1) = false := by rfl) : PE X (.Call (.Name x p) (e :: es) [] pos) (tCB r t) := by
  intro pins s σ H Q I h
  refine wpAny_Call_Name_kw (ld_blt I hg hm hv ?_ hn hdb)
  exact PyProof.Rows.callWith_type1 (thn (ha pos pins s σ H _ I h) fun us s1 ⟨vs, H1, I1, r1, q1⟩ => hc pins s1 σ H1 vs us Q I1 r1 q1) he hpl
end
end L2
namespace HT
open PySem PyProof.Rows
section
open PySem.SeqAt
open PySem.AutoSeq1 (wpAny_loadPart')
open PySem.MeetsSeq PySem.MeetsSeq2 PySem.MeetsSeq3
end
section
variable {prog : Program} {w : World} {A : Around} {E : Value → Shared → Prop} {s : Shared}
theorem cat_tup {t b : Addr} {vs ws : List Value} {Q : Value → Shared → Prop} (ht : IsTup s.heap t vs.toArray) (hb : IsTup s.heap b ws.toArray) (hv : vs ≠ [])
    (h1 : ws = [] → Q (.ref t) s) (h2 : ws ≠ [] → Q (.ref s.heap.objs.size) { s with heap := s.heap.push { cls := .type "tuple", data := .seq (vs ++ ws).toArray } })
    (hsz : vs.length + ws.length ≤ sizeLine) : wpAny (model prog w) A (binaryOp .Add (.ref t) (.ref b)) Q E s := by
  obtain ⟨⟨cls, dd, data, sl⟩, ho, hc, n, hd⟩ := id ht
  obtain ⟨⟨cls2, dd2, data2, sl2⟩, ho2, hc2, n2, hd2⟩ := id hb
  simp only at hc hd hc2 hd2
  subst hc hd hc2 hd2
  have e : vs.toArray ++ ws.toArray = (vs ++ ws).toArray := by simp
  by_cases hw : ws = []
  · exact concat_meets ⟨_, ho, rfl⟩ ⟨_, ho2, rfl⟩ noFill_tuple_add seq_tuple_add PySem.F.slot_tuple_add PySem.F.entry_tuple_add (PySem.F.args_tuple_add_2 _ _)
      (tuple_addW1 t b vs.toArray ws.toArray n n2 dd dd2 sl sl2 (by simpa using hv) (by simp [hw])) ⟨ho, ho2, h1 hw⟩
  · refine concat_meets ⟨_, ho, rfl⟩ ⟨_, ho2, rfl⟩ noFill_tuple_add seq_tuple_add PySem.F.slot_tuple_add PySem.F.entry_tuple_add (PySem.F.args_tuple_add_2 _ _)
      (tuple_addW2 t b vs.toArray ws.toArray n n2 dd dd2 sl sl2 (by simpa using hv) (by simpa using hw) (by rw [List.size_toArray, List.size_toArray]; exact hsz)) ⟨ho, ho2, ?_⟩
    rw [e]
    exact h2 hw
def sIx (n d : Nat) : Option Int → Nat
  | none => d
  | some v => if v < 0 then (v + (n : Int)).toNat else min v.toNat n
theorem sIx_none (n d : Nat) : sIx n d none = d := rfl
theorem sIx_nat (n d k : Nat) : sIx n d (some (k : Int)) = min k n := by
  show (if (k : Int) < 0 then ((k : Int) + (n : Int)).toNat else min (k : Int).toNat n) = min k n
  rw [if_neg (by omega), Int.toNat_natCast]
end
end HT
namespace L2
open PySem PySem.Spec PyProof.Rows
abbrev TO := St → Hp → (Option Int → Hp → Prop) → Prop
def PO (X : Cx) (e : Option Expr) (t : TO) : Prop :=
  ∀ (pins : List (Addr × Obj)) (s : Shared) (σ : St) (H : Hp) (Q : Option Int → Hp → Prop), Inv X pins σ H s → t σ H Q →
    wpAny (model X.prog X.w) X.A (evalPart e X.env) (fun u s' => ∃ o H', Inv X pins σ H' s' ∧ IsPart u o ∧ Q o H') X.xe s
def tNoPart : TO := fun _ H Q => Q none H
def tPart (t : TE) : TO := fun σ H Q => t σ H fun x H1 => ∃ i, x = .int i ∧ Q (some i) H1
section
variable {X : Cx} {e : Expr} {te : TE} {lo hi : Option Expr} {tl th : TO} {pos p2 : Pos}
theorem po_none : PO X none tNoPart := by
  intro pins s σ H Q I h
  rw [evalPart_none]
  exact wpAny_pure ⟨none, H, I, .none, h⟩
theorem po_some (h : PE X e te) : PO X (some e) (tPart te) := by
  intro pins s σ H Q I hw
  rw [evalPart_some]
  refine thn (h pins s σ H _ I hw) fun u s1 ⟨x, H1, I1, r1, q1⟩ => ?_
  obtain ⟨i, rfl, q⟩ := q1
  obtain ⟨t, rfl⟩ := r1
  exact ⟨some i, H1, I1, .int i t, q⟩
def SlR (X : Cx) (r : V → Option Int → Option Int → Hp → VK → Prop) : Prop :=
  ∀ (pins : List (Addr × Obj)) (s : Shared) (σ : St) (H : Hp) (x : V) (v vl vu : Value) (lo hi : Option Int) (sl : Addr) (Q : VK), Inv X pins σ H s → RelV x v → s.heap.IsSliceOf sl vl vu .none → IsPart vl lo → IsPart vu hi → r x lo hi H Q →
    ∃ T id, typeLookup (.type T) "__getitem__" = pure (some (.builtin id)) ∧ s.TypeIs v T ∧ wpAny (model X.prog X.w) X.A (getItem v (.ref sl)) (EP X pins σ Q) X.xe s
def tSl (r : V → Option Int → Option Int → Hp → VK → Prop) (te : TE) (tl th : TO) : TE := fun σ H Q => te σ H fun x H1 => tl σ H1 fun l H2 => th σ H2 fun u H3 => r x l u H3 Q
theorem pe_slice {r : V → Option Int → Option Int → Hp → VK → Prop} (hr : SlR X r) (he : PE X e te) (hl : PO X lo tl) (hu : PO X hi th) : PE X (.Subscript e (.Slice lo hi none p2) pos) (tSl r te tl th) := by
  intro pins s σ H Q I h
  refine Subscript_ (thn (he pins s σ H _ I h) fun v s1 ⟨x, H1, I1, r1, q1⟩ => ?_)
  refine wpAny_Slice (thn (hl pins s1 σ H1 _ I1 q1) fun vl s2 ⟨l, H2, I2, pl, q2⟩ => thn (hu pins s2 σ H2 _ I2 q2) fun vu s3 ⟨u, H3, I3, pu, q3⟩ => ?_)
  rw [evalPart_none]
  refine wpAny_pure ?_
  have I4 : Inv X pins σ H3 { s3 with heap := s3.heap.push { cls := .type "slice", data := .fields #[vl, vu, .none] } } := I3.kept (t' := s3.toks) fun b ob q => Heap.get?_push_of_some _ q
  obtain ⟨T, id, hT, ht, hg⟩ := hr pins { s3 with heap := s3.heap.push { cls := .type "slice", data := .fields #[vl, vu, .none] } } σ H3 x v vl vu l u s3.heap.objs.size Q I4 r1 (Heap.IsSliceOf.new ..) pl pu q3
  show wpAny (model X.prog X.w) X.A (subscriptTail e (.Slice lo hi none p2) v (.ref s3.heap.objs.size)) (EP X pins σ Q) X.xe { s3 with heap := s3.heap.push { cls := .type "slice", data := .fields #[vl, vu, .none] } }
  exact tail_any (ops := [.ref s3.heap.objs.size, v]) ht hT hg (by with_unfolding_all rfl)
def cutV (xs : List V) (lo hi : Option Int) : List V := (xs.drop (HT.sIx xs.length 0 lo)).take (HT.sIx xs.length xs.length hi - HT.sIx xs.length 0 lo)
theorem cutV_length (xs : List V) (lo hi : Option Int) : (cutV xs lo hi).length ≤ xs.length := by
  unfold cutV
  rw [List.length_take, List.length_drop]
  omega
def rCatT (K : PySem.W.Frag) : R2 := fun x y H Q => ∃ a b xs ys, x = .ref a ∧ y = .ref b ∧ SqT K H a xs ∧ SqT K H b ys ∧ xs ≠ [] ∧ xs.length + ys.length ≤ sizeLine ∧
  (ys = [] → Q (.ref a) H) ∧ (ys ≠ [] → ∀ p, H p = none → Q (.ref p) (upd H p (.tup (xs ++ ys))))
theorem Vals.nil_iff {xs : List V} {us : List Value} (r : Vals xs us) : us = [] ↔ xs = [] := by
  cases r with
  | nil => simp
  | cons _ _ => simp
theorem op_catT : OpR X (binaryOp .Add) (rCatT X.K) := by
  intro pins s σ H x y v u Q I rx ry h
  obtain ⟨a, b, xs, ys, rfl, rfl, ha, hb, hx, hz, q1, q2⟩ := h
  cases rx
  cases ry
  obtain ⟨its, r1, p1, _⟩ := I.tuple ha
  obtain ⟨its2, r2, p2, _⟩ := I.tuple hb
  refine HT.cat_tup p1 p2 (fun z => hx (r1.nil_iff.mp z)) (fun z => ⟨.ref a, H, I, rfl, q1 (r2.nil_iff.mp z)⟩) (fun z => ?_) (by rw [← r1.length, ← r2.length]; exact hz)
  refine ⟨.ref s.heap.objs.size, _, I.laid (t' := s.toks) (o := .tup (xs ++ ys)) (fun b ob q => Heap.get?_push_of_some _ q) (Nat.le_refl _) ?_, rfl, q2 (fun w => z (r2.nil_iff.mpr w)) _ (I.hok.fresh (Nat.le_refl _))⟩
  exact ⟨by rw [List.length_append]; exact hz, _, r1.append r2, IsTup.new _ _⟩
end
end L2
namespace L2
open PySem PySem.Spec PyProof.Rows
def ixN (n : Nat) (i : Int) : Option Nat := if 0 ≤ i then (if i < n then some i.toNat else none) else if -(n : Int) ≤ i then some (i + n).toNat else none
def atI {α : Type} (xs : List α) (i : Int) : Option α := (ixN xs.length i).bind fun j => xs[j]?
theorem ixN_seq {n : Nat} {i : Int} {j : Nat} (h : ixN n i = some j) : seqIndex? i n = some j ∧ j < n ∧ -(n : Int) ≤ i ∧ i < n := by
  unfold ixN at h
  by_cases h0 : 0 ≤ i
  · rw [if_pos h0] at h
    by_cases h1 : i < n
    · rw [if_pos h1] at h
      have e : i.toNat = j := Option.some.inj h
      exact ⟨by rw [seqIndex_of h0 h1, e], by omega, by omega, h1⟩
    · rw [if_neg h1] at h; cases h
  · rw [if_neg h0] at h
    by_cases h1 : -(n : Int) ≤ i
    · rw [if_pos h1] at h
      have e : (i + n).toNat = j := Option.some.inj h
      exact ⟨by rw [seqIndex_neg (by omega) h1, e], by omega, h1, by omega⟩
    · rw [if_neg h1] at h; cases h
theorem atI_get {α : Type} {xs : List α} {i : Int} {v : α} (h : atI xs i = some v) : ∃ j, seqIndex? i xs.length = some j ∧ xs[j]? = some v ∧ j < xs.length ∧ -(xs.length : Int) ≤ i ∧ i < xs.length := by
  unfold atI at h
  cases e : ixN xs.length i with
  | none => rw [e] at h; cases h
  | some j =>
    rw [e] at h
    obtain ⟨h1, h2, h3, h4⟩ := ixN_seq e
    exact ⟨j, h1, h, h2, h3, h4⟩
theorem atI_nat {α : Type} {xs : List α} {j : Nat} {v : α} (h : xs[j]? = some v) : atI xs (j : Int) = some v := by
  have hj : j < xs.length := (List.getElem?_eq_some_iff.mp h).1
  have e : ixN xs.length (j : Int) = some j := by
    unfold ixN
    rw [if_pos (by omega), if_pos (by omega)]; simp
  unfold atI; rw [e]; exact h
def PlainIx (b : Expr) : Prop := ∀ o i, subscripted b false o i = operate [o, i] (getItem o i)
def IxR (X : Cx) (r : R2) : Prop :=
  ∀ (value slice : Expr) (pins : List (Addr × Obj)) (s : Shared) (σ : St) (H : Hp) (x y : V) (v u : Value) (Q : VK), Inv X pins σ H s → RelV x v → RelV y u → r x y H Q →
    subscripted slice false v u = operate [v, u] (getItem v u) → wpAny (model X.prog X.w) X.A (subscriptTail value slice v u) (EP X pins σ Q) X.xe s
def MtR (X : Cx) (id : String) (r : V → List V → Hp → VK → Prop) : Prop :=
  ∀ (pins : List (Addr × Obj)) (s : Shared) (σ : St) (H : Hp) (x : V) (xs : List V) (v : Value) (us : List Value) (Q : VK), Inv X pins σ H s → RelV x v → Vals xs us → r x xs H Q →
    wpAny (model X.prog X.w) X.A (call (.builtin id) (v :: us)) (EP X pins σ Q) X.xe s
section
variable {X : Cx} {a b : Expr} {ta tb : TE} {pos : Pos}
theorem pe_ix {r : R2} (hr : IxR X r) (ha : PE X a ta) (hb : PE X b tb) (hs : PlainIx b) : PE X (.Subscript a b pos) (tOp r ta tb) := by
  intro pins s σ H Q I h
  exact Subscript_ (binT ha hb I h fun v u s2 x y H2 I2 rx ry q => hr a b pins s2 σ H2 x y v u Q I2 rx ry q (hs _ _))
def rIxL (K : PySem.W.Frag) : R2 := fun x y H Q => ∃ p xs i v, x = .ref p ∧ y = .int i ∧ SqL K H p xs ∧ atI xs i = some v ∧ Q v H
def rIxT (K : PySem.W.Frag) : R2 := fun x y H Q => ∃ p xs i v, x = .ref p ∧ y = .int i ∧ SqT K H p xs ∧ atI xs i = some v ∧ Q v H
def rIxS : R2 := fun x y H Q => ∃ z i c, x = .str z ∧ y = .int i ∧ z.length ≤ sizeLine ∧ atI z.cps.toList i = some c ∧ Q (.str ⟨#[c]⟩) H
theorem ix_list : IxR X (rIxL X.K) := by
  intro value slice pins s σ H x y v u Q I rx ry h hs
  obtain ⟨p, xs, i, z, rfl, rfl, hq, he, q⟩ := h
  cases rx
  obtain ⟨t, rfl⟩ := ry
  obtain ⟨its, r, pl, hz⟩ := I.list hq
  obtain ⟨j, h1, h2, h3, h4, h5⟩ := atI_get he
  obtain ⟨w, ew, rw'⟩ := r.get h2
  have hl := r.length
  have hn := line63
  have fin : EP X pins σ Q w s := ⟨z, H, I, rw', q⟩
  by_cases h0 : 0 ≤ i
  · have hj : i.toNat = j := by
      rw [seqIndex_of h0 h5] at h1
      exact Option.some.inj h1
    exact item_listR pl.isList h0 (by omega) (by rw [hj]; simpa using ew) fin hs
  · have hj : (i + (its.toArray.size : Int)).toNat = j := by
      rw [seqIndex_neg (by omega) h4] at h1
      rw [List.size_toArray, ← hl]
      exact Option.some.inj h1
    exact subscriptTail_builtinR (x := w) pl.isList.typeIs slot_list_getitem.lookup
      (wpAny_getItem_list_neg (Q := fun r s' => r = w ∧ EP X pins σ Q r s') pl.isList (by omega) (by rw [List.size_toArray] <;> omega) (by omega) (by rw [hj]; simpa using ew) ⟨rfl, fin⟩) hs
theorem ix_tup : IxR X (rIxT X.K) := by
  intro value slice pins s σ H x y v u Q I rx ry h hs
  obtain ⟨p, xs, i, z, rfl, rfl, hq, he, q⟩ := h
  cases rx
  obtain ⟨t, rfl⟩ := ry
  obtain ⟨its, r, pl, hz⟩ := I.tuple hq
  obtain ⟨j, h1, h2, h3, h4, h5⟩ := atI_get he
  obtain ⟨w, ew, rw'⟩ := r.get h2
  have hl := r.length
  have hn := line63
  have fin : EP X pins σ Q w s := ⟨z, H, I, rw', q⟩
  exact subscriptTail_builtinR (x := w) pl.typeIs slot_tuple_getitem.lookup
    (getItem_tuple (j := j) (Q := fun r s' => r = w ∧ EP X pins σ Q r s') pl (by omega) (by omega) (by rw [List.size_toArray, ← hl]; exact h1) (by simpa using ew) ⟨rfl, fin⟩) hs
theorem ix_str : IxR X rIxS := by
  intro value slice pins s σ H x y v u Q I rx ry h hs
  obtain ⟨z, i, c, rfl, rfl, hz, he, q⟩ := h
  obtain ⟨t, rfl⟩ := rx
  obtain ⟨t', rfl⟩ := ry
  obtain ⟨j, h1, h2, h3, h4, h5⟩ := atI_get he
  have hl : z.cps.toList.length = z.length := by simp [Str.length]
  rw [hl] at h1 h4 h5
  have hn := line63
  exact tail_any (typeIs_str s z t) slot_str_getitem.lookup (getItem_str (c := c) (by
    have e1 : decide (i < -(2 ^ 63 : Int)) = false := decide_eq_false (by omega)
    have e2 : decide (i ≥ 2 ^ 63) = false := decide_eq_false (by omega)
    rw [e1, e2, Bool.or_false]) (by rw [h1]; simpa using h2) ⟨.str ⟨#[c]⟩, H, I.tok _, ⟨_, rfl⟩, q⟩) hs
theorem mapSeq_set (its : List Value) (n j : Nat) (u : Value) : Obj.mapSeq (·.setIfInBounds j u) { cls := .type "list", data := .seq its.toArray n } = { cls := .type "list", data := .seq (its.set j u).toArray n } := by
  simp [Obj.mapSeq]
theorem Inv.lst {pins : List (Addr × Obj)} {σ : St} {H : Hp} {s : Shared} {p : Addr} {xs : List V} (I : Inv X pins σ H s) (h : H p = some (.lst xs)) :
    ∃ (its : List Value) (n : Nat), Vals xs its ∧ s.heap.get? p = some { cls := .type "list", data := .seq its.toArray n } ∧ xs.length ≤ sizeLine := by
  obtain ⟨z, its, n, r, e⟩ := I.hok p _ h
  exact ⟨its, n, r, e, z⟩
theorem Inv.lstUpd {pins : List (Addr × Obj)} {σ : St} {H : Hp} {s : Shared} {p : Addr} {xs ys : List V} {its its' : List Value} {n n' : Nat} {f : Obj → Obj} (I : Inv X pins σ H s) (h : H p = some (.lst xs))
    (ho : s.heap.get? p = some { cls := .type "list", data := .seq its.toArray n }) (hf : f { cls := .type "list", data := .seq its.toArray n } = { cls := .type "list", data := .seq its'.toArray n' }) (r : Vals ys its') (hz : ys.length ≤ sizeLine) (t : Nat) :
    Inv X pins σ (upd H p (.lst ys)) { s with heap := s.heap.update p f, toks := t } := by
  have e : (s.heap.update p f).get? p = some { cls := .type "list", data := .seq its'.toArray n' } := by
    rw [Heap.get?_update_self f ho (by rw [hf] <;> rfl), hf]
  refine I.write (x := p) (e := p) (by rw [h]; trivial) (.inl rfl) (fun b u hb q => (Heap.get?_update_other _ _ (Ne.symm hb)).trans q) ⟨_, e⟩ ?_
  exact ⟨hz, its', n', r, e⟩
def rSetL : V → V → V → Hp → (Hp → Prop) → Prop := fun o i v H Q => ∃ p xs k j, o = .ref p ∧ i = .int k ∧ H p = some (.lst xs) ∧ ixN xs.length k = some j ∧ Q (upd H p (.lst (xs.set j v)))
theorem set_list : PSet X rSetL := by
  intro pins s σ H o i v ov iv u Q I ro ri rv h
  obtain ⟨p, xs, k, j, rfl, rfl, hp, hj, q⟩ := h
  cases ro
  obtain ⟨t, rfl⟩ := ri
  obtain ⟨its, n, r, ho, hz⟩ := I.lst hp
  obtain ⟨h1, h2, h3, h4⟩ := ixN_seq hj
  have hl := r.length
  have hn := line63
  have I' : Inv X pins σ (upd H p (.lst (xs.set j v))) { s with heap := s.heap.update p (Obj.mapSeq (·.setIfInBounds j u)) } :=
    I.lstUpd hp ho (mapSeq_set its n j u) (r.set rv j) (by rw [List.length_set]; exact hz) s.toks
  by_cases h0 : 0 ≤ k
  · have hk : k.toNat = j := by
      rw [seqIndex_of h0 h4] at h1
      exact Option.some.inj h1
    exact PySem.W.ki_setAt ho h0 (by omega) (by rw [List.size_toArray, ← hl]; exact h4) (by rw [hk]; exact ⟨_, I', q⟩)
  · have hk : (k + (its.toArray.size : Int)).toNat = j := by
      rw [seqIndex_neg (by omega) h3] at h1
      rw [List.size_toArray, ← hl]
      exact Option.some.inj h1
    exact PySem.W.ki_setBack ho (by omega) (by rw [List.size_toArray, ← hl]; exact h3) (by omega) (by rw [hk]; exact ⟨_, I', q⟩)
theorem slice_bounds (lo hi : Option Int) (n : Nat) : (sliceBounds lo hi none n).1 = ((HT.sIx n 0 lo : Nat) : Int) ∧ (sliceBounds lo hi none n).2.1 = ((HT.sIx n n hi : Nat) : Int) ∧ (sliceBounds lo hi none n).2.2 = 1 := by
  refine ⟨?_, ?_, rfl⟩
  · cases lo with
    | none => simp [sliceBounds, HT.sIx]
    | some i =>
      simp only [sliceBounds, HT.sIx, Option.getD_none, show (1 : Int) > 0 by decide, if_true]
      by_cases h : i < 0
      · simp only [h, if_true] <;> omega
      · simp only [h, if_false] <;> omega
  · cases hi with
    | none => simp [sliceBounds, HT.sIx]
    | some i =>
      simp only [sliceBounds, HT.sIx, Option.getD_none, show (1 : Int) > 0 by decide, if_true]
      by_cases h : i < 0
      · simp only [h, if_true] <;> omega
      · simp only [h, if_false] <;> omega
theorem slicePick_cut (its : List Value) (lo hi : Option Int) : slicePick its.toArray lo hi none = ((its.drop (HT.sIx its.length 0 lo)).take (HT.sIx its.length its.length hi - HT.sIx its.length 0 lo)).toArray := by
  obtain ⟨h1, h2, h3⟩ := slice_bounds lo hi its.toArray.size
  unfold slicePick
  rw [h1, h2, h3]
  simp only [sliceRange_one, pick_run, List.size_toArray] <;> rfl
def rSlL (K : PySem.W.Frag) : V → Option Int → Option Int → Hp → VK → Prop := fun x lo hi H Q => ∃ a xs, x = .ref a ∧ SqL K H a xs ∧ ∀ p, H p = none → Q (.ref p) (upd H p (.lst (cutV xs lo hi)))
theorem sl_list : SlR X (rSlL X.K) := by
  intro pins s σ H x v vl vu lo hi sl Q I rx hs pl pu h
  obtain ⟨a, xs, rfl, hx, q⟩ := h
  cases rx
  obtain ⟨its, r, ht, hz⟩ := I.list hx
  have hlen := r.length
  refine ⟨"list", _, slot_list_getitem.lookup, ht.isList.typeIs, ?_⟩
  refine wpAny_getItem_list_slice ht.isList hs pl pu .none (by simp) ?_ (by rw [List.size_toArray] <;> omega)
  rw [slicePick_cut, ← hlen]
  refine ⟨.ref s.heap.objs.size, _, I.laid (t' := s.toks) (o := .lst (cutV xs lo hi)) (fun b ob q => Heap.get?_push_of_some _ q) (Nat.le_refl _) ?_, rfl, q _ (I.hok.fresh (Nat.le_refl _))⟩
  exact ⟨Nat.le_trans (cutV_length xs lo hi) hz, _, 0, (r.drop (HT.sIx xs.length 0 lo)).take (HT.sIx xs.length xs.length hi - HT.sIx xs.length 0 lo), Heap.get?_push_size _ rfl⟩
theorem call_len_seq : CallR X (.builtin "len") (fun xs H Q => ∃ p ys, xs = [.ref p] ∧ (SqL X.K H p ys ∨ SqT X.K H p ys) ∧ Q (.int ys.length) H) := by
  intro pins s σ H xs us Q I r h
  obtain ⟨p, ys, rfl, hq, q⟩ := h
  obtain ⟨u, rfl, rx⟩ := vals1 r
  cases rx
  have hn := line63
  rcases hq with hq | hq
  · obtain ⟨its, r', pl, hz⟩ := I.list hq
    have hlen := r'.length
    exact Calls.call_len_list pl.isList (by simp only [List.size_toArray] <;> omega) ⟨.int ys.length, H, I.tok _, ⟨s.toks + 1, by rw [List.size_toArray, hlen]⟩, q⟩
  · obtain ⟨its, r', pl, hz⟩ := I.tuple hq
    have hlen := r'.length
    exact len_tuple pl (by simp only [List.size_toArray] <;> omega) ⟨.int ys.length, H, I.tok _, ⟨s.toks + 1, by rw [List.size_toArray, hlen]⟩, q⟩
theorem call_list_of : CallR X (.type "list") (fun xs H Q => ∃ p ys, xs = [.ref p] ∧ (SqL X.K H p ys ∨ SqT X.K H p ys) ∧ ∀ l, H l = none → Q (.ref l) (upd H l (.lst ys))) := by
  intro pins s σ H xs us Q I r h
  obtain ⟨p, ys, rfl, hq, q⟩ := h
  obtain ⟨u, rfl, rx⟩ := vals1 r
  cases rx
  have fin : ∀ (its : List Value), Vals ys its → ys.length ≤ sizeLine → ∀ (h' : Heap) (c' : Nat), (∀ b o', s.heap.get? b = some o' → h'.get? b = some o') →
      h'.get? s.heap.objs.size = some { cls := .type "list", dict := none, data := .seq its.toArray c', slots := #[] } → EP X pins σ Q (.ref s.heap.objs.size) { s with heap := h' } := fun its r' hz h' c' kp e =>
    ⟨.ref s.heap.objs.size, _, I.laid (t' := s.toks) kp (Nat.le_refl _) (show ObjOk X.prog X.w _ h' _ (.lst ys) from ⟨hz, its, c', r', e⟩), rfl, q _ (I.hok.fresh (Nat.le_refl _))⟩
  rcases hq with hq | hq
  · obtain ⟨its, r', pl, hz⟩ := I.list hq
    have hlen := r'.length
    obtain ⟨o, ho, hc, n, hd⟩ := pl.isList
    exact call_list_seq p (.inl rfl) ho hc hd (fun h' c' kp e => fin its r' hz h' c' kp e) (by simp only [List.size_toArray] <;> omega)
  · obtain ⟨its, r', pl, hz⟩ := I.tuple hq
    have hlen := r'.length
    obtain ⟨o, ho, hc, n, hd⟩ := pl
    exact call_list_seq p (.inr rfl) ho hc hd (fun h' c' kp e => fin its r' hz h' c' kp e) (by simp only [List.size_toArray] <;> omega)
def tyV (K : PySem.W.Frag) (T : String) (x : V) (H : Hp) : Prop := match x with
  | .str _ => T = "str"
  | .int _ => T = "int"
  | .ref p => (T = "list" ∧ ∃ xs, SqL K H p xs) ∨ (T = "tuple" ∧ ∃ o, K.lookup p = some o ∧ o.cls = .type "tuple" ∧ o.dict = none) ∨
      (T = "dict" ∧ ((∃ kvs, H p = some (.dK kvs)) ∨ (∃ kvs, H p = some (.dT kvs)) ∨ ∃ kvs, H p = some (.dG kvs))) ∨ (T = "set" ∧ ∃ S n, H p = some (.set S n))
  | _ => False
theorem tyV_is {pins : List (Addr × Obj)} {σ : St} {H : Hp} {s : Shared} {T : String} {x : V} {v : Value} (I : Inv X pins σ H s) (r : RelV x v) (ty : tyV X.K T x H) :
    s.TypeIs v T ∧ ∀ a, v = .ref a → ∃ ob, s.heap.get? a = some ob ∧ ob.dict = none := by
  cases x with
  | str z =>
    obtain ⟨t, rfl⟩ := r
    cases (show T = "str" from ty)
    exact ⟨typeIs_str s z t, fun _ e => nomatch e⟩
  | int i =>
    obtain ⟨t, rfl⟩ := r
    cases (show T = "int" from ty)
    exact ⟨typeIs_int s i t, fun _ e => nomatch e⟩
  | ref p =>
    cases r
    rcases ty with ⟨rfl, xs, hq⟩ | ⟨rfl, o, hk, hc, hd⟩ | ⟨rfl, hk⟩ | ⟨rfl, S, n, hk⟩
    · obtain ⟨its, _, pl, _⟩ := I.list hq
      refine ⟨pl.isList.typeIs, fun a e => ?_⟩
      cases e
      obtain ⟨o, n, e, c, hd, _⟩ := pl
      exact ⟨o, e, hd⟩
    · refine ⟨⟨o, I.kIn p o hk, hc⟩, fun a e => ?_⟩
      cases e
      exact ⟨o, I.kIn _ o hk, hd⟩
    · have z : ∃ o, s.heap.get? p = some o ∧ o.ExactDict := by
        rcases hk with ⟨kvs, hk⟩ | ⟨kvs, hk⟩ | ⟨kvs, hk⟩
        · obtain ⟨_, _, _, _, o, _, _, e, ex, _⟩ := I.hok p _ hk
          exact ⟨o, e, ex⟩
        · obtain ⟨_, _, _, _, o, _, _, e, ex, _⟩ := I.hok p _ hk
          exact ⟨o, e, ex⟩
        · obtain ⟨_, _, _, _, o, _, _, e, ex, _⟩ := I.hok p _ hk
          exact ⟨o, e, ex⟩
      obtain ⟨o, e, ex⟩ := z
      refine ⟨⟨o, e, ex.1⟩, fun a e2 => ?_⟩
      cases e2
      exact ⟨o, e, ex.2.1⟩
    · obtain ⟨o, _, _, _, e, ex, _⟩ := I.hok p _ hk
      refine ⟨⟨o, e, ex.1⟩, fun a e2 => ?_⟩
      cases e2
      exact ⟨o, e, ex.2.1⟩
  | _ => exact False.elim ty
def tBM0 (K : PySem.W.Frag) (T : String) (r : V → List V → Hp → VK → Prop) (to : TE) : TE := fun σ H Q => to σ H fun x H1 => tyV K T x H1 ∧ r x [] H1 Q
def tBM (K : PySem.W.Frag) (T : String) (r : V → List V → Hp → VK → Prop) (to : TE) (t : TA) : TE := fun σ H Q => to σ H fun x H1 => tyV K T x H1 ∧ t σ H1 fun xs H2 => r x xs H2 Q
variable {o e : Expr} {es : List Expr} {to : TE} {t : TA} {name : Str} {apos cpos : Pos} {T id : String} {r : V → List V → Hp → VK → Prop}
theorem pe_bm0 (pa : PlainAttrs T) (slot : Slot T name id) (hty : typeOf (.builtin id) = pure (.type "method_descriptor")) (hm : MtR X id r) (ho : PE X o to)
    (hbase : attributeBase o name X.env (eval o X.env) = eval o X.env := by rfl) (hline : (apos.endLine == cpos.line) = true := by rfl) : PE X (.Call (.Attribute o name apos) [] [] cpos) (tBM0 X.K T r to) := by
  intro pins s σ H Q I h
  refine wpAny_Call_method0_late hbase hline (thn (ho pins s σ H _ I h) fun v s1 ⟨x, H1, I1, r1, ty, q1⟩ => ?_)
  obtain ⟨h1, h2⟩ := tyV_is I1 r1 ty
  exact ⟨T, id, pa, slot, hty, h1, h2, Calls.callWith_builtin rfl (PySem.evalArgs_none (hm pins s1 σ H1 x [] v [] Q I1 r1 .nil q1))⟩
theorem pe_bm (pa : PlainAttrs T) (slot : Slot T name id) (hty : typeOf (.builtin id) = pure (.type "method_descriptor")) (hm : MtR X id r) (ho : PE X o to) (ha : PA X (e :: es) t)
    (hbase : attributeBase o name X.env (eval o X.env) = eval o X.env := by rfl)
    (hfew : ((backTo cpos (starEach (e :: es) X.env)).all (fun x => !x.1) && (backToKw cpos (keywordEach [] X.env)).all (fun x => x.1.isSome)
      && decide ((e :: es).length + ([] : List Keyword).length + (if ([] : List Keyword).isEmpty then 0 else 1) < 30)) = true := by rfl)
    (hline : (apos.endLine == cpos.line) = true := by rfl) (hs : starEach (e :: es) X.env = (false, eval e X.env) :: starEach es X.env := by rfl) (hplain : (backTo cpos (starEach es X.env)).any (·.1) = false := by rfl) :
    PE X (.Call (.Attribute o name apos) (e :: es) [] cpos) (tBM X.K T r to t) := by
  intro pins s σ H Q I h
  refine wpAny_Call_method_late hbase hfew hline rfl (thn (ho pins s σ H _ I h) fun v s1 ⟨x, H1, I1, r1, ty, q1⟩ => ?_)
  obtain ⟨h1, h2⟩ := tyV_is I1 r1 ty
  refine ⟨T, id, pa, slot, hty, h1, h2, ?_⟩
  have hA := ha cpos pins s1 σ H1 _ I1 q1
  rw [hs] at hA ⊢
  refine Calls.callWith_builtin (by show (false || (backTo cpos (starEach es X.env)).any (·.1)) = false; rw [hplain] <;> rfl) (Calls.evalArgs_plain ?_)
  exact thn hA fun us s2 ⟨vs, H2, I2, r2, q2⟩ => hm pins s2 σ H2 x vs v us Q I2 r1 r2 q2
end
end L2
namespace L2
open PySem PySem.Spec PyProof.Rows
def MtM (X : Cx) (id : String) (r : V → List V → Hp → VK → Prop) : Prop :=
  ∀ (pins : List (Addr × Obj)) (s : Shared) (σ : St) (H : Hp) (x : V) (xs : List V) (v : Value) (us : List Value) (Q : VK), Inv X pins σ H s → RelV x v → Vals xs us → r x xs H Q →
    wpAny (model X.prog X.w) X.A (call (.builtin id) (v :: us)) (EP X pins σ Q) X.xe s
theorem Vals.one : ∀ {x : V} {us : List Value}, Vals [x] us → ∃ u, us = [u] ∧ RelV x u
  | _, _, .cons r .nil => ⟨_, rfl, r⟩
theorem Vals.two : ∀ {x y : V} {us : List Value}, Vals [x, y] us → ∃ u v, us = [u, v] ∧ RelV x u ∧ RelV y v
  | _, _, _, .cons r (.cons q .nil) => ⟨_, _, rfl, r, q⟩
theorem Vals.zero : ∀ {us : List Value}, Vals [] us → us = []
  | _, .nil => rfl
theorem Vals.dropLast {xs : List V} {us : List Value} (h : Vals xs us) : Vals xs.dropLast us.dropLast := by
  induction h with
  | nil => exact .nil
  | cons r t ih =>
    cases t with
    | nil => exact .nil
    | cons q t' => exact .cons r ih
theorem erase_last {α : Type} (l : List α) : l.eraseIdx (l.length - 1) = l.dropLast := by
  induction l with
  | nil => rfl
  | cons a r ih =>
    cases r with
    | nil => rfl
    | cons b r =>
      have e : (a :: b :: r).length - 1 = ((b :: r).length - 1) + 1 := by
        have h1 : (a :: b :: r).length = r.length + 2 := rfl
        have h2 : (b :: r).length = r.length + 1 := rfl
        omega
      rw [e, List.eraseIdx_cons_succ, ih]
      all_goals rfl
section
variable {X : Cx} {pins : List (Addr × Obj)} {σ : St} {H : Hp} {s : Shared} {l b : Addr} {xs ys zs : List V}
theorem Inv.lset {its its' : List Value} {n : Nat} {f : Array Value → Array Value} {t' : Nat} (I : Inv X pins σ H s) (hH : H l = some (.lst xs))
    (e : s.heap.get? l = some { cls := .type "list", data := .seq its.toArray n }) (hf : f its.toArray = its'.toArray) (hv : Vals ys its') (hz : ys.length ≤ sizeLine) :
    Inv X pins σ (upd H l (.lst ys)) { s with heap := s.heap.update l (Obj.mapSeq f), toks := t' } := by
  have q := PySem.IsL.update e f
  rw [hf] at q
  refine I.write (x := l) (e := l) (by rw [hH]; exact trivial) (.inl rfl) (fun b' u hb hu => (Heap.get?_update_other s.heap (Obj.mapSeq f) (Ne.symm hb)).trans hu) ⟨_, q⟩ ?_
  exact ⟨hz, its', _, hv, q⟩
theorem Inv.lnew {its : List Value} {t' : Nat} (I : Inv X pins σ H s) (hv : Vals ys its) (hz : ys.length ≤ sizeLine) :
    Inv X pins σ (upd H s.heap.objs.size (.lst ys)) { s with heap := s.heap.push { cls := .type "list", data := .seq its.toArray }, toks := t' } :=
  I.laid (fun _ _ q => Heap.get?_push_of_some _ q) (Nat.le_refl _) ⟨hz, its, 0, hv, Heap.get?_push_size _ rfl⟩
theorem Inv.fresh (I : Inv X pins σ H s) : H s.heap.objs.size = none := I.hok.fresh (Nat.le_refl _)
theorem Inv.lstM (I : Inv X pins σ H s) (hH : H l = some (.lst xs)) : xs.length ≤ sizeLine ∧ ∃ (its : List Value) (n : Nat), Vals xs its ∧ xs.length = its.length ∧ s.heap.get? l = some { cls := .type "list", data := .seq its.toArray n } := by
  obtain ⟨z, its, n, r, e⟩ := I.hok l _ hH
  exact ⟨z, its, n, r, r.length, e⟩
theorem notLongL {n : Nat} (h : n ≤ sizeLine) : Builtin.List.listTooLong n = false := by
  unfold Builtin.List.listTooLong
  exact decide_eq_false (by omega)
end
section
variable {X : Cx}
def rAppend : V → List V → Hp → VK → Prop := fun x vs H Q => ∃ l xs y, x = .ref l ∧ vs = [y] ∧ H l = some (.lst xs) ∧ xs.length < sizeLine ∧ Q .non (upd H l (.lst (xs ++ [y])))
theorem mt_append : MtM X "list.append" rAppend := by
  intro pins s σ H x vs v us Q I rx rv h
  obtain ⟨l, xs, y, rfl, rfl, hH, hz, q⟩ := h
  cases rx
  obtain ⟨u, rfl, ru⟩ := rv.one
  obtain ⟨z, its, n, r, hl, e⟩ := I.lstM hH
  refine call_meets F.slot_list_append ⟨_, e, rfl⟩ F.entry_list_append (F.args_list_append_2 _ _) (PySem.list_append l its.toArray n u (by rw [List.size_toArray]; omega)) ⟨e, ?_⟩
  refine ⟨.non, _, I.lset (its' := its ++ [u]) hH e (by simp) (r.append (.cons ru .nil)) ?_, rfl, q⟩
  rw [List.length_append, List.length_singleton]
  omega
def rExtend : V → List V → Hp → VK → Prop := fun x vs H Q => ∃ l b xs zs, x = .ref l ∧ vs = [.ref b] ∧ H l = some (.lst xs) ∧ H b = some (.lst zs) ∧ xs.length + zs.length ≤ sizeLine ∧ Q .non (upd H l (.lst (xs ++ zs)))
theorem mt_extend : MtM X "list.extend" rExtend := by
  intro pins s σ H x vs v us Q I rx rv h
  obtain ⟨l, b, xs, zs, rfl, rfl, hH, hB, hz, q⟩ := h
  cases rx
  obtain ⟨u, rfl, ru⟩ := rv.one
  cases ru
  obtain ⟨z, its, n, r, hl, e⟩ := I.lstM hH
  obtain ⟨z2, its2, n2, r2, hl2, e2⟩ := I.lstM hB
  have hsz : its.toArray.size + its2.toArray.size ≤ sizeLine := by rw [List.size_toArray, List.size_toArray]; omega
  have hlong : ¬ (!its.toArray.isEmpty && Builtin.List.listTooLong (its.toArray.size + its2.toArray.size)) = true := by
    rw [notLongL hsz, Bool.and_false]
    exact Bool.false_ne_true
  refine call_meets F.slot_list_extend ⟨_, e, rfl⟩ F.entry_list_extend (F.args_list_extend_2 _ _)
    (AutoSeq1.list_extend_list_list_0 l its.toArray n b its2.toArray n2 hlong (by rw [List.size_toArray]; omega) (by omega)) ⟨e, e2, ?_⟩
  refine ⟨.non, _, I.lset (its' := its ++ its2) hH e (by simp) (r.append r2) ?_, rfl, q⟩
  rw [List.length_append]
  omega
def rPop : V → List V → Hp → VK → Prop := fun x vs H Q => ∃ l xs y, x = .ref l ∧ vs = [] ∧ H l = some (.lst xs) ∧ xs[xs.length - 1]? = some y ∧ Q y (upd H l (.lst xs.dropLast))
theorem mt_pop : MtM X "list.pop" rPop := by
  intro pins s σ H x vs v us Q I rx rv h
  obtain ⟨l, xs, y, rfl, rfl, hH, hy, q⟩ := h
  cases rx
  have hus := rv.zero
  subst hus
  obtain ⟨z, its, n, r, hl, e⟩ := I.lstM hH
  obtain ⟨u, hu, ru⟩ := r.get hy
  have hy' : its.toArray[its.toArray.size - 1]? = some u := by
    show its.toArray[its.length - 1]? = some u
    rw [← Array.getElem?_toList, ← hl]
    exact hu
  refine call_meets F.slot_list_pop ⟨_, e, rfl⟩ F.entry_list_pop (F.args_list_pop_1 _) (MeetsSeq.list_pop_last l its.toArray n u hy' (by rw [List.size_toArray]; omega)) ⟨e, ?_⟩
  refine ⟨y, _, I.lset (its' := its.dropLast) hH e ?_ r.dropLast ?_, ru, q⟩
  · show its.toArray.eraseIdxIfInBounds (its.toArray.size - 1) = its.dropLast.toArray
    rw [List.size_toArray, List.eraseIdxIfInBounds_toArray, erase_last]
  · rw [List.length_dropLast]
    omega
def rCat : R2 := fun x y H Q => ∃ l b xs zs, x = .ref l ∧ y = .ref b ∧ H l = some (.lst xs) ∧ H b = some (.lst zs) ∧ xs.length + zs.length ≤ sizeLine ∧ ∀ p, H p = none → Q (.ref p) (upd H p (.lst (xs ++ zs)))
theorem op_cat : OpR X (binaryOp .Add) rCat := by
  intro pins s σ H x y v u Q I rx ry h
  obtain ⟨l, b, xs, zs, rfl, rfl, hH, hB, hz, q⟩ := h
  cases rx
  cases ry
  obtain ⟨z, its, n, r, hl, e⟩ := I.lstM hH
  obtain ⟨z2, its2, n2, r2, hl2, e2⟩ := I.lstM hB
  refine PySem.P.add_list e e2 ?_ (by rw [List.size_toArray, List.size_toArray]; omega)
  have ea : its.toArray ++ its2.toArray = (its ++ its2).toArray := by simp
  rw [ea]
  exact ⟨.ref _, _, I.lnew (t' := s.toks) (r.append r2) (by rw [List.length_append]; omega), rfl, q _ I.fresh⟩
end
section
variable {prog : Program} {w : World} {A : Around} {E : Value → Shared → Prop} {s : Shared}
end
section
variable {X : Cx}
end
end L2
namespace L2
open PySem PySem.Spec PyProof.Rows
section
variable {κ : Type} [DecidableEq κ]
theorem RelO.isSome_eq {o : Option V} {u : Option Value} (r : RelO o u) : o.isSome = u.isSome := by
  cases o with
  | none => cases u with
    | none => rfl
    | some _ => exact (show False from r).elim
  | some _ => cases u with
    | none => exact (show False from r).elim
    | some _ => rfl
end
theorem kV_is {P : Program} {w : World} {k : Key} {u : Value} (r : RelV (kV k) u) : (mixKind P w).is k u = true := by
  cases k with
  | inl i => obtain ⟨t, e⟩ := (show ∃ t, u = Value.int i t from r); subst e; exact mixKind_int P w i t
  | inr x => obtain ⟨t, e⟩ := (show ∃ t, u = Value.str x t from r); subst e; exact mixKind_str P w x t
theorem items_are {P : Program} {w : World} : ∀ {ks : List Key} {us : List Value}, Vals (ks.map kV) us → ItemsAre (mixKind P w) ks us
  | [], _, r => by rw [List.map_nil] at r; cases r; exact .nil
  | k :: ks, _, r => by
    rw [List.map_cons] at r
    cases r with
    | cons h t => exact .cons (kV_is h) (items_are t)
section
variable {P : Program} {w : World} {H : Hp} {h : Heap} {a : Addr}
theorem key_of {ks : List Key} (ok : HOk P w H h) (e : H a = some (.tup (ks.map kV))) : (tupleKind (mixKind P w)).is h ks a := by
  obtain ⟨_, its, r, o, h1, h2, n, h3⟩ := (show ObjOk P w H h a (.tup (ks.map kV)) from ok a _ e)
  exact ⟨o, its.toArray, n, h1, h2, h3, by simpa using items_are r⟩
end
section
variable {X : Cx} {pins : List (Addr × Obj)} {σ : St} {H : Hp} {s : Shared} {a : Addr} {y v : V} {u r : Value} {o : Option V} {A : Around} {E : Value → Shared → Prop}
theorem Inv.big (I : Inv X pins σ H s) : sysModules < s.heap.objs.size := by
  have h : mainGlobals < s.heap.objs.size := (I.mod.glob.keeps I.bk).lt
  exact Nat.lt_trans (by decide) h
theorem d_write {h' : Heap} {t' : Nat} {ob : HO} (I : Inv X pins σ H s) (mu : Mut (H a)) (hs : Heap.SameBut a s.heap h') (he : ∃ q, h'.get? a = some q) (new : ObjOk X.prog X.w (upd H a ob) h' a ob) :
    Inv X pins σ (upd H a ob) { s with heap := h', toks := t' } :=
  I.write (x := a) (e := a) mu (.inl rfl) (fun b q hb z => (hs.2 b hb).trans z) he new
end
section
variable {X : Cx} {pins : List (Addr × Obj)} {σ : St} {H : Hp} {s : Shared} {a : Addr} {kvs : List (Key × V)} {k : Key} {u : Value} {A : Around} {E : Value → Shared → Prop}
end
section
variable {X : Cx} {o i e value : Expr} {pos pos' tpos : Pos} {td ty tv : TE}
end
section
variable {X : Cx} {pos : Pos}
end
section
variable {X : Cx} {pins : List (Addr × Obj)} {σ : St} {H : Hp} {s : Shared} {a : Addr} {y d : V} {u r : Value} {o : Option V} {A : Around} {E : Value → Shared → Prop}
end
section
variable {X : Cx} {o e f : Expr} {apos cpos : Pos} {td ty tx : TE}
end
section
variable {X : Cx} {pins : List (Addr × Obj)} {σ : St} {H : Hp} {s : Shared} {a : Addr} {kvs : List (Key × V)} {A : Around} {E : Value → Shared → Prop}
end
section
variable {X : Cx} {pins : List (Addr × Obj)} {σ : St} {H : Hp} {s : Shared} {a : Addr} {y : V} {u : Value} {A : Around} {E : Value → Shared → Prop}
end
end L2
namespace Att
open PySem PySem.W PySem.Calls PyProof.Rows
theorem ints_of_wellAll {P : Params} {h : Heap} : ∀ (ns : List Int) (vs : List Value), WellAll P h vs (ns.map WData.int) → IntsAre vs ns := by
  intro ns
  induction ns with
  | nil =>
    intro vs w
    rw [List.map_nil] at w
    cases w
    exact .nil
  | cons n ns ih =>
    intro vs w
    rw [List.map_cons] at w
    cases w with
    | cons a b =>
      cases a
      exact .cons _ _ (ih _ b)
theorem script_of {l : OpenLaw} {n : Nat} (hn : l.most = some n) {P : Params} {h : Heap} {args : List WData} {vals : List Value}
    (hpre : l.row.toRowW.claim.pre args = true) (hwl : WellAll P h vals args) :
    ∃ a vs ns, vals = [Value.ref a] ∧ args = [WData.list (ns.map WData.int)] ∧ h.get? a = some { cls := .type "list", data := .seq vs.toArray } ∧ IntsAre vs ns ∧ ns.length ≤ n := by
  have hsh : WShape.hasAll [] args [.list .int] = true := (pre_splitW hpre).1
  have hc : l.pre.holds [] { args := args } = true := (pre_splitW hpre).2
  obtain ⟨d, r, rfl, h1, h2⟩ := hasAllW_cons hsh
  obtain rfl := hasAllW_nil h2
  obtain ⟨xs, rfl, h3⟩ := hasW_list h1
  obtain ⟨ns, rfl⟩ := items_int h3
  have hlen : ns.length ≤ n := by
    unfold OpenLaw.pre at hc
    have h4 : (WTm.not (.lt (.lit (.int (n : Int))) (.len (.arg 0)))).holds [] { args := [.list (ns.map .int)] } = true := by
      have h4 := (holds_andW hc).1
      rw [hn] at h4
      exact h4
    have h5 := condW_of h4 (w_not (w_lt w_lit (w_len_list (w_arg rfl))))
    rw [List.length_map] at h5
    refine Nat.le_of_not_lt fun q => ?_
    have q' : (n : Int) < ((ns.length : Nat) : Int) := by omega
    first
      | (rw [decide_eq_true q'] at h5; exact absurd h5 (by decide))
      | (simp at h5; omega)
  cases hwl with
  | cons w1 w2 =>
    cases w2
    cases w1 with
    | list ho hall => exact ⟨_, _, ns, rfl, rfl, ho, ints_of_wellAll ns _ hall, hlen⟩
theorem post_true (l : OpenLaw) (args : List WData) : l.row.toRowW.claim.post args (.bool true) args = true :=
  postW_of (r := l.row.toRowW) (X := (true == true))
    (show WShape.has [] (.bool true) .bool = true by first | rfl | decide | simp [WShape.has, WShape.arms, WShape.armsAll])
    (show (WTm.eq .res (.lit (.bool true))).value [] { args := args, res := some (.bool true), after := args } = some (.bool (true == true)) from w_eq_bool (w_res rfl) w_lit) rfl
theorem attach_call {l : OpenLaw} {n : Nat} {q : Program} {loose : List Str} {XP : (Str → Option Value) → Heap → Prop} {YP : World → Heap → Prop} {d : DefRec}
    (hn : l.most = some n) (hdf : d.params.defaults = [])
    (call : ∀ (w : World) (s₀ s₁ : Shared) (mg mb : Str → Option Value) (fa : Addr) (o : Obj) (pm cd doc : Value) (a : Addr) (vs : List Value) (ns : List Int),
      Ground q loose [] XP w s₀ mg mb s₁.heap → YP w s₁.heap →
      s₁.heap.get? fa = some o → o.data = .func (docDef d.name d.params d.body d.scope pm cd doc) → s₁.heap.CodeRec cd d.name → mg d.name = some (.ref fa) →
      s₁.heap.get? a = some { cls := .type "list", data := .seq vs.toArray } → IntsAre vs ns → ns.length ≤ n → s₁.gens = #[] →
      codeAny (model l.prog w) callerA (.call (.ref fa) ⟨[.ref a], []⟩) (fun r s' => r = .ok (.ret (.bool true)) ∧ OldK s₁.heap s'.heap ∧ s'.os = s₁.os ∧ AllBare s'.gens) s₁) :
    WalkO q loose XP YP l.row.toRowW d [] (fun f vs => PySem.call f vs) := by
  intro w s₀ s₁ mg mb G Y fa o pm cd doc dV kV ho hd hcd hD hmg hg args vals as hpre hlay hrd hwl hlo
  obtain rfl : dV = .none := Dflts.none hD hdf
  obtain rfl : kV = .none := Dflts.noKw hD
  obtain ⟨a, vs, ns, rfl, rfl, hobj, hints, hlen⟩ := script_of hn hpre hwl
  refine enter_call (codeAny_mono (call w s₀ s₁ mg mb fa o pm cd doc a vs ns G Y ho (fd_plain hd) hcd hmg hobj hints hlen hg) fun r s' hq => ?_)
  obtain ⟨rfl, h2, h3, h4⟩ := hq
  exact ⟨.inl ⟨.bool true, .bool true, [], rfl, fun _ => rfl, .bool true, post_true l _, fun _ => ⟨List.Pairwise.nil, fun _ hm => (nomatch hm)⟩⟩, h2, h3, h4⟩
section
variable {prog : Program} {w : World} {A : Around} {E : Value → Shared → Prop} {s : Shared} {K : Frag}
end
end Att
namespace L2
open PySem PySem.Spec PyProof.Rows
theorem vals_ints : ∀ {vs : List Value} {ns : List Int}, IntsAre vs ns → Vals (ns.map V.int) vs
  | _, _, .nil => .nil
  | _, _, .cons n t h => .cons ⟨t, rfl⟩ (vals_ints h)
end L2
namespace L2
open PySem PySem.Spec PyProof.Rows
end L2
namespace L2
open PySem PySem.Spec PyProof.Rows
def defArgs (s : Stmt) : Arguments := match s with
  | .FunctionDef _ a _ _ _ _ _ _ _ _ => a
  | _ => { posonlyargs := [], args := [], vararg := none, kwonlyargs := [], kw_defaults := [], kwarg := none, defaults := [] }
def defBody (s : Stmt) : List Stmt := match s with
  | .FunctionDef _ _ b _ _ _ _ _ _ _ => b
  | _ => []
def defScope (s : Stmt) : Scope := match s with
  | .FunctionDef _ _ _ _ _ _ sc _ _ _ => sc
  | _ => { kind := .function, names := [], isGenerator := false, isCoroutine := false }
abbrev CX0 : CXT := fun _ _ _ _ _ _ => False
abbrev E0 : XK := fun _ _ _ => False
theorem pass0 {X : Cx} : Passes CX0 X E0 := fun _ _ _ _ _ _ _ h => h.elim
structure Fun (K : PySem.W.Frag) (x qual : Str) (st : Stmt) (f : Addr) (fd : FuncData) : Prop where
  ex : ∃ (oc : Value) (od : Option Addr) (kV doc pm : Value) (an : Option Addr) (cdv ct : Value) (osl : Array (Option Value)),
    fd = PySem.W.fnOf x qual (defArgs st) (defBody st) (defScope st) .none kV doc pm an cdv ct ∧ K.lookup f = some ⟨oc, od, .func fd, osl⟩ ∧ PySem.W.codeIn K cdv qual = true
  kp : PySem.W.keepIn K (.ref f) = true
section
variable {P : Program} {w : World} {K : PySem.W.Frag} {mg : Str → Option Value} {base : Heap}
theorem Fun.ok {x qual : Str} {st : Stmt} {f : Addr} {fd : FuncData} {N ps : List Str} {k : Nat} {sp : Sp} (F : Fun K x qual st f fd) (S : FnScope N ps (defScope st)) (len : ∀ vs H Q E, sp vs H Q E → vs.length = ps.length)
    (hbody : ∀ (cdv : Value) (A : Around) (outer : List Env) (s : Shared) (H : Hp) (vs : List V) (Q : VK) (E : XK), Room k (A.deeper (envOfC qual (defScope st) s.heap.objs.size f cdv)) → sp vs H Q E →
      ∃ t, PSs (cxOf CX0 P w K mg base N qual (defScope st) f cdv A outer s H E).nox (defBody st) t ∧ t { nx := fun _ H' => Q .non H', rt := Q } (start N vs) H) : FnOk P w K mg base CX0 (k + 1) f fd ps sp := by
  obtain ⟨oc, od, kV, doc, pm, an, cdv, ct, osl, rfl, lk, hcd⟩ := F.ex
  refine fn_of lk hcd S len fun A outer s H vs Q E hr hsp => ?_
  obtain ⟨t, h, q⟩ := hbody cdv A outer s H vs Q E hr hsp
  exact ⟨t, h.nox, q⟩
theorem Fun.binds {x qual : Str} {st : Stmt} {f : Addr} {fd : FuncData} {ps : List Str} (F : Fun K x qual st f fd)
    (h : ∀ (kV doc pm : Value) (an : Option Addr) (cdv ct : Value) (us : List Value), us.length = ps.length → bindArgs (PySem.W.fnOf x qual (defArgs st) (defBody st) (defScope st) .none kV doc pm an cdv ct) ⟨us, []⟩ = pure (ps.zip us)) : Binds K fd ps [] := by
  obtain ⟨oc, od, kV, doc, pm, an, cdv, ct, osl, rfl, lk, hcd⟩ := F.ex
  exact .all (h kV doc pm an cdv ct)
theorem fun_mk {x qual : Str} {st : Stmt} {f : Addr} {oc : Value} {od an : Option Addr} {osl : Array (Option Value)} {kV doc pm cdv ct : Value} (l : K.lookup f = some ⟨oc, od, .func (PySem.W.fnOf x qual (defArgs st) (defBody st) (defScope st) .none kV doc pm an cdv ct), osl⟩)
    (c : PySem.W.codeIn K cdv qual = true) (k : PySem.W.keepIn K (.ref f) = true) : Fun K x qual st f (PySem.W.fnOf x qual (defArgs st) (defBody st) (defScope st) .none kV doc pm an cdv ct) := ⟨⟨oc, od, kV, doc, pm, an, cdv, ct, osl, rfl, l, c⟩, k⟩
end
theorem hu_of {A : Around} {k : Nat} (hr : Room k A) : A.units + 1 < cLine := Nat.lt_of_le_of_lt (Nat.add_le_add_left (by decide : 1 ≤ 64) _) hr.units
theorem small1000 {n : Nat} (h : n ≤ 1000) : n < sizeLine := Nat.lt_of_le_of_lt h (by decide)
section
variable {X : Cx}
theorem pv (i : Nat) {x : Str} {pos : Pos} (hN : X.N[i]? = some x := by rfl) (hv : Vis X.env.scope x := by first | exact Or.inl rfl | exact Or.inr (Or.inl rfl) | exact Or.inr (Or.inr rfl)) (hd : (x == ("__debug__" : Str)) = false := by decide)
    (hcd : (x == ("__classdict__" : Str)) = false := by decide) : PE X (.Name x pos) (tVar i) := pe_var hN hv hd hcd
end
theorem iteT {A B : Prop} (h : A) : if true = true then A else B := by
  rw [if_pos rfl]
  exact h
theorem ite2 {c A B : Prop} [Decidable c] (h1 : c → A) (h2 : ¬ c → B) : if c then A else B := by
  by_cases h : c
  · rw [if_pos h]
    exact h1 h
  · rw [if_neg h]
    exact h2 h
def Same (H H' : Hp) : Prop := ∀ b o, H b = some o → H' b = some o
theorem Same.refl (H : Hp) : Same H H := fun _ _ h => h
theorem Same.trans {H H1 H2 : Hp} (a : Same H H1) (b : Same H1 H2) : Same H H2 := fun c o h => b c o (a c o h)
theorem Same.free {H H' : Hp} (e : Same H H') {l : Addr} (h : H' l = Option.none) : H l = Option.none := by
  cases q : H l with
  | none => rfl
  | some o =>
    rw [e l o q] at h
    cases h
section
variable {κ : Type} [DecidableEq κ]
end
end L2
namespace L2
open PySem PySem.Spec PyProof.Rows
section
variable {prog : Program} {w : World} {A : Around} {R : Result → Shared → Prop} {s : Shared}
theorem comp_loop {elt tg iter : Expr} {ifs : List Expr} {sc : Scope} {pos : Pos} {it acc : Value} {ce : Env} (J : Nat → Shared → Prop)
    (turn : ∀ n s, J n s → wpAny (model prog w) A (pyNext it) (fun r s1 => match r with
      | none => R (.ok .next) s1
      | some v => wpAny (model prog w) A (letOwnedTupleGo tg it v) (fun _ s2 => wpAny (model prog w) A (assign tg ce v) (fun _ s3 =>
          wpAny (model prog w) A (forIn ifs true fun c r => if r = true then do let ok ← isTrue c ce (eval c ce); pure (ForInStep.yield ok) else pure (ForInStep.yield r)) (fun ok s4 =>
            if ok = true then
              wpAny (model prog w) A (eval elt ce) (fun x s5 => wpAny (model prog w) A (call (.builtin "list.append") [acc, x]) (fun _ s6 => ∃ m, m < n ∧ J m s6) (fun _ _ => False) s5) (fun _ _ => False) s4
            else ∃ m, m < n ∧ J m s4) (fun _ _ => False) s3) (fun _ _ => False) s2) (fun _ _ => False) s1) (fun _ _ => False) s)
    (n : Nat) (h : J n s) : codeAny (model prog w) A (.compLoop (.ListComp elt [⟨tg, iter, ifs, 0⟩] sc pos) 0 it acc ce) R s := by
  refine codeAny_loop rfl J (fun n s hJ => ?_) n h
  show wpAny _ A ((compTurn (.ListComp elt [⟨tg, iter, ifs, 0⟩] sc pos) 0 it acc ce).onRaise (fun x => do noteFrame x ce; theTreesLotGoes x)) _ _ s
  refine wpAny_noted ?_
  rw [compTurn_list]
  refine wpAny_bind (wpAny_standAt (wpAny_bind (wpAny_mono (turn n s hJ) (fun r s1 h1 => ?_) fun _ _ f => f.elim)))
  cases r with
  | none => exact wpAny_pure h1
  | some v =>
    refine wpAny_bind (wpAny_mono h1 (fun _ s2 h2 => ?_) fun _ _ f => f.elim)
    refine wpAny_bind (wpAny_mono h2 (fun _ s3 h3 => ?_) fun _ _ f => f.elim)
    refine wpAny_bind (wpAny_mono h3 (fun ok s4 h4 => ?_) fun _ _ f => f.elim)
    cases ok with
    | false => exact wpAny_pure ⟨rfl, h4⟩
    | true =>
      refine wpAny_bind (wpAny_bind (wpAny_mono h4 (fun x s5 h5 => ?_) fun _ _ f => f.elim))
      exact wpAny_bind (wpAny_mono h5 (fun _ s6 h6 => wpAny_pure (wpAny_pure ⟨rfl, h6⟩)) fun _ _ f => f.elim)
end
def compCx (X : Cx) (N : List Str) (sc : Scope) (cl : List (Str × Addr)) (s : Shared) (H : Hp) (fp : List Addr) : Cx where
  prog := X.prog
  w := X.w
  K := X.K
  mg := X.mg
  base := X.base
  A := X.A
  N := N
  s₀ := s
  H₀ := H
  env := compEnvC sc cl (s.heap.objs.size + 1) X.env
  outer := X.stack
  stack := X.stack
  ex := fp
  fn := fun _ => false
  calm := X.calm
  pn := []
  xe := fun _ _ => False
def compSt (own : List Str) (fr : List (Str × Nat)) (σ : St) : St := own.map (fun _ => none) ++ fr.map fun p => (σ[p.2]?).join
def KeepS (σ σ' : St) : Prop := σ.length = σ'.length ∧ ∀ (i : Nat) v, σ[i]? = some (some v) → σ'[i]? = some (some v)
def Fresh (g : TG) (σ : St) : Prop := ∀ x H (Q : St → Hp → Prop), g x σ H Q → g x σ H fun σ' H' => KeepS σ σ' ∧ Q σ' H'
theorem KeepS.set {σ : St} {i : Nat} (h : σ[i]? = some none) (v : V) : KeepS σ (σ.set i (some v)) := by
  refine ⟨by simp, fun j u e => ?_⟩
  by_cases hj : i = j
  · subst hj; rw [h] at e; cases e
  · rw [List.getElem?_set_ne hj]; exact e
theorem fresh_name {σ : St} {i : Nat} (h : σ[i]? = some none) : Fresh (gName i) σ := fun x H Q q => ⟨KeepS.set h x, q⟩
theorem fresh_pair {K : PySem.W.Frag} {σ : St} {i j n : Nat} (hi : σ[i]? = some none) (hj : σ[j]? = some none) (hij : i ≠ j) : Fresh (gTup K n (gCons (gName i) (gCons (gName j) gNil))) σ := by
  intro x H Q q
  obtain ⟨a, xs, e1, e2, e3, v, r, e4, w, r', e5, e6, q⟩ := q
  refine ⟨a, xs, e1, e2, e3, v, r, e4, w, r', e5, e6, ?_, q⟩
  have h1 := KeepS.set hi v
  have h2 := KeepS.set (σ := σ.set i (some v)) (i := j) (by rw [List.getElem?_set_ne hij]; exact hj) w
  exact ⟨h1.1.trans h2.1, fun k u e => h2.2 k u (h1.2 k u e)⟩
def PTs (X : Cx) (ifs : List Expr) (t : TT) : Prop :=
  ∀ (pins : List (Addr × Obj)) (s : Shared) (σ : St) (H : Hp) (Q : Bool → Hp → Prop), Inv X pins σ H s → t σ H Q →
    wpAny (model X.prog X.w) X.A (forIn ifs true fun c r => if r = true then do let ok ← isTrue c X.env (eval c X.env); pure (ForInStep.yield ok) else pure (ForInStep.yield r)) (TP X pins σ Q) X.xe s
theorem pts_nil {X : Cx} : PTs X [] (fun _ H Q => Q true H) := fun _ _ _ H _ I h => wpAny_tests_nil ⟨H, I, h⟩
theorem pts_one {X : Cx} {c : Expr} {t : TT} (h : PT X c t) : PTs X [c] t := fun pins s σ H Q I q => wpAny_tests_one (h pins s σ H Q I q)
def LCb (own : List Str) (fr : List (Str × Nat)) (g : TG) (tt : TT) (te : TE) (σ : St) (Q : VK) (J : It) (H1 : Hp) : Prop := ∃ W : Nat → Nat → List V → Hp → Prop, (∃ m, W 0 m [] H1) ∧ ∀ i m ys H, W i m ys H →
  (J.stop i H ∧ ∀ p, H p = none → Q (.ref p) (upd H p (.lst ys))) ∨ (J.go i H ∧ ys.length < sizeLine ∧ ∀ x H', J.yld i H x H' → g x (compSt own fr σ) H' fun σ2 H2 => tt σ2 H2 fun b H3 =>
    if b = true then te σ2 H3 fun y H4 => ∃ m', m' < m ∧ W (i + 1) m' (ys ++ [y]) H4 else ∃ m', m' < m ∧ W (i + 1) m' ys H3)
def tLC (own : List Str) (fr : List (Str × Nat)) (wi : TI) (g : TG) (tt : TT) (te : TE) : TE := fun σ H Q => wi σ H fun J H1 => LCb own fr g tt te σ Q J H1
abbrev accObj (us : List Value) : Obj := { cls := .type "list", data := .seq us.toArray us.length }
theorem acc_snoc (us : List Value) (u : Value) : ({ cls := .type "list", data := .seq (us.toArray.push u) (us.length + 1) } : Obj) = accObj (us ++ [u]) := by
  unfold accObj
  rw [List.length_append, List.length_singleton, List.push_toArray]
structure Caps (X : Cx) (sc : Scope) (cl : List (Str × Addr)) (fr : List (Str × Nat)) : Prop where
  clos : closureFor sc X.env = pure cl
  sub : ∀ x c, cl.lookup x = some c → X.env.cells.lookup x = some c
  has : ∀ x, ((relabel sc X.env).names.lookup x = some .cell ∨ (relabel sc X.env).names.lookup x = some .free) → ∃ c, cl.lookup x = some c
  cap : ∀ p ∈ fr, X.N[p.2]? = some p.1 ∧ X.env.kindOf p.1 ≠ some .local ∧ Vis X.env.scope p.1 ∧ ((relabel sc X.env).names.lookup p.1 = some .cell ∨ (relabel sc X.env).names.lookup p.1 = some .free)
structure CompSc (sc : Scope) : Prop where
  kind : sc.kind = .function
  cell : ∀ y ∈ sc.names, y.2 ≠ .cell
  nms : ∀ y ∈ sc.names, y.2 = .local → sc.names.lookup y.1 = some .local
section
variable {X : Cx}
theorem Inv.stkNot {pins : List (Addr × Obj)} {σ : St} {H : Hp} {s : Shared} (I : Inv X pins σ H s) {b : Addr} (h1 : b ≠ X.env.locals) (h2 : b ∉ X.fs) : b ∉ frs X.stack := fun z => by
  rcases List.mem_cons.mp (I.stkSub b z) with e | e
  · exact h1 e
  · exact h2 e
theorem compSt_get {own : List Str} {fr : List (Str × Nat)} {σ : St} {N : List Str} (hN : N = own ++ fr.map (·.1)) {i : Nat} {x : Str} {v : V} (h1 : N[i]? = some x) (h2 : (compSt own fr σ)[i]? = some (some v)) :
    ∃ p ∈ fr, p.1 = x ∧ σ[p.2]? = some (some v) := by
  unfold compSt at h2
  subst hN
  by_cases hi : i < own.length
  · rw [List.getElem?_append_left (by simpa using hi), List.getElem?_map] at h2
    rw [List.getElem?_eq_getElem hi] at h2
    cases h2
  · rw [List.getElem?_append_right (by simpa using hi), List.length_map, List.getElem?_map] at h2
    rw [List.getElem?_append_right (by simpa using hi), List.getElem?_map] at h1
    cases e : fr[i - own.length]? with
    | none => rw [e] at h1; cases h1
    | some p =>
      rw [e] at h1 h2
      refine ⟨p, List.mem_of_getElem? e, Option.some.inj h1, ?_⟩
      have h2' : (σ[p.2]?).join = some v := Option.some.inj h2
      cases e3 : σ[p.2]? with
      | none => rw [e3] at h2'; cases h2'
      | some o => rw [e3] at h2'; rw [show o = some v from h2']
theorem Inv.block {pins : List (Addr × Obj)} {σ : St} {H : Hp} {s : Shared} {own : List Str} {fr : List (Str × Nat)} {sc : Scope} {cl : List (Str × Addr)} {fp : List Addr} {h1 : Heap} {m : Str → Option Value} {tk : Nat}
    (I : Inv X pins σ H s) (hf : ∀ b ∈ fp, FpOk X pins H b) (hfl : ∀ b ∈ fp, b < s.heap.objs.size) (S : CompSc sc) (C : Caps X sc cl fr)
    (old : ∀ b o, s.heap.get? b = some o → h1.get? b = some o) (hn : h1.Ns (s.heap.objs.size + 1) m) (hD : h1.get? s.heap.objs.size = some (accObj [])) :
    Inv (compCx X (own ++ fr.map (·.1)) sc cl s H fp) [(s.heap.objs.size, accObj [])] (compSt own fr σ) H { s with heap := h1, toks := tk } := by
  have cellLt : ∀ x c, cl.lookup x = some c → c < s.heap.objs.size := fun x c e => by
    obtain ⟨v, z⟩ := I.cell x c (C.sub x c e)
    exact z.lt
  have sizeC : s.heap.objs.size ≤ s.heap.objs.size + 1 := Nat.le_succ _
  refine ⟨⟨I.ok.mod, S.kind, I.ok.glob, I.ok.blt, sizeC, fun x y c e1 e2 => I.ok.inj x y c (C.sub x c e1) (C.sub y c e2), fun x hx => C.has x hx, fun _ _ z => (by cases z), I.ok.hd, I.ok.frames, .inl rfl, fun b hb => ⟨?_, fun x c e z => ?_⟩,
    I.bs, Nat.le_trans I.ok.bsz I.sz, fun b o e hb => ?_, fun b hb z => ?_, I.stack, I.stkFree⟩, rfl, I.bare, Un.kept old, ⟨m, hn, fun i x v e1 e2 e3 => ?_⟩, fun x c e => ?_, I.hok.fresh sizeC, fun x c e => I.freeC x c (C.sub x c e), fun p hp => ?_, I.hok.kept old, ?_⟩
  · exact Nat.ne_of_lt (Nat.lt_succ_of_lt (hfl b hb))
  · exact (hf b hb).2.2.2.2.1 x c (C.sub x c e) z
  · rcases (hf b hb).2.2.2.1 with z | z
    · exact I.ok.noex b o e z
    · exact absurd (Nat.lt_of_lt_of_le (Heap.lt_size e) (Nat.le_trans I.ok.bsz z)) (Nat.lt_irrefl _)
  · exact I.stkNot (hf b hb).2.1 (hf b hb).2.2.1 z
  · obtain ⟨p, hp, rfl, e4⟩ := compSt_get rfl e1 e2
    obtain ⟨c1, c2, c3, c4⟩ := C.cap p hp
    obtain ⟨m0, hn0, hl⟩ := I.loc
    obtain ⟨u, r, l⟩ := hl p.2 p.1 v c1 e4 c3
    refine ⟨u, r, .inr ⟨c4, ?_⟩⟩
    rcases l with ⟨k, _⟩ | ⟨_, c, hc, ho, hoe, hod⟩
    · exact absurd k c2
    · obtain ⟨c', hc'⟩ := C.has p.1 c4
      have := C.sub p.1 c' hc'
      rw [hc] at this
      cases this
      exact ⟨c, hc', ho, old _ _ hoe, hod⟩
  · obtain ⟨v, o, ho, hd⟩ := I.cell x c (C.sub x c e)
    exact ⟨v, o, old _ _ ho, hd⟩
  · have hp' : p = (s.heap.objs.size, accObj []) := by simpa [compCx] using hp
    subst hp'
    refine ⟨hD, I.hok.fresh (Nat.le_refl _), ?_, ?_, fun v z => by cases z⟩
    · exact Nat.ne_of_lt (Nat.lt_succ_self _)
    · exact I.stkNot (Nat.ne_of_gt I.lt) (I.nofs (Nat.le_refl _))
  · show (compSt own fr σ).length = (own ++ fr.map (·.1)).length
    unfold compSt
    rw [List.length_append, List.length_append, List.length_map, List.length_map, List.length_map]
theorem HOk.track {P : Program} {w : World} {H : Hp} {h : Heap} {a : Addr} {o : HO} (x : HOk P w H h) (hn : H a = none) (new : ObjOk P w (upd H a o) h a o) : HOk P w (upd H a o) h := fun b u e => by
  by_cases hb : b = a
  · subst hb; rw [upd_same] at e; cases e; exact new
  · rw [upd_ne hb] at e
    exact (x b u e).stay (fun c v _ q => q) (fun c q => by rw [upd_ne (ne_of_none q hn)]; exact q) fun c xs q => by rw [upd_ne (ne_of_none q hn)]; exact q
theorem Inv.unblock {pins : List (Addr × Obj)} {σ : St} {H H3 : Hp} {s s4 : Shared} {N : List Str} {σ3 : St} {sc : Scope} {cl : List (Str × Addr)} {fp : List Addr} {h' : Heap} {ys : List V} {us : List Value}
    (I : Inv X pins σ H s) (hf : ∀ b ∈ fp, FpOk X pins H b) (I4 : Inv (compCx X N sc cl s H fp) [(s.heap.objs.size, accObj us)] σ3 H3 s4) (hv : Vals ys us) (hz : ys.length ≤ sizeLine)
    (hs : Heap.SameBut (s.heap.objs.size + 1) s4.heap h') : Inv X pins σ (upd H3 s.heap.objs.size (.lst ys)) { s4 with heap := h' } := by
  obtain ⟨eD, nD, neD, _, _⟩ := I4.pin (s.heap.objs.size, accObj us) (List.mem_append_right _ (by simp))
  have eD : s4.heap.get? s.heap.objs.size = some (accObj us) := eD
  have nD : H3 s.heap.objs.size = none := nD
  have b4 : Un (frs X.stack) fp H H3 s.heap s4.heap := I4.base
  have nC : H3 (s.heap.objs.size + 1) = none := I4.free
  have neC : ∀ b o, s.heap.get? b = some o → b ≠ s.heap.objs.size + 1 := fun b o e => Nat.ne_of_lt (Nat.lt_succ_of_lt (Heap.lt_size e))
  have neD' : ∀ b o, s.heap.get? b = some o → b ≠ s.heap.objs.size := fun b o e => Nat.ne_of_lt (Heap.lt_size e)
  have k4 : ∀ b o, b ≠ s.heap.objs.size + 1 → s4.heap.get? b = some o → h'.get? b = some o := fun b o hb e => hs.extBut b o hb e
  refine I.call' (s' := { s4 with heap := h' }) (ch := fp) I4.os ⟨fun b o e n h1 h2 => k4 b o (neC b o e) (b4.keep b o e n h1 h2), fun b o e n h1 h2 => ?_, fun b o e n h2 => ?_, fun b o e h2 => ?_,
    fun b xs e => ?_, fun b o u e => ?_, fun b ps e => ?_⟩ ?_ I4.bare fun b hb => ⟨(hf b hb).2.2.2.1, (hf b hb).2.1, (hf b hb).2.2.2.2.1, (hf b hb).2.2.2.2.2⟩
  · obtain ⟨sl, q⟩ := b4.slot b o e n h1 h2
    exact ⟨sl, k4 b _ (neC b o e) q⟩
  · rw [upd_ne (neD' b o e)]; exact b4.free b o e n h2
  · obtain ⟨o', q⟩ := b4.there b o e h2
    exact ⟨o', k4 b _ (neC b o e) q⟩
  · have q := b4.tups b xs e
    rw [upd_ne (ne_of_none q nD)]; exact q
  · have q := b4.frzs b o u e
    rw [upd_ne (ne_of_none q nD)]; exact q
  · obtain ⟨more, q⟩ := b4.tbls b ps e
    exact ⟨more, by rw [upd_ne (ne_of_none q nD)]; exact q⟩
  · have hk : HOk X.prog X.w H3 h' := fun b u e => (I4.hok b u e).stay (fun c v hc q => k4 c v (fun z => by
      subst z
      rcases hc with hc | hc
      · subst hc; rw [nC] at e; cases e
      · rw [nC] at hc; cases hc) q) (fun _ q => q) fun _ _ q => q
    refine hk.track nD ⟨hz, us, us.length, hv, k4 _ _ (Nat.ne_of_lt (Nat.lt_succ_self _)) eD⟩
theorem comp_core {elt tg iter : Expr} {ifs : List Expr} {sc : Scope} {pos : Pos} {own : List Str} {fr : List (Str × Nat)} {cl : List (Str × Addr)} {g : TG} {tt : TT} {te : TE} {RR : Value → Addr → Result → Shared → Prop} {E : Value → Shared → Prop}
    {pins : List (Addr × Obj)} {σ : St} {H2 : Hp} {s2 : Shared} {Q : VK} {it : Addr} {fp : List Addr} {tn : Nat → Heap → Prop} {J : It} (hc : X.calm = true) (S : CompSc sc) (C : Caps X sc cl fr)
    (hg : ∀ s H fp, PG (compCx X (own ++ fr.map (·.1)) sc cl s H fp) tg g) (hfr : ∀ σ, Fresh g (compSt own fr σ)) (ht : ∀ s H fp, PTs (compCx X (own ++ fr.map (·.1)) sc cl s H fp) ifs tt)
    (he : ∀ s H fp, PE (compCx X (own ++ fr.map (·.1)) sc cl s H fp) elt te) (I2 : Inv X pins σ H2 s2) (T : Turn X.prog X.w X.K tg J fp it tn) (st2 : tn 0 s2.heap) (f2 : ∀ b ∈ fp, FpOk X pins H2 b) (hW : LCb own fr g tt te σ Q J H2)
    (hRR : ∀ s5 H4 ys us, Inv (compCx X (own ++ fr.map (·.1)) sc cl s2 H2 fp) [(s2.heap.objs.size, accObj us)] (compSt own fr σ) H4 s5 → Vals ys us → ys.length ≤ sizeLine → (∀ p, H4 p = none → Q (.ref p) (upd H4 p (.lst ys))) →
      RR (.ref s2.heap.objs.size) (s2.heap.objs.size + 1) (.ok .next) s5) :
    wpAny (model X.prog X.w) X.A (newList []) (fun acc s3 => wpAny (model X.prog X.w) X.A (newFunctionEnv sc X.env.globals cl [] X.env.qual none .none (some X.env)) (fun ce s4 =>
      codeAny (model X.prog X.w) X.A (.compStart (.ListComp elt [⟨tg, iter, ifs, 0⟩] sc pos) 0 (.ref it) acc { ce with scope := relabel sc X.env }) (RR acc ce.locals) s4) E s3) E s2 := by
  obtain ⟨W, ⟨m0, w0⟩, turn⟩ := hW
  have fpl : ∀ b ∈ fp, b < s2.heap.objs.size := fun b hb => by
    obtain ⟨o, e, _⟩ := T.obj _ _ st2 b hb
    exact Heap.lt_size e
  refine wpAny_newObj_type (wpAny_newFunctionEnv S.cell (by intro y hy; simp at hy) (fun h₁ hns₁ hsb₁ => ?_) S.kind)
  dsimp only at hns₁ hsb₁ ⊢
  generalize hH2 : s2.heap.push { cls := .type "list", dict := none, data := .seq ([] : List Value).toArray } = G at hns₁ hsb₁ ⊢
  have hC : G.objs.size = s2.heap.objs.size + 1 := by rw [← hH2, Heap.size_push]
  rw [hC] at hns₁ hsb₁ ⊢
  have old : ∀ b o, s2.heap.get? b = some o → h₁.get? b = some o := fun b o e => by
    exact hsb₁.extBut b o (Nat.ne_of_lt (Nat.lt_succ_of_lt (Heap.lt_size e))) (Heap.get?_push_of_some _ (hH2 ▸ Heap.get?_push_of_some _ e))
  have hacc : h₁.get? s2.heap.objs.size = some (accObj []) := hsb₁.extBut _ _ (Nat.ne_of_lt (Nat.lt_succ_self _)) (Heap.get?_push_of_some _ (hH2 ▸ Heap.get?_push_size _ rfl))
  have I3 := I2.block (own := own) (tk := s2.toks + ([] : List (Str × Value)).length) f2 fpl S C old hns₁ hacc
  have stat : ∀ {H' : Hp} {us : List Value}, (∀ b ∈ fp, H' b = none) → ∀ b ∈ fp, FpOk (compCx X (own ++ fr.map (·.1)) sc cl s2 H2 fp) [(s2.heap.objs.size, accObj us)] H' b := fun {H' us} hn b hb => by
    obtain ⟨_, g1, g2, g3, g4, g5⟩ := f2 b hb
    have hbl := fpl b hb
    refine ⟨hn b hb, ?_, I2.stkNot g1 g2, .inl hb, fun x c e => g4 x c (C.sub x c e), fun p hp => ?_⟩
    · exact Nat.ne_of_lt (Nat.lt_succ_of_lt hbl)
    · have hp' : p = (s2.heap.objs.size, accObj us) := by simpa [compCx] using hp
      subst hp'
      exact Nat.ne_of_gt hbl
  have loop : ∀ s3 : Shared, s3 = { s2 with heap := h₁, toks := s2.toks + ([] : List (Str × Value)).length } →
      codeAny (model X.prog X.w) X.A (.compLoop (.ListComp elt [⟨tg, iter, ifs, 0⟩] sc pos) 0 (.ref it) (.ref s2.heap.objs.size) (compEnvC sc cl (s2.heap.objs.size + 1) X.env))
        (RR (.ref s2.heap.objs.size) (s2.heap.objs.size + 1)) s3 := by
    rintro s3 rfl
    refine comp_loop (fun n s' => ∃ i ys us H', Vals ys us ∧ Inv (compCx X (own ++ fr.map (·.1)) sc cl s2 H2 fp) [(s2.heap.objs.size, accObj us)] (compSt own fr σ) H' s' ∧ tn i s'.heap ∧ (∀ b ∈ fp, H' b = none) ∧ ys.length ≤ sizeLine ∧ W i n ys H') ?_ m0
      ⟨0, [], [], H2, .nil, I3, T.keep _ _ _ st2 fun b _ o e => old b o e, fun b hb => (f2 b hb).1, Nat.zero_le _, w0⟩
    rintro n s4 ⟨i, ys, us, H4, hv, I4, st4, fr4, hz, w4⟩
    rcases turn i n ys H4 w4 with ⟨stop, fin⟩ | ⟨go, hlt, step⟩
    · refine thn (T.done (compCx X (own ++ fr.map (·.1)) sc cl s2 H2 fp) rfl rfl rfl hc i _ s4 _ H4 _ I4 (stat fr4) st4 stop) fun r s5 ⟨hr, I5⟩ => ?_
      subst hr
      exact hRR s5 H4 ys us I5 hv hz fin
    · refine thn (T.item (compCx X (own ++ fr.map (·.1)) sc cl s2 H2 fp) rfl rfl rfl hc i _ s4 _ H4 _ I4 (stat fr4) st4 go) fun r s5 ⟨u, hr, h5⟩ => ?_
      subst hr
      refine thn h5 fun _ s6 ⟨x, H6, I6, r6, y6, st6, fr6⟩ => ?_
      have I6' := I6.pinned (stat fr6) (T.obj _ _ st6)
      refine thn (hg s2 H2 fp _ s6 _ H6 x u _ I6' r6 (hfr σ x H6 _ (step x H6 y6))) fun _ s7 ⟨σ7, H7, I7, k7, q7⟩ => ?_
      refine thn (ht s2 H2 fp _ s7 σ7 H7 _ I7 q7) fun ok s8 ⟨H8, I8, q8⟩ => ?_
      have fps : ∀ {pins' : List (Addr × Obj)} {σ' : St} {H' : Hp} {s' : Shared}, Inv (compCx X (own ++ fr.map (·.1)) sc cl s2 H2 fp) ([(s2.heap.objs.size, accObj us)] ++ pinsAt fp s6.heap) σ' H' s' → ∀ b ∈ fp, (∀ o, s6.heap.get? b = some o → s'.heap.get? b = some o) ∧ H' b = none := fun {pins' σ' H' s'} I' b hb => by
        obtain ⟨o, e, _⟩ := T.obj _ _ st6 b hb
        have z := I'.pin (b, o) (List.mem_append_right _ (List.mem_append_right _ (mem_pinsAt hb e)))
        exact ⟨fun o' e' => by rw [e] at e'; cases e'; exact z.1, z.2.1⟩
      cases ok with
      | false =>
        rw [if_neg Bool.false_ne_true] at q8
        obtain ⟨m', hm, w8⟩ := q8
        rw [if_neg Bool.false_ne_true]
        exact ⟨m', hm, i + 1, ys, us, H8, hv, (I8.unpinned).weak k7.1 k7.2, T.keep _ _ _ st6 fun b hb o e => (fps (pins' := []) I8 b hb).1 o e, fun b hb => (fps (pins' := []) I8 b hb).2, hz, w8⟩
      | true =>
        rw [if_pos rfl] at q8
        rw [if_pos rfl]
        refine thn (he s2 H2 fp _ s8 σ7 H8 _ I8 q8) fun y s9 ⟨v, H9, I9, r9, m', hm, w9⟩ => ?_
        have pD := I9.pin (s2.heap.objs.size, accObj us) (List.mem_append_right _ (List.mem_append_left _ (by simp)))
        have zD : s9.heap.get? s2.heap.objs.size = some (accObj us) := pD.1
        have nD : H9 s2.heap.objs.size = none := pD.2.1
        refine append_at (hsz := by show us.toArray.size ≤ sizeLine; rw [List.size_toArray, ← hv.length]; exact hz) zD fun h5 hs5 hD5 => ?_
        have Ia : Inv (compCx X (own ++ fr.map (·.1)) sc cl s2 H2 fp) (pinsAt fp s6.heap) σ7 H9 s9 := I9.pins_of fun p hp => I9.pin p (List.mem_append_right _ (List.mem_append_right _ hp))
        have neD : s2.heap.objs.size ≠ s2.heap.objs.size + 1 := Nat.ne_of_lt (Nat.lt_succ_self _)
        have Ib : Inv (compCx X (own ++ fr.map (·.1)) sc cl s2 H2 fp) (pinsAt fp s6.heap) σ7 H9 { s9 with heap := h5, toks := s9.toks } := Ia.turned (it := s2.heap.objs.size) (fun b o hb e => hs5.extBut b o hb e) nD neD (.inr (Nat.le_refl _)) (fun x c e z => by
            obtain ⟨v', q⟩ := I2.cell x c (C.sub x c e)
            have q' := q.lt
            rw [z] at q'
            exact Nat.lt_irrefl _ q') fun p hp z => by
            have hp' : p ∈ pinsAt fp s6.heap := by simpa [compCx] using hp
            have q' := fpl p.1 (of_pinsAt hp').1
            rw [z] at q'
            exact Nat.lt_irrefl _ q'
        have Ic : Inv (compCx X (own ++ fr.map (·.1)) sc cl s2 H2 fp) [(s2.heap.objs.size, accObj (us ++ [y]))] σ7 H9 { s9 with heap := h5, toks := s9.toks } := Ib.pins_of fun p hp => by
          have hp' : p = (s2.heap.objs.size, accObj (us ++ [y])) := by simpa using hp
          subst hp'
          exact ⟨hD5.trans (congrArg some (acc_snoc us y)), nD, neD, pD.2.2.2.1, fun v z => by cases z⟩
        refine ⟨m', hm, i + 1, ys ++ [v], us ++ [y], H9, hv.append (.cons r9 .nil), Ic.weak k7.1 k7.2, T.keep _ _ _ st6 fun b hb o e => ?_, fun b hb => (fps (pins' := []) I9 b hb).2, ?_, w9⟩
        · exact hs5.extBut b o (Nat.ne_of_lt (fpl b hb)) ((fps (pins' := []) I9 b hb).1 o e)
        · rw [List.length_append]; exact hlt
  exact codeAny_compStart_list (loop _ rfl) (T.self _ 0 _ _ _ (T.keep _ _ _ st2 fun b _ o e => old b o e) (loop _ rfl))
theorem pe_lcomp {elt tg iter : Expr} {ifs : List Expr} {sc : Scope} {pos : Pos} {own : List Str} {fr : List (Str × Nat)} {cl : List (Str × Addr)} {wi : TI} {g : TG} {tt : TT} {te : TE} (hc : X.calm = true) (hi : PI X tg iter wi) (S : CompSc sc) (C : Caps X sc cl fr)
    (hg : ∀ s H fp, PG (compCx X (own ++ fr.map (·.1)) sc cl s H fp) tg g) (hfr : ∀ σ, Fresh g (compSt own fr σ)) (ht : ∀ s H fp, PTs (compCx X (own ++ fr.map (·.1)) sc cl s H fp) ifs tt)
    (he : ∀ s H fp, PE (compCx X (own ++ fr.map (·.1)) sc cl s H fp) elt te) (hs : ∀ x, foldedSetIterable iter X.env x = pure x := by intro _; rfl) :
    PE X (.ListComp elt [⟨tg, iter, ifs, 0⟩] sc pos) (tLC own fr wi g tt te) := by
  intro pins s σ H Q I h
  rw [eval_ListComp]
  refine wpAny_comprehension_free (use := none) rfl hs C.clos S.kind S.nms (thn (hi pins s σ H _ I h) fun xv s1 h1 => thn h1 fun itv s2 h2 => ?_)
  obtain ⟨it, fp, tn, J, H2, e, I2, T, st2, f2, hW⟩ := h2
  subst e
  refine comp_core (RR := fun acc A => compPost (model X.prog X.w) X.A X.xe none (EP X pins σ Q) acc A) hc S C hg hfr ht he I2 T st2 f2 hW fun s5 H4 ys us I5 hv hz fin => ?_
  obtain ⟨m5, hn5, _⟩ := id I5.loc
  have nD : H4 s2.heap.objs.size = none := (I5.pin (s2.heap.objs.size, accObj us) (List.mem_append_right _ (by simp))).2.1
  exact ⟨m5, hn5, fun h' hs' => ⟨.ref s2.heap.objs.size, upd H4 s2.heap.objs.size (.lst ys), I2.unblock f2 I5 hv hz hs', rfl, fin _ nD⟩⟩
theorem ps_setC {i : Nat} {y : Str} {py spos : Pos} {elt tg iter : Expr} {ifs : List Expr} {sc : Scope} {pos : Pos} {own : List Str} {fr : List (Str × Nat)} {cl : List (Str × Addr)} {wi : TI} {g : TG} {tt : TT} {te : TE} (hN : X.N.Nodup) (hy : X.N[i]? = some y)
    (hx : Loc X.env.scope y) (hc : X.calm = true) (hi : PI X tg iter wi) (S : CompSc sc) (C : Caps X sc cl fr)
    (hg : ∀ s H fp, PG (compCx X (own ++ fr.map (·.1)) sc cl s H fp) tg g) (hfr : ∀ σ, Fresh g (compSt own fr σ)) (ht : ∀ s H fp, PTs (compCx X (own ++ fr.map (·.1)) sc cl s H fp) ifs tt)
    (he : ∀ s H fp, PE (compCx X (own ++ fr.map (·.1)) sc cl s H fp) elt te) (hs : ∀ x, foldedSetIterable iter X.env x = pure x := by intro _; rfl)
    (hsw : swapsWith (.ListComp elt [⟨tg, iter, ifs, 0⟩] sc pos) (some (.Name y py)) spos.line X.env = pure true := by rfl) (hf : X.fn y = true ∨ X.env.scope.names.lookup y = some .local := by first | exact .inl rfl | exact .inr rfl | assumption) :
    PS X (.Assign [.Name y py] (.ListComp elt [⟨tg, iter, ifs, 0⟩] sc pos) spos) (tAsg (tLC own fr wi g tt te) (gName i)) := by
  intro pins s σ H D I h
  rw [exec_Assign_Name_used _ _ _ _ hsw]
  refine wpAny_bind (wpAny_standAt (wpAny_bind ?_))
  show wpAny _ X.A (do let _ ← comprehension (.ListComp elt [⟨tg, iter, ifs, 0⟩] sc pos) sc X.env _ (newList []) false (eval iter X.env) (some (assign (.Name y py) X.env))) _ _ s
  refine wpAny_bind (thn (wpAny_comprehension_free (use := some (assign (.Name y py) X.env)) (Q := fun _ s' => SP X pins D .next s') rfl hs C.clos S.kind S.nms
    (thn (hi pins s σ H _ I h) fun xv s1 h1 => thn h1 fun itv s2 h2 => ?_)) fun _ s' hq => wpAny_pure (wpAny_pure hq))
  obtain ⟨it, fp, tn, J, H2, e, I2, T, st2, f2, hW⟩ := h2
  subst e
  refine comp_core (RR := fun acc A => compPost (model X.prog X.w) X.A X.xe (some (assign (.Name y py) X.env)) (fun _ s' => SP X pins D .next s') acc A) hc S C hg hfr ht he I2 T st2 f2 hW fun s5 H4 ys us I5 hv hz fin => ?_
  obtain ⟨m5, hn5, _⟩ := id I5.loc
  have nD : H4 s2.heap.objs.size = none := (I5.pin (s2.heap.objs.size, accObj us) (List.mem_append_right _ (by simp))).2.1
  have nC : H4 (s2.heap.objs.size + 1) = none := I5.free
  have I6 : Inv X pins σ (upd H4 s2.heap.objs.size (.lst ys)) s5 := I2.unblock f2 I5 hv hz (Heap.SameBut.refl _ _)
  show wpAny _ X.A (assign (.Name y py) X.env (.ref s2.heap.objs.size)) _ _ s5
  refine wpAny_assign_Name (store_ok2 (v := .ref s2.heap.objs.size) I6 hN hy hx rfl (fun s7 I7 ⟨a, hsb, ha⟩ => ?_) hf)
  have Clt : s2.heap.objs.size < s2.heap.objs.size + 1 := Nat.lt_succ_self _
  have neL : s2.heap.objs.size + 1 ≠ X.env.locals := Nat.ne_of_gt (Nat.lt_trans I2.lt Clt)
  have neCell : ∀ x c, X.env.cells.lookup x = some c → c ≠ s2.heap.objs.size + 1 := fun x c e => by
    obtain ⟨v', q⟩ := I2.cell x c e
    exact Nat.ne_of_lt (Nat.lt_trans q.lt Clt)
  have neA : s2.heap.objs.size + 1 ≠ a := by
    rcases ha with rfl | ha
    · exact neL
    · exact Ne.symm (neCell _ _ ha)
  refine ⟨m5, hn5.sameBut hsb neA, fun h' hs' => ⟨_, _, ?_, fin _ nD⟩⟩
  exact I7.turned (it := s2.heap.objs.size + 1) (t' := s7.toks) (fun b o hb e => hs'.extBut b o hb e) (by rw [upd_ne (Nat.ne_of_gt Clt)]; exact nC) neL (.inr (Nat.le_trans I2.sz (Nat.le_of_lt Clt))) neCell fun p hp z => by
    have q := Heap.lt_size (I2.pin p hp).1
    rw [z] at q
    exact absurd (Nat.lt_trans Clt q) (Nat.lt_irrefl _)
end
end L2
namespace L2
open PySem PySem.Spec PyProof.Rows
section
variable {X : Cx} {tg : Expr}
end
section
variable {X : Cx}
theorem call_isinst : CallR X (.builtin "isinstance") (fun xs H Q => ∃ x T t b, xs = [x, .ty T] ∧ TyOf X.K H x t ∧ PySem.W.kitOne X.K t (.type T) = some b ∧ Q (.bl b) H) := by
  intro pins s σ H xs us Q I r h
  obtain ⟨x, T, t, b, rfl, ty, e, q⟩ := h
  obtain ⟨u, v, rfl, ru, rv⟩ := vals2 r
  cases (show v = Value.type T from rv)
  exact isinst_ok I ru ty e fun tk => ⟨.bl b, H, I.tok tk, rfl, q⟩
theorem op_eqNil (hu : X.A.units < cLine) : OpR X (compareOp .Eq) (fun x y H Q => ∃ a b xs, x = .ref a ∧ y = .ref b ∧ SqL X.K H a xs ∧ SqL X.K H b [] ∧ Q (.bl (decide (xs = []))) H) := by
  intro pins s σ H x y v u Q I rx ry h
  obtain ⟨a, b, xs, rfl, rfl, ha, hb, q⟩ := h
  cases rx
  cases ry
  obtain ⟨its, rv, p, hz⟩ := I.list ha
  obtain ⟨its2, rv2, p2, _⟩ := I.list hb
  cases rv2
  cases rv with
  | nil => exact PySem.SeqAt.eq_listAt (e := fun _ => true) p.isList p2.isList rfl hu (fun j h1 _ => absurd h1 (by simp)) ⟨.bl true, H, I, rfl, by simpa using q⟩
  | cons r1 r2 => exact PySem.SeqAt.eq_list_lengthsAt p.isList p2.isList (by simp) hu ⟨.bl false, H, I, rfl, by simpa using q⟩
end
section
variable {X : Cx} {pins : List (Addr × Obj)} {σ σ' : St} {H H' : Hp} {s s' : Shared}
theorem Inv.track {a : Addr} {o : HO} (I0 : Inv X pins σ H s) (I : Inv X pins σ' H' s') (ha : s.heap.objs.size ≤ a) (hn : H' a = none) (new : ObjOk X.prog X.w (upd H' a o) s'.heap a o) : Inv X pins σ' (upd H' a o) s' := by
  have ne : ∀ b, b < s.heap.objs.size → b ≠ a := fun b hb z => by omega
  refine ⟨I.ok, I.os, I.bare, ⟨I.base.keep, I.base.slot, fun b u e n hx => ?_, I.base.there, fun b xs e => ?_, fun b u xs e => ?_, fun b ps e => ?_⟩, I.loc, I.cell, ?_, fun x c e => ?_, fun p hp => ?_, I.hok.track hn new, I.len⟩
  · rw [upd_ne (ne b (Nat.lt_of_lt_of_le (Heap.lt_size e) I0.sz))]
    exact I.base.free b u e n hx
  · have q := I.base.tups b xs e
    rw [upd_ne (ne_of_none q hn)]; exact q
  · have q := I.base.frzs b u xs e
    rw [upd_ne (ne_of_none q hn)]; exact q
  · obtain ⟨more, q⟩ := I.base.tbls b ps e
    exact ⟨more, by rw [upd_ne (ne_of_none q hn)]; exact q⟩
  · rw [upd_ne (ne _ I0.lt)]; exact I.free
  · obtain ⟨v, q⟩ := I0.cell x c e
    rw [upd_ne (ne _ q.lt)]; exact I.freeC x c e
  · obtain ⟨h1, h2, h3⟩ := I.pin p hp
    refine ⟨h1, ?_, h3⟩
    rw [upd_ne (ne _ (Heap.lt_size (I0.pin p hp).1))]; exact h2
theorem Inv.turnedN {t' : Nat} {h' : Heap} {ch : List Addr} (I : Inv X pins σ H s) (hf : ∀ b ∈ ch, FpOk X pins H b) (k : ∀ b o, b ∉ ch → s.heap.get? b = some o → h'.get? b = some o) : Inv X pins σ H { s with heap := h', toks := t' } := by
  have nch : ∀ b u, H b = some u → b ∉ ch := fun b u e z => by rw [(hf b z).1] at e; cases e
  refine I.step (g' := s.gens) (d' := s.drawn) (ch := ch) (fun b hb => ⟨(hf b hb).2.2.2.1, (hf b hb).2.1, (hf b hb).2.2.2.2.1, (hf b hb).2.2.2.2.2⟩) (fun b o _ _ hc e _ => k b o hc e) (fun b o _ _ hc e _ => ⟨o.slots, k b o hc e⟩) (fun _ _ _ _ n => n)
    (fun b o hc e => ⟨o, k b o hc e⟩) (fun _ _ e => e) (fun _ _ _ e => e) (fun b ps e => ⟨#[], by rw [e]; simp⟩) (fun m hm => ?_) (fun b u e => ?_) I.bare
  · obtain ⟨o, es, ep, ho, r⟩ := hm
    exact ⟨o, es, ep, k _ o (fun z => (hf _ z).2.1 rfl) ho, r⟩
  · refine (I.hok b u e).stay (fun c v hc q => k c v ?_ q) (fun _ q => q) fun _ _ q => q
    rcases hc with z | z
    · rw [z]; exact nch b u e
    · exact nch c _ z
end
section
variable {X : Cx}
end
end L2
namespace L2
open PySem PySem.Spec PyProof.Rows
theorem relabel_kind {sc : Scope} {env : Env} {x : Str} {k : NameKind} (h : (relabel sc env).names.lookup x = some k) : ∃ y ∈ sc.names, y.2 = k ∨ y.2 = .free := by
  have hm := PySem.mem_of_lookup h
  obtain ⟨y, hy, e⟩ := List.mem_map.mp hm
  refine ⟨y, hy, ?_⟩
  obtain ⟨n, k0⟩ := y
  dsimp only at e
  split at e
  · rename_i hc
    rw [Bool.and_eq_true, Bool.and_eq_true] at hc
    exact .inr (beq_iff_eq.mp hc.1.1)
  · cases e
    exact .inl rfl
theorem caps0 {X : Cx} {sc : Scope} (h : ∀ y ∈ sc.names, y.2 ≠ .free ∧ y.2 ≠ .cell) : Caps X sc [] [] where
  clos := closureFor_none fun y hy => (h y hy).1
  sub := fun x c e => by cases e
  has := fun x e => by
    exfalso
    rcases e with e | e <;> obtain ⟨y, hy, z⟩ := relabel_kind e <;> rcases z with z | z
    · exact (h y hy).2 z
    · exact (h y hy).1 z
    · exact (h y hy).1 z
    · exact (h y hy).1 z
  cap := fun p hp => nomatch hp
theorem Same.up {H H' : Hp} {p : Addr} {o : HO} (e : Same H H') (h : H' p = none) : Same H (upd H' p o) := fun b u q => by
  rw [upd_ne (ne_of_none (e b u q) h)]
  exact e b u q
theorem Same.new {H : Hp} {p : Addr} {o : HO} (h : H p = none) : Same H (upd H p o) := (Same.refl H).up h
theorem Same.wr {H H' : Hp} {p : Addr} {o : HO} (e : Same H H') (h : H p = none) : Same H (upd H' p o) := fun b u q => by
  rw [upd_ne (ne_of_none q h)]
  exact e b u q
section
variable {X : Cx}
def rIxA (K : PySem.W.Frag) : R2 := fun x y H Q => ∃ p xs i, x = .ref p ∧ y = .int i ∧ SqL K H p xs ∧ 0 ≤ i ∧ i < (xs.length : Int) ∧ ∀ v ∈ xs, Q v H
theorem ix_any : IxR X (rIxA X.K) := by
  intro value slice pins s σ H x y v u Q I rx ry h hs
  obtain ⟨p, xs, i, ex, ey, hq, h0, h1, q⟩ := h
  obtain ⟨j, rfl⟩ := Int.eq_ofNat_of_zero_le h0
  have hj : j < xs.length := by omega
  exact ix_list value slice pins s σ H x y v u Q I rx ry ⟨p, xs, j, xs[j], ex, ey, hq, atI_nat (List.getElem?_eq_getElem hj), q _ (List.getElem_mem hj)⟩ hs
end
theorem atI_in {α : Type} (xs : List α) (i : Int) (h0 : 0 ≤ i) (h1 : i < (xs.length : Int)) : ∃ v, atI xs i = some v := by
  obtain ⟨j, rfl⟩ := Int.eq_ofNat_of_zero_le h0
  have hj : j < xs.length := by omega
  exact ⟨xs[j], atI_nat (List.getElem?_eq_getElem hj)⟩
theorem mod_lo (x : Int) {m : Int} (h : 0 < m) : 0 ≤ x % m := Int.emod_nonneg _ (by omega)
theorem mod_hi (x : Int) {m : Int} (h : 0 < m) : x % m < m := Int.emod_lt_of_pos _ h
section
variable {X : Cx} {es : List Expr} {t : TA} {pos : Pos}
def tTupA (t : TA) : TE := fun σ H Q => t σ H fun xs H1 => xs.length ≤ sizeLine ∧ ∀ p H', H1 p = none → Same H1 H' → H' p = some (.tup xs) → Q (.ref p) H'
def tLstA (t : TA) : TE := fun σ H Q => t σ H fun xs H1 => xs.length ≤ sizeLine ∧ ∀ p H', H1 p = none → Same H1 H' → H' p = some (.lst xs) → Q (.ref p) H'
theorem pe_tupA {x1} (h : PA X es t) : PE X (.Tuple es x1 pos) (tTupA t) := by
  intro pins s σ H Q I hq
  refine wpAny_Tuple_spliced (thn (h pos pins s σ H _ I hq) fun us s1 ⟨xs, H1, I1, r, z, q⟩ => ⟨by rw [← r.length]; exact z, ?_⟩)
  have hf : H1 s1.heap.objs.size = none := I1.hok.fresh (Nat.le_refl _)
  refine ⟨.ref s1.heap.objs.size, upd H1 s1.heap.objs.size (.tup xs), I1.laid (t' := s1.toks) (fun b u e => Heap.get?_push_of_some _ e) (Nat.le_refl _) ?_, rfl, q _ _ hf (Same.new hf) upd_same⟩
  exact ⟨z, us, r, ⟨_, Heap.get?_push_size _ rfl, rfl, _, rfl⟩⟩
theorem pe_lstA (h : PA X es t) : PE X (.List es pos) (tLstA t) := by
  intro pins s σ H Q I hq
  refine wpAny_List_spliced (thn (h pos pins s σ H _ I hq) fun us s1 ⟨xs, H1, I1, r, z, q⟩ => ⟨by rw [← r.length]; exact z, ?_⟩)
  have hf : H1 s1.heap.objs.size = none := I1.hok.fresh (Nat.le_refl _)
  refine ⟨.ref s1.heap.objs.size, upd H1 s1.heap.objs.size (.lst xs), I1.laid (t' := s1.toks) (fun b u e => Heap.get?_push_of_some _ e) (Nat.le_refl _) ?_, rfl, q _ _ hf (Same.new hf) upd_same⟩
  exact ⟨z, us, 0, r, Heap.get?_push_size _ rfl⟩
theorem OpR.imp {f : Value → Value → Sem Value} {r r' : R2} (h : OpR X f r) (i : ∀ x y H Q, r' x y H Q → r x y H Q) : OpR X f r' := fun pins s σ H x y v u Q I rx ry q => h pins s σ H x y v u Q I rx ry (i x y H Q q)
theorem SlR.imp {r r' : V → Option Int → Option Int → Hp → VK → Prop} (h : SlR X r) (i : ∀ x lo hi H Q, r' x lo hi H Q → r x lo hi H Q) : SlR X r' := fun pins s σ H x v vl vu lo hi sl Q I rx hs pl pu q => h pins s σ H x v vl vu lo hi sl Q I rx hs pl pu (i x lo hi H Q q)
def rCatA : R2 := fun x y H Q => ∃ l b xs zs, x = .ref l ∧ y = .ref b ∧ H l = some (.lst xs) ∧ H b = some (.lst zs) ∧ xs.length + zs.length ≤ sizeLine ∧ ∀ p H', H p = none → Same H H' → H' p = some (.lst (xs ++ zs)) → Q (.ref p) H'
theorem op_catA : OpR X (binaryOp .Add) rCatA := op_cat.imp fun _ _ _ _ ⟨l, b, xs, zs, h1, h2, h3, h4, h5, q⟩ => ⟨l, b, xs, zs, h1, h2, h3, h4, h5, fun p hp => q p _ hp (Same.new hp) upd_same⟩
def rSlLA (K : PySem.W.Frag) : V → Option Int → Option Int → Hp → VK → Prop := fun x lo hi H Q => ∃ a xs, x = .ref a ∧ SqL K H a xs ∧ ∀ p H', H p = none → Same H H' → H' p = some (.lst (cutV xs lo hi)) → Q (.ref p) H'
theorem sl_listA : SlR X (rSlLA X.K) := sl_list.imp fun _ _ _ _ _ ⟨a, xs, h1, h2, q⟩ => ⟨a, xs, h1, h2, fun p hp => q p _ hp (Same.new hp) upd_same⟩
end
end L2
namespace L2
open PySem PySem.Spec PyProof.Rows
def clo (env : Env) : List (Str × NameKind) → List (Str × Addr) → List (Str × Addr)
  | [], acc => acc
  | (n, k) :: r, acc => clo env r (if k == .free then (n, (env.cells.lookup n).getD 0) :: acc else acc)
theorem closure_clo {env : Env} {sc : Scope} (h : ∀ y ∈ sc.names, y.2 = .free → ∃ c, env.cells.lookup y.1 = some c) : closureFor sc env = pure (clo env sc.names []) := by
  have all : ∀ (names : List (Str × NameKind)) (acc : List (Str × Addr)), (∀ y ∈ names, y.2 = .free → ∃ c, env.cells.lookup y.1 = some c) →
      (forIn names acc fun x r => (match x with
        | (name, kind) => if (kind == NameKind.free) = true then do
            let a ← cellOf env name
            pure (ForInStep.yield ((name, a) :: r))
          else pure (ForInStep.yield r) : Sem (ForInStep (List (Str × Addr))))) = pure (clo env names acc) := by
    intro names
    induction names with
    | nil => intro acc _; rfl
    | cons x r ih =>
      intro acc hx
      obtain ⟨n, k⟩ := x
      rw [List.forIn_cons]
      cases hk : (k == NameKind.free) with
      | true =>
        obtain ⟨c, hc⟩ := hx (n, k) List.mem_cons_self (beq_iff_eq.mp hk)
        have e : cellOf env n = pure c := by unfold cellOf; rw [hc]
        dsimp only
        rw [if_pos hk, e]
        refine Eq.trans (by first | rfl | simp) ((ih ((n, c) :: acc) fun y hy => hx y (List.mem_cons_of_mem _ hy)).trans ?_)
        show _ = pure (clo env r (if (k == NameKind.free) = true then (n, (env.cells.lookup n).getD 0) :: acc else acc))
        rw [if_pos hk, show env.cells.lookup n = some c from hc]
        rfl
      | false =>
        dsimp only
        rw [if_neg (by rw [hk]; exact Bool.false_ne_true)]
        refine Eq.trans (by first | rfl | simp) ((ih acc fun y hy => hx y (List.mem_cons_of_mem _ hy)).trans ?_)
        show _ = pure (clo env r (if (k == NameKind.free) = true then (n, (env.cells.lookup n).getD 0) :: acc else acc))
        rw [if_neg (by rw [hk]; exact Bool.false_ne_true)]
  have e := all sc.names [] h
  show ((forIn sc.names [] fun x r => (match x with
        | (name, kind) => if (kind == NameKind.free) = true then do
            let a ← cellOf env name
            pure (ForInStep.yield ((name, a) :: r))
          else pure (ForInStep.yield r) : Sem (ForInStep (List (Str × Addr))))) >>= fun cs => pure cs) = _
  rw [e]
  rfl
theorem clo_sub {env : Env} : ∀ {names : List (Str × NameKind)} {acc : List (Str × Addr)}, (∀ y ∈ names, y.2 = .free → ∃ c, env.cells.lookup y.1 = some c) → (∀ x c, acc.lookup x = some c → env.cells.lookup x = some c) →
    ∀ x c, (clo env names acc).lookup x = some c → env.cells.lookup x = some c
  | [], _, _, h => h
  | (n, k) :: r, acc, hx, h => by
    refine clo_sub (names := r) (fun y hy => hx y (List.mem_cons_of_mem _ hy)) fun x c e => ?_
    cases hk : (k == NameKind.free) with
    | true =>
      rw [hk, if_pos rfl] at e
      obtain ⟨c', hc⟩ := hx (n, k) List.mem_cons_self (beq_iff_eq.mp hk)
      rw [List.lookup_cons] at e
      cases hxn : (x == n) with
      | true =>
        rw [hxn] at e
        have q := beq_iff_eq.mp hxn
        subst q
        have e' : (env.cells.lookup x).getD 0 = c := Option.some.inj e
        have hc' : env.cells.lookup x = some c' := hc
        rw [hc'] at e' ⊢
        exact congrArg some e'
      | false => rw [hxn] at e; exact h x c e
    | false => rw [hk, if_neg Bool.false_ne_true] at e; exact h x c e
theorem clo_has {env : Env} {x : Str} : ∀ {names : List (Str × NameKind)} {acc : List (Str × Addr)}, ((x, NameKind.free) ∈ names ∨ ∃ c, acc.lookup x = some c) → ∃ c, (clo env names acc).lookup x = some c
  | [], _, h => h.elim (fun z => nomatch z) id
  | (n, k) :: r, acc, h => by
    refine clo_has (names := r) ?_
    have put : ∀ c', ∃ c, ((n, c') :: acc).lookup x = some c ∨ (x ≠ n ∧ acc.lookup x = none) := fun c' => by
      rw [List.lookup_cons]
      cases hxn : (x == n) with
      | true => exact ⟨c', .inl rfl⟩
      | false =>
        cases ha : acc.lookup x with
        | some c => exact ⟨c, .inl rfl⟩
        | none => exact ⟨0, .inr ⟨fun z => by subst z; simp at hxn, rfl⟩⟩
    rcases h with h | ⟨c, h⟩
    · rcases List.mem_cons.mp h with q | q
      · cases q
        refine .inr ?_
        rw [if_pos (by rfl), List.lookup_cons]
        simp
      · exact .inl q
    · refine .inr ?_
      cases hk : (k == NameKind.free) with
      | true =>
        rw [if_pos (by rfl)]
        obtain ⟨c1, q | q⟩ := put ((env.cells.lookup n).getD 0)
        · exact ⟨c1, q⟩
        · rw [q.2] at h; cases h
      | false => rw [if_neg Bool.false_ne_true]; exact ⟨c, h⟩
theorem relabel_at {sc : Scope} {env : Env} {x : Str} {k : NameKind} (h : (relabel sc env).names.lookup x = some k) : ∃ y ∈ sc.names, y.1 = x ∧ (y.2 = k ∨ y.2 = .free) := by
  have hm := PySem.mem_of_lookup h
  obtain ⟨y, hy, e⟩ := List.mem_map.mp hm
  refine ⟨y, hy, ?_⟩
  obtain ⟨n, k0⟩ := y
  dsimp only at e
  split at e
  · rename_i hc
    rw [Bool.and_eq_true, Bool.and_eq_true] at hc
    cases e
    exact ⟨rfl, .inr (beq_iff_eq.mp hc.1.1)⟩
  · cases e
    exact ⟨rfl, .inl rfl⟩
theorem caps_of {X : Cx} {sc : Scope} {fr : List (Str × Nat)} (hX : ∀ x, X.env.kindOf x = some .cell → ∃ c, X.env.cells.lookup x = some c) (hcell : ∀ y ∈ sc.names, y.2 ≠ .cell)
    (hfree : ∀ y ∈ sc.names, y.2 = .free → X.env.kindOf y.1 = some .cell)
    (hcap : ∀ p ∈ fr, X.N[p.2]? = some p.1 ∧ X.env.kindOf p.1 = some .cell ∧ (relabel sc X.env).names.lookup p.1 = some .cell) : Caps X sc (clo X.env sc.names []) fr where
  clos := closure_clo fun y hy e => hX _ (hfree y hy e)
  sub := clo_sub (fun y hy e => hX _ (hfree y hy e)) fun x c e => by cases e
  has := fun x e => by
    refine clo_has (.inl ?_)
    rcases e with e | e <;> obtain ⟨y, hy, rfl, z⟩ := relabel_at e <;> rcases z with z | z
    · exact absurd z (hcell y hy)
    · rw [← z]; exact hy
    · rw [← z]; exact hy
    · rw [← z]; exact hy
  cap := fun p hp => by
    obtain ⟨h1, h2, h3⟩ := hcap p hp
    exact ⟨h1, by rw [h2]; decide, .inr (.inl h2), .inl h3⟩
theorem caps_def {X : Cx} {sc : Scope} {fr : List (Str × Nat)} (scX : Scope) (N : List Str) (h1 : X.env.scope = scX) (h2 : X.N = N) (hX : ∀ x, X.env.kindOf x = some .cell → ∃ c, X.env.cells.lookup x = some c)
    (hcell : ∀ y ∈ sc.names, y.2 ≠ .cell) (hfree : ∀ y ∈ sc.names, y.2 = .free → scX.names.lookup y.1 = some .cell)
    (hcap : ∀ p ∈ fr, N[p.2]? = some p.1 ∧ scX.names.lookup p.1 = some .cell ∧ (relabel sc { scope := scX, locals := 0, globals := 0, cells := [] }).names.lookup p.1 = some .cell) : Caps X sc (clo X.env sc.names []) fr := by
  refine caps_of hX hcell (fun y hy e => ?_) fun p hp => ?_
  · show X.env.scope.names.lookup y.1 = some .cell
    rw [h1]
    exact hfree y hy e
  · obtain ⟨a, b, c⟩ := hcap p hp
    refine ⟨by rw [h2]; exact a, ?_, ?_⟩
    · show X.env.scope.names.lookup p.1 = some .cell
      rw [h1]
      exact b
    · have e : relabel sc X.env = relabel sc { scope := scX, locals := 0, globals := 0, cells := [] } := by
        unfold relabel Env.kindOf
        rw [h1]
      rw [e]
      exact c
section
variable {X : Cx}
theorem CallR.imp {f : Value} {r r' : List V → Hp → VK → Prop} (h : CallR X f r) (i : ∀ xs H Q, r' xs H Q → r xs H Q) : CallR X f r' := fun pins s σ H xs us Q I rv q => h pins s σ H xs us Q I rv (i xs H Q q)
def rLstA (K : PySem.W.Frag) : List V → Hp → VK → Prop := fun xs H Q => ∃ p ys, xs = [.ref p] ∧ (SqL K H p ys ∨ SqT K H p ys) ∧ ∀ l H', H l = none → Same H H' → H' l = some (.lst ys) → Q (.ref l) H'
theorem call_lstA : CallR X (.type "list") (rLstA X.K) := call_list_of.imp fun _ _ _ ⟨p, ys, h1, h2, q⟩ => ⟨p, ys, h1, h2, fun l hl => q l _ hl (Same.new hl) upd_same⟩
end
end L2
namespace L2
open PySem PySem.Spec PyProof.Rows
theorem lc_any {K : PySem.W.Frag} {a : Addr} {xs : List V} {own : List Str} {fr : List (Str × Nat)} {g : TG} {tt : TT} {te : TE} {σ : St} {H : Hp} {Q : VK} (hz : xs.length ≤ sizeLine) (Pv : Nat → List V → Hp → Prop) (h0 : Pv 0 [] H) (hl : ∀ i ys H, Pv i ys H → SqL K H a xs)
    (hs : ∀ i x ys H' (K1 : V → Hp → Prop) (K0 : Hp → Prop), xs[i]? = some x → Pv i ys H' → (∀ y H4, Pv (i + 1) (ys ++ [y]) H4 → K1 y H4) → (∀ H3, Pv (i + 1) ys H3 → K0 H3) →
      g x (compSt own fr σ) H' fun σ2 H2 => tt σ2 H2 fun b H3 => if b = true then te σ2 H3 K1 else K0 H3)
    (hd : ∀ H' p ys, Pv xs.length ys H' → ys.length ≤ xs.length → H' p = none → Q (.ref p) (upd H' p (.lst ys))) : LCb own fr g tt te σ Q (Itl K a) H := by
  refine ⟨fun i m ys H => m = xs.length - i ∧ i ≤ xs.length ∧ ys.length ≤ i ∧ Pv i ys H, ⟨xs.length, by simp, Nat.zero_le _, Nat.zero_le _, h0⟩, ?_⟩
  rintro i m ys H ⟨rfl, hi, hy, p⟩
  by_cases hlt : i < xs.length
  · refine .inr ⟨⟨xs, xs[i], hl _ _ H p, by simp [hlt]⟩, by omega, fun x H' y => ?_⟩
    obtain ⟨rfl, y⟩ := y
    have hc := y xs (hl _ _ _ p)
    refine hs i x ys H' _ _ hc p (fun y H4 p4 => ⟨xs.length - (i + 1), by omega, rfl, hlt, ?_, p4⟩) fun H3 p3 => ⟨xs.length - (i + 1), by omega, rfl, hlt, by omega, p3⟩
    rw [List.length_append, List.length_singleton]
    omega
  · have e : i = xs.length := by omega
    subst e
    exact .inl ⟨⟨xs, hl _ _ H p, Nat.le_refl _⟩, fun q hq => hd H q ys p hy hq⟩
theorem lc_range {lo : Int} {n : Nat} {own : List Str} {fr : List (Str × Nat)} {g : TG} {tt : TT} {te : TE} {σ : St} {H : Hp} {Q : VK} (hz : n ≤ sizeLine) (Pv : Nat → List V → Hp → Prop) (h0 : Pv 0 [] H)
    (hs : ∀ i ys H' (K1 : V → Hp → Prop) (K0 : Hp → Prop), i < n → Pv i ys H' → (∀ y H4, Pv (i + 1) (ys ++ [y]) H4 → K1 y H4) → (∀ H3, Pv (i + 1) ys H3 → K0 H3) →
      g (.int (lo + i)) (compSt own fr σ) H' fun σ2 H2 => tt σ2 H2 fun b H3 => if b = true then te σ2 H3 K1 else K0 H3)
    (hd : ∀ H' p ys, Pv n ys H' → ys.length ≤ n → H' p = none → Q (.ref p) (upd H' p (.lst ys))) : LCb own fr g tt te σ Q (Itr lo n) H := by
  refine ⟨fun i m ys H => m = n - i ∧ i ≤ n ∧ ys.length ≤ i ∧ Pv i ys H, ⟨n, by simp, Nat.zero_le _, Nat.zero_le _, h0⟩, ?_⟩
  rintro i m ys H ⟨rfl, hi, hy, p⟩
  by_cases hlt : i < n
  · refine .inr ⟨hlt, by omega, fun x H' y => ?_⟩
    obtain ⟨rfl, rfl⟩ := y
    refine hs i ys H' _ _ hlt p (fun y H4 p4 => ⟨n - (i + 1), by omega, rfl, hlt, ?_, p4⟩) fun H3 p3 => ⟨n - (i + 1), by omega, rfl, hlt, by omega, p3⟩
    rw [List.length_append, List.length_singleton]
    omega
  · have e : i = n := by omega
    subst e
    exact .inl ⟨Nat.le_refl _, fun q hq => hd H q ys p hy hq⟩
section
variable {X : Cx} {pins : List (Addr × Obj)} {σ : St} {H : Hp} {s : Shared}
end
section
variable {X : Cx} {K : PySem.W.Frag}
theorem ix_tupK (h : X.K = K) : IxR X (rIxT K) := h ▸ ix_tup
def rIsi (K : PySem.W.Frag) : List V → Hp → VK → Prop := fun xs H Q => ∃ x T t b, xs = [x, .ty T] ∧ TyOf K H x t ∧ PySem.W.kitOne K t (.type T) = some b ∧ Q (.bl b) H
theorem call_isinstK (h : X.K = K) : CallR X (.builtin "isinstance") (rIsi K) := h ▸ call_isinst
end
theorem SqL.same {K : PySem.W.Frag} {H H' : Hp} {a : Addr} {xs : List V} (h : SqL K H a xs) (s : Same H H') : SqL K H' a xs := by
  rcases h with (h | ⟨o, h⟩) | h
  · exact .inl (.inl (s _ _ h))
  · exact .inl (.inr ⟨o, s _ _ h⟩)
  · exact .inr h
end L2
namespace L2
open PySem PySem.Spec PyProof.Rows
section
variable {X : Cx}
theorem strs_of : ∀ {ys : List Str} {us : List Value}, Vals (ys.map V.str) us → StrsAre us ys
  | [], _, h => by cases h; exact .nil
  | y :: ys, _, h => by
    cases h with
    | cons r t =>
      obtain ⟨k, rfl⟩ := r
      exact .cons y k (strs_of t)
def rJoin (K : PySem.W.Frag) : V → List V → Hp → VK → Prop := fun x vs H Q => ∃ sep p ys, x = .str sep ∧ vs = [.ref p] ∧ SqL K H p (List.map V.str ys) ∧ (ys.map (·.length)).sum + ys.length * sep.length ≤ 16777216 ∧ Q (.str (Txt.join sep ys)) H
theorem mt_join : MtM X "str.join" (rJoin X.K) := by
  intro pins s σ H x vs v us Q I rx rv h
  obtain ⟨sep, p, ys, rfl, rfl, hq, hz, q⟩ := h
  obtain ⟨t, rfl⟩ := rx
  obtain ⟨u, rfl, ru⟩ := rv.one
  cases ru
  obtain ⟨its, r, pl, _⟩ := I.list hq
  exact join_list pl.isList (strs_of r) hz fun t' k => ⟨.str (Txt.join sep ys), H, I.tok _, ⟨_, rfl⟩, q⟩
def insV (xs : List V) (k : Nat) (y : V) : List V := xs.take k ++ y :: xs.drop k
def rInsert : V → List V → Hp → VK → Prop := fun x vs H Q => ∃ l xs i y, x = .ref l ∧ vs = [.int i, y] ∧ H l = some (.lst xs) ∧ 0 ≤ i ∧ i < 2 ^ 63 ∧ xs.length < sizeLine ∧ Q .non (upd H l (.lst (insV xs (min i.toNat xs.length) y)))
theorem mt_insert : MtM X "list.insert" rInsert := by
  intro pins s σ H x vs v us Q I rx rv h
  obtain ⟨l, xs, i, y, rfl, rfl, hH, h1, h2, hz, q⟩ := h
  cases rx
  obtain ⟨u, u2, rfl, ru, ru2⟩ := rv.two
  obtain ⟨t, rfl⟩ := ru
  obtain ⟨z, its, n, r, hl, e⟩ := I.lstM hH
  refine call_meets F.slot_list_insert ⟨_, e, rfl⟩ F.entry_list_insert (F.args_list_insert_3 _ _ _) (AutoSeq1.list_insert_list_int_val_1 l its.toArray n i t u2 (by rw [fitsIndex_both (by omega) h2]; decide) (by rw [List.size_toArray]; omega)) ⟨e, ?_⟩
  refine ⟨.non, _, I.lset (its' := its.take (min i.toNat its.length) ++ u2 :: its.drop (min i.toNat its.length)) hH e ?_ (ys := insV xs (min i.toNat xs.length) y) ?_ ?_, rfl, q⟩
  · have hi : ¬ i < 0 := by omega
    simp only [hi, if_false, List.size_toArray]
    simp
    exact List.take_of_length_le (by rw [List.length_drop]; exact Nat.le_refl _)
  · unfold insV
    rw [hl]
    exact (r.take _).append (.cons ru2 (r.drop _))
  · unfold insV
    rw [List.length_append, List.length_cons, List.length_take, List.length_drop]
    omega
end
mutual
inductive DV (K : PySem.W.Frag) (H : Hp) : V → PyData → Prop
  | non : DV K H .non .none
  | bl (b : Bool) : DV K H (.bl b) (.bool b)
  | int (i : Int) : DV K H (.int i) (.int i)
  | str (z : Str) : DV K H (.str z) (.str z)
  | lst {p : Addr} {xs : List V} {ds : List PyData} : SqL K H p xs → DVs K H xs ds → DV K H (.ref p) (.list ds)
  | tup {p : Addr} {xs : List V} {ds : List PyData} : SqT K H p xs → DVs K H xs ds → DV K H (.ref p) (.tuple ds)
inductive DVs (K : PySem.W.Frag) (H : Hp) : List V → List PyData → Prop
  | nil : DVs K H [] []
  | cons {x : V} {xs : List V} {d : PyData} {ds : List PyData} : DV K H x d → DVs K H xs ds → DVs K H (x :: xs) (d :: ds)
end
section
variable {X : Cx} {pins : List (Addr × Obj)} {σ : St} {H H' : Hp} {s : Shared} {K : PySem.W.Frag}
theorem SqT.same {a : Addr} {xs : List V} (h : SqT K H a xs) (s : Same H H') : SqT K H' a xs := by
  rcases h with (h | ⟨o, h⟩) | h
  · exact .inl (.inl (s _ _ h))
  · exact .inl (.inr ⟨o, s _ _ h⟩)
  · exact .inr h
mutual
theorem DV.same (e : Same H H') : ∀ {x : V} {d : PyData}, DV K H x d → DV K H' x d
  | _, _, .non => .non
  | _, _, .bl b => .bl b
  | _, _, .int i => .int i
  | _, _, .str z => .str z
  | _, _, .lst h t => .lst (h.same e) (DVs.same e t)
  | _, _, .tup h t => .tup (h.same e) (DVs.same e t)
theorem DVs.same (e : Same H H') : ∀ {xs : List V} {ds : List PyData}, DVs K H xs ds → DVs K H' xs ds
  | _, _, .nil => .nil
  | _, _, .cons h t => .cons (DV.same e h) (DVs.same e t)
end
mutual
theorem DV.reads (I : Inv X pins σ H s) : ∀ {x : V} {d : PyData} {v : Value}, DV X.K H x d → RelV x v → ∃ as, Reads s.heap v d as
  | _, _, _, .non, r => by cases r; exact ⟨_, .none⟩
  | _, _, _, .bl b, r => by cases r; exact ⟨_, .bool b⟩
  | _, _, _, .int i, r => by obtain ⟨t, rfl⟩ := r; exact ⟨_, .int i t⟩
  | _, _, _, .str z, r => by obtain ⟨t, rfl⟩ := r; exact ⟨_, .str z t⟩
  | _, _, _, .lst h t, r => by
    cases r
    obtain ⟨its, rv, ⟨o, n, e1, e2, _, e3⟩, _⟩ := I.list h
    obtain ⟨as, ra⟩ := DVs.reads I t rv
    exact ⟨_, .list e1 e2 e3 (by simpa using ra)⟩
  | _, _, _, .tup h t, r => by
    cases r
    obtain ⟨its, rv, ⟨o, e1, e2, n, e3⟩, _⟩ := I.tuple h
    obtain ⟨as, ra⟩ := DVs.reads I t rv
    exact ⟨_, .tuple e1 e2 e3 (by simpa using ra)⟩
theorem DVs.reads (I : Inv X pins σ H s) : ∀ {xs : List V} {ds : List PyData} {vs : List Value}, DVs X.K H xs ds → Vals xs vs → ∃ as, ReadsAll s.heap vs ds as
  | _, _, _, .nil, r => by cases r; exact ⟨_, .nil⟩
  | _, _, _, .cons h t, r => by
    cases r with
    | cons r1 r2 =>
      obtain ⟨as, a⟩ := DV.reads I h r1
      obtain ⟨bs, b⟩ := DVs.reads I t r2
      exact ⟨_, .cons a b⟩
end
def rEqD (K : PySem.W.Frag) (u : Nat) (neg : Bool) : R2 := fun x y H Q => ∃ dx dy, DV K H x dx ∧ DV K H y dy ∧ dx.canLay0 = true ∧ dy.canLay0 = true ∧ min dx.depth dy.depth ≤ u ∧ Q (.bl (if neg then !PyData.eqv dx dy else PyData.eqv dx dy)) H
theorem op_neD {u : Nat} (hu : X.A.units + u < cLine) : OpR X (compareOp .NotEq) (rEqD X.K u true) := by
  intro pins s σ H x y v w Q I rx ry h
  obtain ⟨dx, dy, hx, hy, cx, cy, hd, q⟩ := h
  obtain ⟨as, ra⟩ := hx.reads I rx
  obtain ⟨bs, rb⟩ := hy.reads I ry
  exact SeqAt.compareNe_reads ra rb cx cy (by omega) ⟨.bl _, H, I, rfl, q⟩
theorem lay_get : ∀ {ds : List PyData} {j : Nat} {d : PyData}, PyData.canLayAll0 ds = true → ds[j]? = some d → d.canLay0 = true
  | [], _, _, _, e => by cases e
  | d :: ds, 0, _, h, e => by
    cases e
    have h' : (d.canLay0 && PyData.canLayAll0 ds) = true := h
    rw [Bool.and_eq_true] at h'
    exact h'.1
  | d :: ds, j + 1, d', h, e => by
    have h' : (d.canLay0 && PyData.canLayAll0 ds) = true := h
    rw [Bool.and_eq_true] at h'
    exact lay_get h'.2 (by simpa using e)
end
end L2
namespace L2
open PySem PySem.Spec PyProof.Rows
def Itz (K : PySem.W.Frag) (a b : Addr) : It :=
  ⟨fun i H => ∃ xs ys x y, SqL K H a xs ∧ SqL K H b ys ∧ xs[i]? = some x ∧ ys[i]? = some y,
    fun i H v H' => ∃ p x y, H p = none ∧ (∀ xs, SqL K H a xs → xs[i]? = some x) ∧ (∀ ys, SqL K H b ys → ys[i]? = some y) ∧ v = .ref p ∧ H' = upd H p (.tup [x, y]),
    fun i H => ∃ xs ys, SqL K H a xs ∧ SqL K H b ys ∧ (xs.length ≤ i ∨ ys.length ≤ i)⟩
theorem turn_zip {P : Program} {w : World} {K : PySem.W.Frag} {es : List Expr} {k : Nat} {tp : Pos} (z TI TO i1 i2 a b : Addr) (D : ZipApart z TI TO i1 i2 a b) :
    Turn P w K (.Tuple es k tp) (Itz K a b) [z, TI, TO, i1, i2] z (fun i h => IsZip h z TI TO .none ∧ IsPair h TI (.ref i1) (.ref i2) ∧ (∃ u v, IsPair h TO u v) ∧ h.IsListIter i1 a i ∧ h.IsListIter i2 b i) where
  mem := by simp
  obj := fun i h st c hc => by
    obtain ⟨h1, h2, ⟨u, v, h3⟩, ⟨o4, h4, _, d4⟩, ⟨o5, h5, _, d5⟩⟩ := st
    simp only [List.mem_cons, List.not_mem_nil, or_false] at hc
    rcases hc with rfl | rfl | rfl | rfl | rfl
    · exact ⟨_, h1, fun v z => by cases z⟩
    · exact ⟨_, h2, fun v z => by cases z⟩
    · exact ⟨_, h3, fun v z => by cases z⟩
    · exact ⟨_, h4, fun v z => by rw [d4] at z; cases z⟩
    · exact ⟨_, h5, fun v z => by rw [d5] at z; cases z⟩
  keep := fun i h h' st kk => by
    obtain ⟨h1, h2, ⟨u, v, h3⟩, h4, h5⟩ := st
    exact ⟨kk z (by simp) _ h1, kk TI (by simp) _ h2, ⟨u, v, kk TO (by simp) _ h3⟩, h4.at fun o q => kk i1 (by simp) o q, h5.at fun o q => kk i2 (by simp) o q⟩
  item := by
    intro X hP hw hK hc i pins s σ H E I hf st hg
    subst hP hw hK
    obtain ⟨xs, ys, x, y, hq1, hq2, hx, hy⟩ := hg
    obtain ⟨its1, r1, p1, z1⟩ := I.list hq1
    obtain ⟨its2, r2, p2, z2⟩ := I.list hq2
    obtain ⟨u1, hu1, ru1⟩ := r1.get hx
    obtain ⟨u2, hu2, ru2⟩ := r2.get hy
    obtain ⟨h1, h2, ⟨u, v, h3⟩, h4, h5⟩ := st
    refine wpAny_pyNext_zip_item D h1 h2 h3 h4 h5 p1.isList p2.isList (by simpa using hu1) (by simpa using hu2) fun h' a1 a2 a3 a4 a5 a6 a7 => ?_
    refine ⟨_, rfl, wpAny_letOwnedTupleGo_zip a1 fun h'' b1 bs => ?_⟩
    have I1 : Inv X pins σ H { s with heap := h'' } := I.turnedN (t' := s.toks) hf fun c o hc q => bs.extBut c o (fun e => hc (by simp [e])) (a7 c o (fun e => hc (by simp [e])) (fun e => hc (by simp [e])) (fun e => hc (by simp [e])) (fun e => hc (by simp [e])) q)
    have zlt : z < s.heap.objs.size := Heap.lt_size h1
    have eT : h''.get? s.heap.objs.size = some { cls := .type "tuple", data := .seq #[u1, u2] } := bs.extBut _ _ (Nat.ne_of_gt zlt) a5
    have nT : H s.heap.objs.size = none := I.hok.fresh (Nat.le_refl _)
    refine ⟨.ref s.heap.objs.size, upd H s.heap.objs.size (.tup [x, y]), I.track I1 (Nat.le_refl _) nT ⟨?_, [u1, u2], .cons ru1 (.cons ru2 .nil), ⟨_, eT, rfl, _, rfl⟩⟩, rfl, ⟨_, x, y, nT, fun l hl => by rw [I.list_inj hl hq1]; exact hx, fun l hl => by rw [I.list_inj hl hq2]; exact hy, rfl, rfl⟩, ⟨b1, ?_, ⟨u1, u2, ?_⟩, ?_, ?_⟩, fun c hc => ?_⟩
    · show 2 ≤ sizeLine
      decide
    · exact bs.extBut _ _ D.TIz (a7 _ _ D.TIz D.TITO D.TIi1 D.TIi2 h2)
    · exact bs.extBut _ _ D.TOz a2
    · exact a3.at fun o q => bs.extBut _ _ D.i1z q
    · exact a4.at fun o q => bs.extBut _ _ D.i2z q
    · obtain ⟨o, q⟩ : ∃ o, s.heap.get? c = some o := by
        simp only [List.mem_cons, List.not_mem_nil, or_false] at hc
        rcases hc with rfl | rfl | rfl | rfl | rfl
        · exact ⟨_, h1⟩
        · exact ⟨_, h2⟩
        · exact ⟨_, h3⟩
        · obtain ⟨o, q, _⟩ := h4; exact ⟨o, q⟩
        · obtain ⟨o, q, _⟩ := h5; exact ⟨o, q⟩
      rw [upd_ne (Nat.ne_of_lt (Heap.lt_size q))]
      exact (hf c hc).1
  done := by
    intro X hP hw hK hc i pins s σ H E I hf st hg
    subst hP hw hK
    obtain ⟨xs, ys, hq1, hq2, hl⟩ := hg
    obtain ⟨its1, r1, p1, z1⟩ := I.list hq1
    obtain ⟨its2, r2, p2, z2⟩ := I.list hq2
    obtain ⟨h1, h2, ⟨u, v, h3⟩, h4, h5⟩ := st
    have l1 := r1.length
    have l2 := r2.length
    refine wpAny_pyNext_zip_end (show X.A.handled = none from I.ok.hd hc) D h1 h2 h3 h4 h5 p1.isList p2.isList ?_ fun h' kk => ⟨rfl, I.turnedN (t' := s.toks) hf fun c o hc q => kk c o (fun e => hc (by simp [e])) (fun e => hc (by simp [e])) (fun e => hc (by simp [e])) (fun e => hc (by simp [e])) q⟩
    rcases hl with hl | hl
    · left
      simp
      omega
    · right
      simp
      omega
  self := fun _ _ _ _ _ st h => wpAny_pyIter_zip st.1 h
section
variable {X : Cx}
def iZip (K : PySem.W.Frag) (ta : TA) : TI := fun σ H R => ta σ H fun vs H1 => ∃ a b, vs = [.ref a, .ref b] ∧ (∃ xs, SqL K H1 a xs) ∧ (∃ ys, SqL K H1 b ys) ∧ R (Itz K a b) H1
theorem pi_zip {es : List Expr} {k : Nat} {tp : Pos} {a b : Expr} {ta : TA} {p pos : Pos} (hg : Gl X "zip") (hm : X.mg "zip" = none) (ha : PA X [a, b] ta) (hs : starEach [a, b] X.env = (false, eval a X.env) :: starEach [b] X.env := by rfl)
    (hpl : (backTo pos (starEach [b] X.env)).any (·.1) = false := by rfl) :
    PI X (.Tuple es k tp) (.Call (.Name "zip" p) [a, b] [] pos) (iZip X.K ta) := by
  intro pins s σ H R I h
  refine Call_ (ld_blt I hg hm boot_zip (PyProof.Rows.callWith_type1 (thn (ha pos pins s σ H _ I h) fun us s1 ⟨vs, H1, I1, r1, q1⟩ => ?_) hs hpl))
  obtain ⟨l1, l2, e, ⟨xs, hq1⟩, ⟨ys, hq2⟩, q⟩ := q1
  subst e
  obtain ⟨u1, u2, rfl, ru1, ru2⟩ := r1.two
  cases ru1
  cases ru2
  obtain ⟨its1, rv1, p1, _⟩ := I1.list hq1
  obtain ⟨its2, rv2, p2, _⟩ := I1.list hq2
  have lt1 : l1 < s1.heap.objs.size := by obtain ⟨_, e, _⟩ := p1.isList; exact Heap.lt_size e
  have lt2 : l2 < s1.heap.objs.size := by obtain ⟨_, e, _⟩ := p2.isList; exact Heap.lt_size e
  refine call_zip_2 p1.isList p2.isList fun h' a1 a2 a3 a4 a5 a6 a7 => ?_
  refine wpAny_pyIter_zip a1 ?_
  have I2 : Inv X pins σ H1 { s1 with heap := h' } := I1.kept (t' := s1.toks) a7
  refine ⟨_, [s1.heap.objs.size + 4, s1.heap.objs.size + 2, s1.heap.objs.size + 3, s1.heap.objs.size, s1.heap.objs.size + 1], _, _, H1, rfl, I2, turn_zip _ _ _ _ _ l1 l2 (zipApart_new lt1 lt2), ⟨a1, a2, ⟨_, _, a3⟩, a4, a5⟩, fun c hc => ?_, q⟩
  have hc' : s1.heap.objs.size ≤ c := by
    simp only [List.mem_cons, List.not_mem_nil, or_false] at hc
    rcases hc with rfl | rfl | rfl | rfl | rfl
    · exact Nat.le_add_right _ _
    · exact Nat.le_add_right _ _
    · exact Nat.le_add_right _ _
    · exact Nat.le_refl _
    · exact Nat.le_add_right _ _
  exact I1.fpOk hc' (I1.hok.fresh hc')
end
theorem lc_zip {K : PySem.W.Frag} {a b : Addr} {xs ys : List V} {own : List Str} {fr : List (Str × Nat)} {g : TG} {tt : TT} {te : TE} {σ : St} {H : Hp} {Q : VK} (hz : xs.length ≤ sizeLine) (Pv : Nat → List V → Hp → Prop) (h0 : Pv 0 [] H) (hl : ∀ i zs H, Pv i zs H → SqL K H a xs ∧ SqL K H b ys)
    (hs : ∀ i x y zs H' p (K1 : V → Hp → Prop) (K0 : Hp → Prop), xs[i]? = some x → ys[i]? = some y → Pv i zs H' → H' p = none → (∀ v H4, Pv (i + 1) (zs ++ [v]) H4 → K1 v H4) → (∀ H3, Pv (i + 1) zs H3 → K0 H3) →
      g (.ref p) (compSt own fr σ) (upd H' p (.tup [x, y])) fun σ2 H2 => tt σ2 H2 fun b H3 => if b = true then te σ2 H3 K1 else K0 H3)
    (hd : ∀ H' p zs, Pv (min xs.length ys.length) zs H' → zs.length ≤ xs.length → H' p = none → Q (.ref p) (upd H' p (.lst zs))) : LCb own fr g tt te σ Q (Itz K a b) H := by
  refine ⟨fun i m zs H => m = min xs.length ys.length - i ∧ i ≤ min xs.length ys.length ∧ zs.length ≤ i ∧ Pv i zs H, ⟨min xs.length ys.length, by simp, Nat.zero_le _, Nat.zero_le _, h0⟩, ?_⟩
  rintro i m zs H ⟨rfl, hi, hy, p⟩
  obtain ⟨q1, q2⟩ := hl _ _ H p
  by_cases hlt : i < min xs.length ys.length
  · have h1 : i < xs.length := by omega
    have h2 : i < ys.length := by omega
    refine .inr ⟨⟨xs, ys, xs[i], ys[i], q1, q2, by simp [h1], by simp [h2]⟩, by omega, fun v H' y => ?_⟩
    obtain ⟨r, x, z, hn, e1, e2, rfl, rfl⟩ := y
    refine hs i x z zs H r _ _ (e1 xs q1) (e2 ys q2) p hn (fun v H4 p4 => ⟨min xs.length ys.length - (i + 1), by omega, rfl, hlt, ?_, p4⟩) fun H3 p3 => ⟨min xs.length ys.length - (i + 1), by omega, rfl, hlt, by omega, p3⟩
    rw [List.length_append, List.length_singleton]
    omega
  · have e : i = min xs.length ys.length := by omega
    subst e
    exact .inl ⟨⟨xs, ys, q1, q2, by omega⟩, fun q hq => hd H q zs p (by omega) hq⟩
section
variable {X : Cx} {K : PySem.W.Frag} {u : Nat}
end
theorem hu64 {A : Around} {k : Nat} (hr : Room k A) : A.units + 64 < cLine := hr.units
theorem hu61 {A : Around} {k : Nat} (hr : Room k A) : A.units + 3 + 61 < cLine := by have := hr.units; omega
section
variable {X : Cx}
end
end L2
namespace L2
open PySem PySem.Spec PyProof.Rows
section
variable {X : Cx}
end
end L2
namespace L2
open PySem PySem.Spec PyProof.Rows
section
variable {X : Cx} {tg : Expr}
theorem vals_rev : ∀ {xs : List V} {us : List Value}, Vals xs us → Vals xs.reverse us.reverse
  | [], _, h => by cases h; exact .nil
  | x :: xs, _, h => by
    cases h with
    | cons r t =>
      rw [List.reverse_cons, List.reverse_cons]
      exact (vals_rev t).append (.cons r .nil)
def tRevL (K : PySem.W.Frag) (te : TE) (ts : TO) : TE := fun σ H Q => te σ H fun x H1 => ts σ H1 fun o H2 => o = some (-1) ∧ ∃ a xs, x = .ref a ∧ SqL K H2 a xs ∧ ∀ p H', H2 p = none → Same H2 H' → H' p = some (.lst xs.reverse) → Q (.ref p) H'
theorem pe_revL {e : Expr} {st : Expr} {te : TE} {ts : TO} {pos p2 : Pos} (he : PE X e te) (hst : PO X (some st) ts) : PE X (.Subscript e (.Slice none none (some st) p2) pos) (tRevL X.K te ts) := by
  intro pins s σ H Q I h
  refine Subscript_ (thn (he pins s σ H _ I h) fun v s1 ⟨x, H1, I1, r1, q1⟩ => ?_)
  refine wpAny_Slice ?_
  rw [evalPart_none]
  refine wpAny_pure ?_
  refine wpAny_pure ?_
  refine thn (hst pins s1 σ H1 _ I1 q1) fun vs s3 ⟨o, H3, I3, ps, e1, q2⟩ => ?_
  subst e1
  obtain ⟨a, xs, rfl, hx, q⟩ := q2
  have I4 : Inv X pins σ H3 { s3 with heap := s3.heap.push { cls := .type "slice", data := .fields #[.none, .none, vs] } } := I3.kept (t' := s3.toks) fun b ob q => Heap.get?_push_of_some _ q
  cases r1
  obtain ⟨its, r, ht, hz⟩ := I4.list hx
  have hlen := r.length
  show wpAny (model X.prog X.w) X.A (subscriptTail e (.Slice none none (some st) p2) (.ref a) (.ref s3.heap.objs.size)) (EP X pins σ Q) X.xe { s3 with heap := s3.heap.push { cls := .type "slice", data := .fields #[.none, .none, vs] } }
  refine tail_any (ops := [.ref a, .ref s3.heap.objs.size]) ht.isList.typeIs slot_list_getitem.lookup ?_ (by with_unfolding_all rfl)
  refine wpAny_getItem_list_slice ht.isList (Heap.IsSliceOf.new ..) .none .none ps (by simp) ?_ (by rw [List.size_toArray] <;> omega)
  rw [PySem.W.krv_pick]
  have hf := I4.hok.fresh (Nat.le_refl _)
  refine ⟨.ref _, _, I4.laid (t' := s3.toks) (o := .lst xs.reverse) (fun b ob q => Heap.get?_push_of_some _ q) (Nat.le_refl _) ?_, rfl, q _ _ hf (Same.new hf) upd_same⟩
  refine ⟨by rw [List.length_reverse]; exact hz, its.reverse, 0, ?_, ?_⟩
  · exact vals_rev r
  · exact Heap.get?_push_size _ rfl
end
end L2
namespace L2
open PySem PySem.Spec PyProof.Rows
section
variable {P : Program} {w : World} {A : Around} {E : Value → Shared → Prop} {s : Shared}
end
end L2
namespace L2
open PySem PySem.Spec PyProof.Rows
section
variable {X : Cx}
end
end L2
namespace L2
open PySem PySem.Spec PyProof.Rows
end L2
namespace L2
open PySem PySem.Spec PyProof.Rows
section
variable {X : Cx}
end
end L2
namespace L2
open PySem PySem.Spec PyProof.Rows
section
variable {X : Cx}
end
section
variable {X : Cx}
end
end L2
set_option maxHeartbeats 4000000
namespace Srt
open PySem PySem.W PyProof.Rows
section
variable {α β : Type} {n : Nat} {lt : Nat → Nat → Bool}
end
structure Swo (lt : Nat → Nat → Bool) : Prop where
  irr : ∀ a, lt a a = false
  tr : ∀ a b c, lt a b = true → lt b c = true → lt a c = true
  nt : ∀ a b c, lt a c = true → lt a b = true ∨ lt b c = true
section
variable {n : Nat} {lt : Nat → Nat → Bool} (W : Swo lt)
include W
theorem Swo.le_of_lt {a b : Nat} (h : lt a b = true) : lt b a = false := by
  cases e : lt b a with
  | false => rfl
  | true => rw [← W.irr a, ← W.tr a b a h e]
theorem Swo.le_tr {a b c : Nat} (h1 : lt b a = false) (h2 : lt c b = false) : lt c a = false := by
  cases e : lt c a with
  | false => rfl
  | true => rcases W.nt c b a e with q | q
            · rw [q] at h2; cases h2
            · rw [q] at h1; cases h1
theorem Swo.lt_le {a b c : Nat} (h1 : lt a b = true) (h2 : lt c b = false) : lt a c = true := by
  rcases W.nt a c b h1 with q | q
  · exact q
  · rw [q] at h2; cases h2
end
abbrev g (p : Array Nat) (i : Nat) : Nat := p.getD i 0
def Up (lt : Nat → Nat → Bool) (p : Array Nat) (n : Nat) : Prop := ∀ i j, i ≤ j → j < n → lt (g p j) (g p i) = false
theorem g_of {p q : Array Nat} {i j : Nat} (h : p[i]? = q[j]?) : g p i = g q j := by
  unfold g
  rw [Array.getD_eq_getD_getElem?, Array.getD_eq_getD_getElem?, h]
section
variable {n : Nat} {lt : Nat → Nat → Bool} (W : Swo lt) (hn : 0 < n)
theorem rev_like {p : Array Nat} {i j : Nat} (W : Swo lt) (hj : j ≤ p.size) (he : ∀ k, i ≤ k → k < j → lt (g p k) (g p (j - 1)) = false ∧ lt (g p (j - 1)) (g p k) = false) (k : Nat) :
    lt (g (kas_rev p i j) k) (g p k) = false ∧ lt (g p k) (g (kas_rev p i j) k) = false := by
  have e := getElem?_mirror_all (i := i) hj k
  by_cases h : i ≤ k ∧ k < j
  · rw [if_pos h] at e
    have e' : g (kas_rev p i j) k = g p (i + j - 1 - k) := g_of e
    rw [e']
    have a := he (i + j - 1 - k) (by omega) (by omega)
    have c := he k h.1 h.2
    exact ⟨W.le_tr c.2 a.1, W.le_tr a.2 c.1⟩
  · rw [if_neg h] at e
    have e' : g (kas_rev p i j) k = g p k := g_of e
    rw [e']
    exact ⟨W.irr _, W.irr _⟩
theorem rev_perm (p : Array Nat) (i j : Nat) : (kas_rev p i j).Perm p := mirror_perm p i j _
end
end Srt
set_option maxHeartbeats 4000000
namespace Tim
open PySem PySem.W PyProof.Rows Srt
abbrev S (κ : SortKind) (it : Array Keyed) (p : Array Nat) (pd : Array (Nat × Nat × Nat)) (m : Nat) : SortSt := SortSt.mk' κ (p.map (kas_item it)) pd m none
def Ans (prog : Program) (w : World) (A : Around) (s : Shared) (κ : SortKind) (it : Array Keyed) (n : Nat) (lt : Nat → Nat → Bool) : Prop :=
  ∀ i j (C : Bool → Shared → Prop), i < n → j < n → C (lt i j) s → kas_cmp prog w A κ it i j C s
def In (n : Nat) (p : Array Nat) : Prop := ∀ i, i < p.size → g p i < n
theorem in_perm {n : Nat} {p q : Array Nat} (h : q.Perm p) (b : In n p) : In n q := fun i hi => by
  unfold g
  rw [Array.getD_eq_getD_getElem?, Array.getElem?_eq_getElem hi]
  have hx2 : q[i] ∈ p := (h.mem_iff).mp (Array.getElem_mem hi)
  obtain ⟨j, hj, ej⟩ := Array.mem_iff_getElem.mp hx2
  have := b j hj
  unfold g at this
  rw [Array.getD_eq_getD_getElem?, Array.getElem?_eq_getElem hj, ej] at this
  exact this
section
variable {prog : Program} {w : World} {A : Around} {E : Value → Shared → Prop} {s : Shared} {κ : SortKind} {it : Array Keyed} {n : Nat} {lt : Nat → Nat → Bool} {p : Array Nat} {pd : Array (Nat × Nat × Nat)} {mg : Nat}
theorem lt_ok (hq : Ans prog w A s κ it n lt) {i j : Nat} {st : SortSt} {Q : Option Bool → SortSt → Prop} (hk : kindOf st = κ) (hi : i < n) (hj : j < n) (h : Q (some (lt i j)) st) : wpS (model prog w) A E s (lt' (kas_item it i) (kas_item it j)) Q st := by
  rw [lt'_eq]
  refine wpS_bind (wpS_get ?_)
  rw [hk]
  refine wpS_bind (wpS_lift (wpAny_attempt (wpAny_mono (hq i j (fun b s' => s' = s ∧ b = lt i j) hi hj ⟨rfl, rfl⟩) (fun c s' hc => ?_) fun _ _ hF => hF.elim)))
  obtain ⟨rfl, rfl⟩ := hc
  exact ⟨rfl, wpS_pure h⟩
theorem map_at {i : Nat} (hi : i < p.size) : (p.map (kas_item it))[i]? = some (kas_item it (g p i)) := by
  have e : g p i = p[i] := by unfold g; simp [Array.getD, hi]
  rw [e]
  simp [hi]
theorem elem_ok {i : Nat} {st : SortSt} {Q : Keyed → SortSt → Prop} (hi : i < p.size) (h : Q (kas_item it (g p i)) st) : wpS (model prog w) A E s (elem' (p.map (kas_item it)) i) Q st := by
  rw [elem'_eq, map_at hi]
  exact wpS_pure h
theorem ltAt_ok (hq : Ans prog w A s κ it n lt) (hb : In n p) {i j : Nat} {Q : Option Bool → SortSt → Prop} (hi : i < p.size) (hj : j < p.size) (h : Q (some (lt (g p i) (g p j))) (S κ it p pd mg)) : wpS (model prog w) A E s (ltAt' i j) Q (S κ it p pd mg) := by
  rw [ltAt'_eq]
  refine wpS_bind (wpS_get ?_)
  exact wpS_bind (elem_ok hi (wpS_bind (elem_ok hj (lt_ok hq rfl (hb i hi) (hb j hj) h))))
theorem rev_ok {i j : Nat} {Q : Unit → SortSt → Prop} (h : Q () (S κ it (kas_rev p i j) pd mg)) : wpS (model prog w) A E s (reverseSlice' i j) Q (S κ it p pd mg) := by
  rw [reverseSlice'_eq]
  refine wpS_modify ?_
  have e1 : mirror (p.map (kas_item it)) i j ((j - i) / 2) = (mirror p i j ((j - i) / 2)).map (kas_item it) := kas_swaps_map (kas_item it) (fun k => i + k) (fun k => j - 1 - k) _ p
  show Q () (SortSt.mk' κ (mirror (p.map (kas_item it)) i j ((j - i) / 2)) pd mg none)
  rw [e1]
  exact h
theorem move_ok {k l : Nat} {Q : Unit → SortSt → Prop} (h : Q () (S κ it (bubble p k (k - l)) pd mg)) : wpS (model prog w) A E s (moveDown' k l) Q (S κ it p pd mg) := by
  rw [moveDown'_eq]
  refine wpS_modify ?_
  have e1 : bubble (p.map (kas_item it)) k (k - l) = (bubble p k (k - l)).map (kas_item it) := kas_swaps_map (kas_item it) (fun i => k - i) (fun i => k - i - 1) _ p
  show Q () (SortSt.mk' κ (bubble (p.map (kas_item it)) k (k - l)) pd mg none)
  rw [e1]
  exact h
end
def UpL (lt : Nat → Nat → Bool) (lo : Nat) (p : Array Nat) (k : Nat) : Prop := ∀ i j, lo ≤ i → i ≤ j → j < k → lt (g p j) (g p i) = false
def DnL (lt : Nat → Nat → Bool) (lo : Nat) (p : Array Nat) (k : Nat) : Prop := ∀ i j, lo ≤ i → i ≤ j → j < k → lt (g p i) (g p j) = false
def LikeL (lt : Nat → Nat → Bool) (lo : Nat) (p : Array Nat) (k q : Nat) : Prop := lo + q + 1 ≤ k ∧ ∀ m, k - (q + 1) ≤ m → m < k → lt (g p m) (g p (k - 1)) = false ∧ lt (g p (k - 1)) (g p m) = false
structure Bh (lo : Nat) (p q : Array Nat) : Prop where
  perm : q.Perm p
  pre : ∀ i, i < lo → q[i]? = p[i]?
theorem Bh.refl (lo : Nat) (p : Array Nat) : Bh lo p p := ⟨.refl _, fun _ _ => rfl⟩
theorem Bh.trans {lo : Nat} {p q r : Array Nat} (a : Bh lo p q) (b : Bh lo q r) : Bh lo p r := ⟨b.perm.trans a.perm, fun i h => (b.pre i h).trans (a.pre i h)⟩
section
variable {lt : Nat → Nat → Bool} {lo : Nat} {p : Array Nat}
theorem up1 (W : Swo lt) : UpL lt lo p (lo + 1) := fun i j h1 h2 h3 => by
  have : i = j := by omega
  subst this; exact W.irr _
theorem dn1 (W : Swo lt) : DnL lt lo p (lo + 1) := fun i j h1 h2 h3 => by
  have : i = j := by omega
  subst this; exact W.irr _
theorem upL_more {k : Nat} (W : Swo lt) (h0 : lo + 1 ≤ k) (h : UpL lt lo p k) (hk : lt (g p k) (g p (k - 1)) = false) : UpL lt lo p (k + 1) := by
  intro i j h1 hij hj
  by_cases e : j = k
  · subst e
    by_cases e2 : i = j
    · subst e2; exact W.irr _
    · exact W.le_tr (h i (j - 1) h1 (by omega) (by omega)) hk
  · exact h i j h1 hij (by omega)
theorem dnL_more {k : Nat} (W : Swo lt) (h0 : lo + 1 ≤ k) (h : DnL lt lo p k) (hk : lt (g p (k - 1)) (g p k) = false) : DnL lt lo p (k + 1) := by
  intro i j h1 hij hj
  by_cases e : j = k
  · subst e
    by_cases e2 : i = j
    · subst e2; exact W.irr _
    · exact W.le_tr hk (h i (j - 1) h1 (by omega) (by omega))
  · exact h i j h1 hij (by omega)
theorem dnL_like {q : Array Nat} {k : Nat} (W : Swo lt) (hl : ∀ i, lt (g q i) (g p i) = false ∧ lt (g p i) (g q i) = false) (h : DnL lt lo p k) : DnL lt lo q k := fun i j h1 hij hj =>
  W.le_tr (W.le_tr (hl j).2 (h i j h1 hij hj)) (hl i).1
theorem likeL0 {k : Nat} (W : Swo lt) (h : lo + 1 ≤ k) : LikeL lt lo p k 0 := ⟨by omega, fun m h1 h2 => by
  have : m = k - 1 := by omega
  subst this
  exact ⟨W.irr _, W.irr _⟩⟩
theorem bh_rev {i j : Nat} (hi : lo ≤ i) (hj : j ≤ p.size) : Bh lo p (kas_rev p i j) := ⟨rev_perm p i j, fun k hk => by
  have := getElem?_mirror_all (i := i) hj k
  rw [if_neg (by omega)] at this
  exact this⟩
theorem rev_out {i j k : Nat} (hj : j ≤ p.size) (hk : j ≤ k) : g (kas_rev p i j) k = g p k := g_of (by
  have := getElem?_mirror_all (i := i) hj k
  rw [if_neg (by omega)] at this
  exact this)
theorem revL_up {k : Nat} (hk : k ≤ p.size) (h : DnL lt lo p k) : UpL lt lo (kas_rev p lo k) k := by
  intro i j h1 hij hj
  have e1 := getElem?_mirror_all (i := lo) hk i
  have e2 := getElem?_mirror_all (i := lo) hk j
  rw [if_pos ⟨by omega, by omega⟩] at e1 e2
  have e1' : g (kas_rev p lo k) i = g p (lo + k - 1 - i) := g_of e1
  have e2' : g (kas_rev p lo k) j = g p (lo + k - 1 - j) := g_of e2
  rw [e1', e2']
  exact h _ _ (by omega) (by omega) (by omega)
end
section
variable {prog : Program} {w : World} {A : Around} {E : Value → Shared → Prop} {s : Shared} {κ : SortKind} {it : Array Keyed} {n : Nat} {lt : Nat → Nat → Bool} {p : Array Nat} {pd : Array (Nat × Nat × Nat)} {mg : Nat} {lo nrem : Nat}
theorem asc_loop (W : Swo lt) (hq : Ans prog w A s κ it n lt) (hb : In n p) {a : Nat} {Q : AscSt → SortSt → Prop} {f : Nat → AscSt → StateT SortSt Sem (ForInStep AscSt)} (hf : ∀ x (k : Nat), f x (none, k) = (do
      let r ← ltAt' (lo + k) (lo + k - 1)
      match r with
      | some b => if b = true then pure (ForInStep.done (none, k)) else pure (ForInStep.yield (none, k + 1))
      | _ => pure (ForInStep.done (some none, k)))) (ha : 1 ≤ a) (han : a ≤ nrem) (hz : lo + nrem ≤ p.size) (hu : UpL lt lo p (lo + a))
    (h : ∀ k, a ≤ k → k ≤ nrem → UpL lt lo p (lo + k) → (k < nrem → lt (g p (lo + k)) (g p (lo + k - 1)) = true) → Q (none, k) (S κ it p pd mg)) :
    wpS (model prog w) A E s (forIn [a:nrem] ((none, a) : AscSt) f) Q (S κ it p pd mg) := by
  refine wpS_forRange (I := fun x c st' => st' = S κ it p pd mg ∧ c = (none, x) ∧ UpL lt lo p (lo + x)) ?step ?fin ⟨rfl, rfl, hu⟩
  case fin =>
    rintro c st' ⟨rfl, rfl, hs'⟩
    rw [show max a nrem = nrem by omega] at hs' ⊢
    exact h nrem han (Nat.le_refl _) hs' fun z => absurd z (Nat.lt_irrefl _)
  case step =>
    rintro x c st' hax hxn ⟨rfl, rfl, hs'⟩
    rw [hf]
    refine wpS_bind (ltAt_ok hq hb (by omega) (by omega) ?_)
    cases e : lt (g p (lo + x)) (g p (lo + x - 1)) with
    | true =>
      dsimp only
      rw [if_pos rfl]
      exact wpS_pure (h x hax (by omega) hs' fun _ => e)
    | false =>
      dsimp only
      rw [if_neg (by decide)]
      exact wpS_pure ⟨rfl, rfl, upL_more (k := lo + x) W (by omega) hs' e⟩
theorem desc_loop (W : Swo lt) (hq : Ans prog w A s κ it n lt) (hb : In n p) {a : Nat} {Q : DescSt → SortSt → Prop} {f : Nat → DescSt → StateT SortSt Sem (ForInStep DescSt)} (hf : ∀ x (k q : Nat), f x (none, k, q) = (ltAt' (lo + k) (lo + k - 1) >>= fun r => match r with
      | some b => (if b = true then (if q > 0 then (reverseSlice' (lo + k - (q + 1)) (lo + k) >>= fun _ => pure (ForInStep.yield (none, k + 1, 0))) else pure (ForInStep.yield (none, k + 1, 0))) else (ltAt' (lo + k - 1) (lo + k) >>= fun r => match r with
            | some b => if b = true then pure (ForInStep.done (none, k, q)) else pure (ForInStep.yield (none, k + 1, q + 1))
            | _ => pure (ForInStep.done (some none, k, q))))
      | _ => pure (ForInStep.done (some none, k, q)))) (ha : 1 ≤ a) (han : a ≤ nrem) (hz : lo + nrem ≤ p.size) (hu : DnL lt lo p (lo + a))
    (h : ∀ q k m, Bh lo p q → a ≤ k → k ≤ nrem → DnL lt lo q (lo + k) → LikeL lt lo q (lo + k) m → Q (none, k, m) (S κ it q pd mg)) :
    wpS (model prog w) A E s (forIn [a:nrem] ((none, a, 0) : DescSt) f) Q (S κ it p pd mg) := by
  refine wpS_forRange (I := fun x c st' => ∃ q m, st' = S κ it q pd mg ∧ c = (none, x, m) ∧ Bh lo p q ∧ DnL lt lo q (lo + x) ∧ LikeL lt lo q (lo + x) m) ?step ?fin ⟨p, 0, rfl, rfl, .refl _ _, hu, likeL0 W (by omega)⟩
  case fin =>
    rintro c st' ⟨q, m, rfl, rfl, b, d, l⟩
    rw [show max a nrem = nrem by omega] at d l ⊢
    exact h q nrem m b han (Nat.le_refl _) d l
  case step =>
    rintro x c st' hax hxn ⟨q, m, rfl, rfl, b, d, l⟩
    have hbq := in_perm b.perm hb
    have zq : q.size = p.size := b.perm.size_eq
    rw [hf]
    refine wpS_bind (ltAt_ok hq hbq (by omega) (by omega) ?_)
    cases e : lt (g q (lo + x)) (g q (lo + x - 1)) with
    | true =>
      dsimp only
      rw [if_pos rfl]
      by_cases hm : m > 0
      · rw [if_pos hm]
        refine wpS_bind (rev_ok (wpS_pure ⟨_, 0, rfl, rfl, b.trans (bh_rev (by have := l.1; omega) (by omega)), ?_, likeL0 W (by omega)⟩))
        have lk := rev_like W (p := q) (i := lo + x - (m + 1)) (j := lo + x) (by omega) l.2
        refine dnL_more (k := lo + x) W (by omega) (dnL_like W lk d) ?_
        rw [rev_out (k := lo + x) (by omega) (Nat.le_refl _)]
        exact W.le_tr (W.le_of_lt e) (lk (lo + x - 1)).1
      · rw [if_neg hm]
        exact wpS_pure ⟨q, 0, rfl, rfl, b, dnL_more (k := lo + x) W (by omega) d (W.le_of_lt e), likeL0 W (by omega)⟩
    | false =>
      dsimp only
      rw [if_neg (by decide)]
      refine wpS_bind (ltAt_ok hq hbq (by omega) (by omega) ?_)
      cases e2 : lt (g q (lo + x - 1)) (g q (lo + x)) with
      | true =>
        dsimp only
        rw [if_pos rfl]
        exact wpS_pure (h q x m b hax (by omega) d l)
      | false =>
        dsimp only
        rw [if_neg (by decide)]
        refine wpS_pure ⟨q, m + 1, rfl, rfl, b, dnL_more (k := lo + x) W (by omega) d e2, by have := l.1; omega, fun i h1 h2 => ?_⟩
        show lt (g q i) (g q (lo + x)) = false ∧ lt (g q (lo + x)) (g q i) = false
        by_cases em : i = lo + x
        · subst em; exact ⟨W.irr _, W.irr _⟩
        · have := l.2 i (by omega) (by omega)
          exact ⟨W.le_tr e2 this.1, W.le_tr this.2 e⟩
theorem wp_if {α : Type} {c : Prop} [Decidable c] {m1 m2 : StateT SortSt Sem α} {Q : α → SortSt → Prop} {st : SortSt} (h1 : c → wpS (model prog w) A E s m1 Q st) (h2 : ¬ c → wpS (model prog w) A E s m2 Q st) : wpS (model prog w) A E s (if c then m1 else m2) Q st := by
  by_cases h : c
  · rw [if_pos h]; exact h1 h
  · rw [if_neg h]; exact h2 h
theorem count_ok (W : Swo lt) (hq : Ans prog w A s κ it n lt) (hb : In n p) {Q : Option Nat → SortSt → Prop} (h1 : 1 ≤ nrem) (hz : lo + nrem ≤ p.size)
    (h : ∀ q m, Bh lo p q → 1 ≤ m → m ≤ nrem → UpL lt lo q (lo + m) → Q (some m) (S κ it q pd mg)) : wpS (model prog w) A E s (countRun' lo nrem) Q (S κ it p pd mg) := by
  rw [countRun'_eq]
  have tail : ∀ (q : Array Nat) (k : Nat), Bh lo p q → 1 ≤ k → k ≤ nrem → DnL lt lo q (lo + k) → UpL lt lo (kas_rev q lo (lo + k)) (lo + k) ∧ Bh lo p (kas_rev q lo (lo + k)) := fun q k b k1 k2 d => by
    have zq : lo + k ≤ q.size := by rw [b.perm.size_eq]; omega
    exact ⟨revL_up zq d, b.trans (bh_rev (Nat.le_refl _) zq)⟩
  refine wpS_bind (asc_loop W hq hb (fun x k => rfl) (Nat.le_refl 1) h1 hz (up1 W) fun k k1 k2 up hlt => ?_)
  dsimp only
  by_cases hnn : k = nrem
  · rw [if_pos (by simpa using hnn)]
    exact wpS_pure (h p k (.refl _ _) k1 k2 up)
  · rw [if_neg (by simpa using hnn)]
    have hlt := hlt (by omega)
    refine wp_if (fun hgt => ?_) fun hle => ?_
    · refine wpS_bind (ltAt_ok hq hb (by omega) (by omega) ?_)
      cases e2 : lt (g p lo) (g p (lo + k - 1)) with
      | true =>
        dsimp only
        rw [if_pos rfl]
        exact wpS_pure (h p k (.refl _ _) k1 k2 up)
      | false =>
        dsimp only
        rw [if_neg (by decide)]
        refine wpS_bind (rev_ok ?_)
        have dn : DnL lt lo p (lo + k) := fun i j a1 a2 a3 => W.le_tr (W.le_tr (up j (lo + k - 1) (by omega) (by omega) (by omega)) e2) (up lo i (Nat.le_refl _) a1 (by omega))
        have lk := rev_like W (p := p) (i := lo) (j := lo + k) (by omega) fun m a1 a2 => ⟨dn m (lo + k - 1) a1 (by omega) (by omega), up m (lo + k - 1) a1 (by omega) (by omega)⟩
        obtain ⟨q, eq, b, d⟩ : ∃ q, q = kas_rev p lo (lo + k) ∧ Bh lo p q ∧ DnL lt lo q (lo + (k + 1)) := ⟨_, rfl, bh_rev (Nat.le_refl _) (by omega), dnL_more (k := lo + k) W (by omega) (dnL_like W lk dn) (by
          rw [rev_out (k := lo + k) (by omega) (Nat.le_refl _)]
          exact W.le_tr (W.le_of_lt hlt) (lk (lo + k - 1)).1)⟩
        rw [← eq]
        have hbq := in_perm b.perm hb
        have zq : q.size = p.size := b.perm.size_eq
        refine wpS_bind (wpS_lift (wpAny_rule ⟨rfl, ?_⟩))
        refine wpS_bind (desc_loop W hq hbq (fun x k q => rfl) (by omega) (by omega) (by omega) d fun q' k' m' b' a1 a2 d' l' => ?_)
        dsimp only
        have b2 := b.trans b'
        have z2 : q'.size = p.size := b2.perm.size_eq
        refine wp_if (fun hm => ?_) fun hm => ?_
        · have lk' := rev_like W (p := q') (i := lo + k' - (m' + 1)) (j := lo + k') (by omega) l'.2
          have b3 := b2.trans (bh_rev (p := q') (i := lo + k' - (m' + 1)) (j := lo + k') (by have := l'.1; omega) (by omega))
          obtain ⟨u3, b4⟩ := tail _ k' b3 (by omega) a2 (dnL_like W lk' d')
          have z4 := b4.perm.size_eq
          exact wpS_bind (rev_ok (wpS_bind (rev_ok (wpS_bind (asc_loop W hq (in_perm b4.perm hb) (fun x k => rfl) (by omega) a2 (by omega) u3 fun k4 a3 a4 u4 _ => wpS_pure (h _ k4 b4 (by omega) a4 u4))))))
        · obtain ⟨u3, b4⟩ := tail _ k' b2 (by omega) a2 d'
          have z4 := b4.perm.size_eq
          exact wpS_bind (rev_ok (wpS_bind (asc_loop W hq (in_perm b4.perm hb) (fun x k => rfl) (by omega) a2 (by omega) u3 fun k4 a3 a4 u4 _ => wpS_pure (h _ k4 b4 (by omega) a4 u4))))
    · have e1 : k = 1 := by omega
      subst e1
      obtain ⟨q, eq, b, d⟩ : ∃ q, q = p ∧ Bh lo p q ∧ DnL lt lo q (lo + (1 + 1)) := ⟨p, rfl, .refl _ _, dnL_more (k := lo + 1) W (by omega) (dn1 W) (W.le_of_lt hlt)⟩
      rw [← eq]
      have hbq := in_perm b.perm hb
      have zq : q.size = p.size := b.perm.size_eq
      refine wpS_bind (wpS_lift (wpAny_rule ⟨rfl, ?_⟩))
      refine wpS_bind (desc_loop W hq hbq (fun x k q => rfl) (by omega) (by omega) (by omega) d fun q' k' m' b' a1 a2 d' l' => ?_)
      dsimp only
      have b2 := b.trans b'
      have z2 : q'.size = p.size := b2.perm.size_eq
      refine wp_if (fun hm => ?_) fun hm => ?_
      · have lk' := rev_like W (p := q') (i := lo + k' - (m' + 1)) (j := lo + k') (by omega) l'.2
        have b3 := b2.trans (bh_rev (p := q') (i := lo + k' - (m' + 1)) (j := lo + k') (by have := l'.1; omega) (by omega))
        obtain ⟨u3, b4⟩ := tail _ k' b3 (by omega) a2 (dnL_like W lk' d')
        have z4 := b4.perm.size_eq
        exact wpS_bind (rev_ok (wpS_bind (rev_ok (wpS_bind (asc_loop W hq (in_perm b4.perm hb) (fun x k => rfl) (by omega) a2 (by omega) u3 fun k4 a3 a4 u4 _ => wpS_pure (h _ k4 b4 (by omega) a4 u4))))))
      · obtain ⟨u3, b4⟩ := tail _ k' b2 (by omega) a2 d'
        have z4 := b4.perm.size_eq
        exact wpS_bind (rev_ok (wpS_bind (asc_loop W hq (in_perm b4.perm hb) (fun x k => rfl) (by omega) a2 (by omega) u3 fun k4 a3 a4 u4 _ => wpS_pure (h _ k4 b4 (by omega) a4 u4))))
theorem bin_ok (W : Swo lt) (hq : Ans prog w A s κ it n lt) (hb : In n p) {ok : Nat} {Q : Bool → SortSt → Prop} (h1 : 1 ≤ ok) (hok : ok ≤ nrem) (hz : lo + nrem ≤ p.size) (hu : UpL lt lo p (lo + ok))
    (h : ∀ q, Bh lo p q → UpL lt lo q (lo + nrem) → Q true (S κ it q pd mg)) : wpS (model prog w) A E s (binarySort' lo nrem ok) Q (S κ it p pd mg) := by
  rw [binarySort'_eq]
  refine wpS_bind (wpS_mono (wpS_forRange (I := fun k c st' => c = (none, ()) ∧ ∃ q, st' = S κ it q pd mg ∧ Bh lo p q ∧ UpL lt lo q (lo + k))
    (Q := fun c st' => c = (none, ()) ∧ ∃ q, st' = S κ it q pd mg ∧ Bh lo p q ∧ UpL lt lo q (lo + nrem)) ?step ?fin ?init) ?post)
  case post =>
    rintro c st' ⟨rfl, q, rfl, b, u⟩
    exact wpS_pure (h q b u)
  case init => exact ⟨rfl, p, rfl, .refl _ _, by rw [show max ok 1 = ok by omega]; exact hu⟩
  case fin =>
    rintro c st' ⟨hc, q, e, b, u⟩
    rw [show max (max ok 1) nrem = nrem by omega] at u
    exact ⟨hc, q, e, b, u⟩
  case step =>
    rintro k c st' hk1 hk2 ⟨rfl, q, rfl, b, u⟩
    have hbq := in_perm b.perm hb
    have zq : q.size = p.size := b.perm.size_eq
    dsimp only
    refine wpS_bind (wpS_mono (wpS_forRange (I := fun x c st'' => st'' = S κ it q pd mg ∧ ∃ l r, c = (none, l, r) ∧ l ≤ r ∧ r ≤ k ∧ r - l ≤ k - x ∧ (∀ i, i < l → lt (g q (lo + k)) (g q (lo + i)) = false) ∧ ∀ i, r ≤ i → i < k → lt (g q (lo + k)) (g q (lo + i)) = true)
      (Q := fun c st'' => st'' = S κ it q pd mg ∧ ∃ l r, c = (none, l, r) ∧ l ≤ k ∧ (∀ i, i < l → lt (g q (lo + k)) (g q (lo + i)) = false) ∧ ∀ i, l ≤ i → i < k → lt (g q (lo + k)) (g q (lo + i)) = true) ?step2 ?fin2 ⟨rfl, 0, k, rfl, Nat.zero_le _, Nat.le_refl _, by omega, fun i z => absurd z (by omega), fun i a1 a2 => absurd a2 (by omega)⟩) ?post2)
    case fin2 =>
      rintro c st' ⟨rfl, l, r, rfl, a1, a2, a3, a4, a5⟩
      exact ⟨rfl, l, r, rfl, by omega, a4, fun i b1 b2 => a5 i (by omega) b2⟩
    case step2 =>
      rintro x c st' _ hx ⟨rfl, l, r, rfl, a1, a2, a3, a4, a5⟩
      dsimp only
      refine wp_if (fun hlr => ?_) fun hlr => ?_
      · exact wpS_pure ⟨rfl, l, r, rfl, by omega, a4, fun i b1 b2 => a5 i (by omega) b2⟩
      · refine wpS_bind (ltAt_ok hq hbq (by omega) (by omega) ?_)
        cases e2 : lt (g q (lo + k)) (g q (lo + (l + r) / 2)) with
        | true =>
          dsimp only
          rw [if_pos rfl]
          exact wpS_pure ⟨rfl, l, (l + r) / 2, rfl, by omega, by omega, by omega, a4, fun i b1 b2 => W.lt_le e2 (u _ _ (by omega) (by omega) (by omega))⟩
        | false =>
          dsimp only
          rw [if_neg (by decide)]
          exact wpS_pure ⟨rfl, (l + r) / 2 + 1, r, rfl, by omega, by omega, by omega, fun i b1 => W.le_tr (u (lo + i) (lo + (l + r) / 2) (by omega) (by omega) (by omega)) e2, a5⟩
    case post2 =>
      rintro c st' ⟨rfl, l, r, rfl, a1, l2, l3⟩
      dsimp only
      refine wpS_bind (move_ok (wpS_pure ⟨rfl, _, rfl, ?_, ?_⟩))
      · refine b.trans ⟨bubble_perm _ _ _, fun i hi => ?_⟩
        rw [getElem?_bubble (by omega) _ (by omega), if_neg (by omega), if_neg (by omega)]
      · have at' : ∀ i, g (bubble q (lo + k) (lo + k - (lo + l))) i = if i = lo + l then g q (lo + k) else if lo + l < i ∧ i ≤ lo + k then g q (i - 1) else g q i := fun i => by
          have e := getElem?_bubble (xs := q) (src := lo + k) (by omega) (lo + k - (lo + l)) (by omega) i
          rw [show lo + k - (lo + k - (lo + l)) = lo + l by omega] at e
          by_cases h1 : i = lo + l
          · rw [if_pos h1] at e ⊢; exact g_of e
          · rw [if_neg h1] at e ⊢
            by_cases h2 : lo + l < i ∧ i ≤ lo + k
            · rw [if_pos h2] at e ⊢; exact g_of e
            · rw [if_neg h2] at e ⊢; exact g_of e
        intro i j h0 hij hj
        rw [at' i, at' j]
        have low : ∀ i, lo ≤ i → i < lo + l → lt (g q (lo + k)) (g q i) = false := fun i c1 c2 => by
          have := l2 (i - lo) (by omega)
          rwa [show lo + (i - lo) = i by omega] at this
        have hig : ∀ i, lo + l ≤ i → i < lo + k → lt (g q (lo + k)) (g q i) = true := fun i c1 c2 => by
          have := l3 (i - lo) (by omega) (by omega)
          rwa [show lo + (i - lo) = i by omega] at this
        by_cases i1 : i = lo + l
        · rw [if_pos i1]
          by_cases j1 : j = lo + l
          · rw [if_pos j1]; exact W.irr _
          · rw [if_neg j1, if_pos ⟨by omega, by omega⟩]
            exact W.le_of_lt (hig (j - 1) (by omega) (by omega))
        · rw [if_neg i1]
          by_cases i2 : lo + l < i ∧ i ≤ lo + k
          · rw [if_pos i2, if_neg (by omega), if_pos ⟨by omega, by omega⟩]
            exact u _ _ (by omega) (by omega) (by omega)
          · rw [if_neg i2]
            by_cases j1 : j = lo + l
            · rw [if_pos j1]; exact low i h0 (by omega)
            · rw [if_neg j1]
              by_cases j2 : lo + l < j ∧ j ≤ lo + k
              · rw [if_pos j2]; exact u _ _ (by omega) (by omega) (by omega)
              · rw [if_neg j2]; exact u _ _ (by omega) (by omega) (by omega)
end
end Tim
set_option maxHeartbeats 4000000
namespace Tim
open PySem PySem.W PyProof.Rows Srt
def gallop' : Bool → Keyed → Array Keyed → Nat → Nat → Nat → StateT SortSt Sem (Option Nat) := sortPriv% PySem.Builtin.gallop
def fl (it : Array Keyed) (L : List Nat) : Array Keyed := (L.map (kas_item it)).toArray
def Le (lt : Nat → Nat → Bool) (L : List Nat) : Prop := L.Pairwise fun x y => lt y x = false
def bv (lt : Nat → Nat → Bool) (left : Bool) (k x : Nat) : Bool := if left = true then lt x k else !(lt k x)
section
variable {it : Array Keyed}
theorem fl_push (O : List Nat) (z : Nat) : (fl it O).push (kas_item it z) = fl it (O ++ [z]) := by unfold fl; simp
theorem fl_app (O K : List Nat) : fl it O ++ fl it K = fl it (O ++ K) := by unfold fl; simp
theorem fl_size (L : List Nat) : (fl it L).size = L.length := by unfold fl; simp
theorem fl_ext (L : List Nat) (i j : Nat) : (fl it L).extract i j = fl it ((L.drop i).take (j - i)) := by
  unfold fl; simp [List.extract_eq_drop_take, List.map_take, List.map_drop]
theorem fl_end (L : List Nat) (i : Nat) : (fl it L).extract i = fl it (L.drop i) := by
  rw [fl_ext, fl_size, List.take_of_length_le (by rw [List.length_drop]; omega)]
theorem fl_take (L : List Nat) (i k : Nat) : (fl it L).extract i (i + k) = fl it ((L.drop i).take k) := by
  rw [fl_ext, show i + k - i = k by omega]
theorem fl_rev (L : List Nat) : (fl it L).reverse = fl it L.reverse := by unfold fl; simp
theorem fl_at (L : List Nat) {i : Nat} (h : i < L.length) : (fl it L)[i]? = some (kas_item it (L.getD i 0)) := by unfold fl; simp [h]
end
section
variable {prog : Program} {w : World} {A : Around} {E : Value → Shared → Prop} {s : Shared} {κ : SortKind} {it : Array Keyed} {n : Nat} {lt : Nat → Nat → Bool}
theorem elemL {L : List Nat} {i : Nat} {st : SortSt} {Q : Keyed → SortSt → Prop} (hi : i < L.length) (h : Q (kas_item it (L.getD i 0)) st) : wpS (model prog w) A E s (elem' (fl it L) i) Q st := by
  rw [elem'_eq, fl_at L hi]
  exact wpS_pure h
theorem gallop_ok (W : Swo lt) (hq : Ans prog w A s κ it n lt) {left : Bool} {kx cnt base hint : Nat} {L M : List Nat} {st : SortSt} {Q : Option Nat → SortSt → Prop} (hst : kindOf st = κ) (hk : kx < n) (hb : ∀ x ∈ M, x < n) (hl : M.length = cnt)
    (hM : ∀ i, i < cnt → L[base + i]? = M[i]?) (sM : Le lt M) (hh : hint < cnt) (h : ∀ k, k ≤ cnt → (∀ x ∈ M.take k, bv lt left kx x = true) → (∀ x ∈ M.drop k, bv lt left kx x = false) → Q (some k) st) :
    wpS (model prog w) A E s (gallop' left (kas_item it kx) (fl it L) base cnt hint) Q st := by
  let bey : Nat → Bool := fun i => bv lt left kx (M.getD i 0)
  have gM : ∀ i, i < cnt → L.getD (base + i) 0 = M.getD i 0 ∧ base + i < L.length := fun i hi => by
    have e := hM i hi
    refine ⟨by rw [List.getD_eq_getElem?_getD, List.getD_eq_getElem?_getD, e], ?_⟩
    rw [List.getElem?_eq_getElem (by omega : i < M.length)] at e
    exact (List.getElem?_eq_some_iff.mp e).1
  have inM : ∀ i, i < cnt → M.getD i 0 ∈ M := fun i hi => by
    rw [List.getD_eq_getElem?_getD, List.getElem?_eq_getElem (by omega : i < M.length)]
    exact List.getElem_mem _
  have le : ∀ i j, i ≤ j → j < cnt → lt (M.getD j 0) (M.getD i 0) = false := fun i j hij hj => by
    by_cases e : i = j
    · subst e; exact W.irr _
    · have := List.pairwise_iff_getElem.mp sM i j (by omega) (by omega) (by omega)
      rw [List.getD_eq_getElem?_getD, List.getD_eq_getElem?_getD, List.getElem?_eq_getElem (by omega : i < M.length), List.getElem?_eq_getElem (by omega : j < M.length)]
      exact this
  have mono : ∀ i j, i ≤ j → j < cnt → bey j = true → bey i = true := fun i j hij hj hb' => by
    have l := le i j hij hj
    show bv lt left kx (M.getD i 0) = true
    have hb' : bv lt left kx (M.getD j 0) = true := hb'
    unfold bv at hb' ⊢
    cases left with
    | true =>
      rw [if_pos rfl] at hb' ⊢
      rcases W.nt _ (M.getD i 0) _ hb' with q | q
      · rw [l] at q; cases q
      · exact q
    | false =>
      rw [if_neg (by decide)] at hb' ⊢
      cases e : lt kx (M.getD i 0) with
      | false => rfl
      | true => rw [W.lt_le e l] at hb'; cases hb'
  have mono' : ∀ i j, i ≤ j → j < cnt → bey i = false → bey j = false := fun i j hij hj hb' => by
    cases e : bey j with
    | false => rfl
    | true => rw [mono i j hij hj e] at hb'; cases hb'
  have bo : ∀ i (R : Option Bool → SortSt → Prop), i < cnt → R (some (bey i)) st → wpS (model prog w) A E s (elem' (fl it L) (base + i) >>= fun x => if left = true then lt' x (kas_item it kx) else (lt' (kas_item it kx) x >>= fun r => pure (r.map fun b => !b))) R st := fun i R hi hR => by
    obtain ⟨e1, e2⟩ := gM i hi
    refine wpS_bind (elemL e2 ?_)
    rw [e1]
    have hn := hb _ (inM i hi)
    have hR : R (some (bv lt left kx (M.getD i 0))) st := hR
    unfold bv at hR
    cases left with
    | true =>
      rw [if_pos rfl] at hR ⊢
      exact lt_ok hq hst hn hk hR
    | false =>
      rw [if_neg (by decide)] at hR ⊢
      exact wpS_bind (lt_ok hq hst hk hn (wpS_pure hR))
  have out : ∀ k, k ≤ cnt → (∀ i, i < k → bey i = true) → (∀ i, k ≤ i → i < cnt → bey i = false) → Q (some k) st := fun k hk h1 h2 => h k hk (fun x hx => by
      obtain ⟨i, hi, e⟩ := List.mem_iff_getElem.mp hx
      rw [List.length_take] at hi
      have := h1 i (by omega)
      have e2 : M.getD i 0 = x := by
        rw [List.getD_eq_getElem?_getD, List.getElem?_eq_getElem (by omega : i < M.length), ← e, List.getElem_take]; rfl
      rw [← e2]; exact this) fun x hx => by
      obtain ⟨i, hi, e⟩ := List.mem_iff_getElem.mp hx
      rw [List.length_drop] at hi
      have := h2 (k + i) (by omega) (by omega)
      have e2 : M.getD (k + i) 0 = x := by
        rw [List.getD_eq_getElem?_getD, List.getElem?_eq_getElem (by omega : k + i < M.length), ← e, List.getElem_drop]; rfl
      rw [← e2]; exact this
  have fin : ∀ (lo hi : Nat) (f : Nat → Option (Option Nat) × Nat × Nat → StateT SortSt Sem (ForInStep (Option (Option Nat) × Nat × Nat))), lo ≤ hi → hi ≤ cnt → (∀ i, i < lo → bey i = true) → (∀ i, hi ≤ i → i < cnt → bey i = false) →
      (∀ x lo hi, f x (none, lo, hi) = if lo ≥ hi then pure (ForInStep.done (none, lo, hi)) else ((elem' (fl it L) (base + (lo + (hi - lo) / 2)) >>= fun x => if left = true then lt' x (kas_item it kx) else (lt' (kas_item it kx) x >>= fun r => pure (r.map fun b => !b))) >>= fun r => match r with
        | some more => if more = true then pure (ForInStep.yield (none, lo + (hi - lo) / 2 + 1, hi)) else pure (ForInStep.yield (none, lo, lo + (hi - lo) / 2))
        | _ => pure (ForInStep.done (some none, lo, hi)))) →
      wpS (model prog w) A E s (forIn [0:cnt] ((none, lo, hi) : Option (Option Nat) × Nat × Nat) f) (fun c st' => st' = st ∧ ∃ lo hi, c = (none, lo, hi) ∧ Q (some hi) st) st := fun lo hi f a1 a2 a3 a4 hf => by
    refine wpS_forRange (I := fun x c st' => st' = st ∧ ∃ lo hi, c = (none, lo, hi) ∧ lo ≤ hi ∧ hi ≤ cnt ∧ hi - lo ≤ cnt - x ∧ (∀ i, i < lo → bey i = true) ∧ ∀ i, hi ≤ i → i < cnt → bey i = false) ?step ?fend ⟨rfl, lo, hi, rfl, a1, a2, by omega, a3, a4⟩
    case fend =>
      rintro c st' ⟨rfl, lo, hi, rfl, a1, a2, a3, a4, a5⟩
      have : lo = hi := by omega
      subst this
      exact ⟨rfl, lo, lo, rfl, out lo a2 a4 a5⟩
    case step =>
      rintro x c st' _ hx ⟨rfl, lo, hi, rfl, a1, a2, a3, a4, a5⟩
      rw [hf]
      refine wp_if (fun hlr => ?_) fun hlr => ?_
      · have : lo = hi := by omega
        subst this
        exact wpS_pure ⟨rfl, lo, lo, rfl, out lo a2 a4 a5⟩
      · refine wpS_bind (bo _ _ (by omega) ?_)
        cases e : bey (lo + (hi - lo) / 2) with
        | true =>
          dsimp only
          rw [if_pos rfl]
          exact wpS_pure ⟨rfl, _, hi, rfl, by omega, by omega, by omega, fun i hi' => mono i _ (by omega) (by omega) e, a5⟩
        | false =>
          dsimp only
          rw [if_neg (by decide)]
          exact wpS_pure ⟨rfl, lo, _, rfl, by omega, by omega, by omega, a4, fun i b1 b2 => mono' _ i b1 b2 e⟩
  refine wpS_bind (bo hint _ hh ?_)
  cases e0 : bey hint with
  | true =>
    dsimp only
    rw [if_pos rfl]
    refine wpS_bind (wpS_mono (wpS_forRange (I := fun x c st' => st' = st ∧ ∃ last ofs, c = (none, last, ofs) ∧ last < ofs ∧ hint + last < cnt ∧ x + 1 ≤ ofs ∧ bey (hint + last) = true)
      (Q := fun c st' => st' = st ∧ ∃ last ofs, c = (none, last, ofs) ∧ last < ofs ∧ hint + last < cnt ∧ bey (hint + last) = true ∧ (cnt - hint ≤ ofs ∨ bey (hint + ofs) = false)) ?s1 ?f1 ⟨rfl, 0, 1, rfl, by omega, by omega, by omega, e0⟩) ?p1)
    case f1 =>
      rintro c st' ⟨rfl, last, ofs, rfl, a1, a2, a3, a4⟩
      exact ⟨rfl, last, ofs, rfl, a1, a2, a4, .inl (by omega)⟩
    case s1 =>
      rintro x c st' _ hx ⟨rfl, last, ofs, rfl, a1, a2, a3, a4⟩
      refine wp_if (fun hlr => ?_) fun hlr => ?_
      · exact wpS_pure ⟨rfl, last, ofs, rfl, a1, a2, a4, .inl hlr⟩
      · dsimp only at hlr
        refine wpS_bind (bo (hint + ofs) _ (by omega) ?_)
        cases e : bey (hint + ofs) with
        | true => exact wpS_pure ⟨rfl, ofs, 2 * ofs + 1, rfl, by omega, by omega, by omega, e⟩
        | false => exact wpS_pure ⟨rfl, last, ofs, rfl, a1, a2, a4, .inr e⟩
    case p1 =>
      rintro c st' ⟨rfl, last, ofs, rfl, a1, a2, a3, a4⟩
      refine wpS_bind (wpS_mono (fin _ _ _ (by dsimp only; omega) (by dsimp only; omega) (fun i hi => mono i (hint + last) (by dsimp only at hi; omega) a2 a3) (fun i b1 b2 => ?_) fun x lo hi => rfl) ?_)
      · dsimp only at b1
        rcases a4 with a4 | a4
        · omega
        · exact mono' (hint + ofs) i (by omega) b2 a4
      · rintro c st' ⟨rfl, lo, hi, rfl, q⟩
        exact wpS_pure q
  | false =>
    dsimp only
    rw [if_neg (by decide)]
    refine wpS_bind (wpS_mono (wpS_forRange (I := fun x c st' => st' = st ∧ ∃ last ofs, c = (none, last, ofs) ∧ last < ofs ∧ last ≤ hint ∧ x + 1 ≤ ofs ∧ bey (hint - last) = false)
      (Q := fun c st' => st' = st ∧ ∃ last ofs, c = (none, last, ofs) ∧ last < ofs ∧ last ≤ hint ∧ bey (hint - last) = false ∧ (hint + 1 ≤ ofs ∨ bey (hint - ofs) = true)) ?s1 ?f1 ⟨rfl, 0, 1, rfl, by omega, by omega, by omega, e0⟩) ?p1)
    case f1 =>
      rintro c st' ⟨rfl, last, ofs, rfl, a1, a2, a3, a4⟩
      exact ⟨rfl, last, ofs, rfl, a1, a2, a4, .inl (by omega)⟩
    case s1 =>
      rintro x c st' _ hx ⟨rfl, last, ofs, rfl, a1, a2, a3, a4⟩
      refine wp_if (fun hlr => ?_) fun hlr => ?_
      · exact wpS_pure ⟨rfl, last, ofs, rfl, a1, a2, a4, .inl hlr⟩
      · dsimp only at hlr
        refine wpS_bind (bo (hint - ofs) _ (by omega) ?_)
        cases e : bey (hint - ofs) with
        | true => exact wpS_pure ⟨rfl, last, ofs, rfl, a1, a2, a4, .inr e⟩
        | false => exact wpS_pure ⟨rfl, ofs, 2 * ofs + 1, rfl, by omega, by omega, by omega, e⟩
    case p1 =>
      rintro c st' ⟨rfl, last, ofs, rfl, a1, a2, a3, a4⟩
      refine wpS_bind (wpS_mono (fin _ _ _ (by dsimp only; omega) (by dsimp only; omega) (fun i hi => ?_) (fun i b1 b2 => mono' (hint - last) i b1 b2 a3) fun x lo hi => rfl) ?_)
      · dsimp only at hi
        rcases a4 with a4 | a4
        · omega
        · exact mono i (hint - ofs) (by omega) (by omega) a4
      · rintro c st' ⟨rfl, lo, hi, rfl, q⟩
        exact wpS_pure q
end
end Tim
set_option maxHeartbeats 4000000
namespace Tim
open PySem PySem.W PyProof.Rows Srt
def mergeLo' : Array Keyed → Array Keyed → StateT SortSt Sem (Array Keyed) := sortPriv% PySem.Builtin.mergeLo
def setMG' : Nat → StateT SortSt Sem Unit := sortPriv% PySem.Builtin.setMinGallop
def Dn (lt : Nat → Nat → Bool) (it : Array Keyed) (A B : List Nat) (r : Array Keyed) : Prop := ∃ R, r = fl it R ∧ R.Perm (A ++ B) ∧ Le lt R
structure Mi (lt : Nat → Nat → Bool) (A B O : List Nat) (ia ib : Nat) : Prop where
  la : Le lt (O ++ A.drop ia)
  lb : Le lt (O ++ B.drop ib)
  pm : (O ++ (A.drop ia ++ B.drop ib)).Perm (A ++ B)
  ls : ∀ A' y, A.drop ia = A' ++ [y] → ∀ z ∈ B.drop ib, lt y z = false
section
variable {lt : Nat → Nat → Bool} {it : Array Keyed} {A B O : List Nat} {ia ib : Nat} {o : Array Keyed}
theorem Le.app {X Y : List Nat} (h1 : Le lt X) (h2 : Le lt Y) (h : ∀ x ∈ X, ∀ y ∈ Y, lt y x = false) : Le lt (X ++ Y) := List.pairwise_append.mpr ⟨h1, h2, h⟩
theorem Le.left {X Y : List Nat} (h : Le lt (X ++ Y)) : Le lt X := (List.pairwise_append.mp h).1
theorem Le.right {X Y : List Nat} (h : Le lt (X ++ Y)) : Le lt Y := (List.pairwise_append.mp h).2.1
theorem Le.between {X Y : List Nat} (h : Le lt (X ++ Y)) : ∀ x ∈ X, ∀ y ∈ Y, lt y x = false := (List.pairwise_append.mp h).2.2
theorem Mi.a (M : Mi lt A B O ia ib) (k : Nat) (h : ∀ x ∈ (A.drop ia).take k, ∀ z ∈ B.drop ib, lt z x = false) : Mi lt A B (O ++ (A.drop ia).take k) (ia + k) ib := by
  have e : (A.drop ia).take k ++ A.drop (ia + k) = A.drop ia := by rw [← List.drop_drop, List.take_append_drop]
  have la : Le lt (O ++ (A.drop ia).take k ++ A.drop (ia + k)) := by rw [List.append_assoc, e]; exact M.la
  refine ⟨la, la.left.app M.lb.right fun x hx z hz => ?_, ?_, fun A' y he z hz => M.ls ((A.drop ia).take k ++ A') y (by rw [List.append_assoc, ← he, e]) z hz⟩
  · rcases List.mem_append.mp hx with hx | hx
    · exact M.lb.between x hx z hz
    · exact h x hx z hz
  · have := M.pm
    rw [← e] at this
    simpa [List.append_assoc] using this
theorem Mi.b (M : Mi lt A B O ia ib) (k : Nat) (h : ∀ x ∈ (B.drop ib).take k, ∀ z ∈ A.drop ia, lt z x = false) : Mi lt A B (O ++ (B.drop ib).take k) ia (ib + k) := by
  have e : (B.drop ib).take k ++ B.drop (ib + k) = B.drop ib := by rw [← List.drop_drop, List.take_append_drop]
  have lb : Le lt (O ++ (B.drop ib).take k ++ B.drop (ib + k)) := by rw [List.append_assoc, e]; exact M.lb
  refine ⟨lb.left.app M.la.right fun x hx z hz => ?_, lb, ?_, fun A' y he z hz => M.ls A' y he z (by rw [← e]; exact List.mem_append_right _ hz)⟩
  · rcases List.mem_append.mp hx with hx | hx
    · exact M.la.between x hx z hz
    · exact h x hx z hz
  · have pm := M.pm
    rw [← e] at pm
    refine List.Perm.trans ?_ pm
    rw [List.append_assoc]
    refine List.Perm.append_left O ?_
    rw [← List.append_assoc, ← List.append_assoc]
    exact List.Perm.append_right _ List.perm_append_comm
theorem drop_cons {L : List Nat} {i : Nat} (h : i < L.length) : L.drop i = L.getD i 0 :: L.drop (i + 1) := by
  rw [List.drop_eq_getElem_cons h, List.getD_eq_getElem?_getD, List.getElem?_eq_getElem h]; rfl
theorem take1 {L : List Nat} {i : Nat} (h : i < L.length) : (L.drop i).take 1 = [L.getD i 0] := by rw [drop_cons h]; rfl
theorem Mi.a1 (M : Mi lt A B O ia ib) (hi : ia < A.length) (h : ∀ z ∈ B.drop ib, lt z (A.getD ia 0) = false) : Mi lt A B (O ++ [A.getD ia 0]) (ia + 1) ib := by
  have := M.a 1 (by rw [take1 hi]; intro x hx; rw [List.mem_singleton.mp hx]; exact h)
  rwa [take1 hi] at this
theorem Mi.b1 (M : Mi lt A B O ia ib) (hi : ib < B.length) (h : ∀ z ∈ A.drop ia, lt z (B.getD ib 0) = false) : Mi lt A B (O ++ [B.getD ib 0]) ia (ib + 1) := by
  have := M.b 1 (by rw [take1 hi]; intro x hx; rw [List.mem_singleton.mp hx]; exact h)
  rwa [take1 hi] at this
theorem le_head (W : Swo lt) {L : List Nat} {i : Nat} (h : Le lt (L.drop i)) (hi : i < L.length) : ∀ z ∈ L.drop i, lt z (L.getD i 0) = false := fun z hz => by
  rw [drop_cons hi] at h hz
  rcases List.mem_cons.mp hz with rfl | hz
  · exact W.irr _
  · exact (List.pairwise_cons.mp h).1 z hz
theorem Mi.doneB (ho : o = fl it O) (M : Mi lt A B O ia ib) (e : B.length ≤ ib) : Dn lt it A B (o ++ (fl it A).extract ia ++ (fl it B).extract ib) := by
  have eb : B.drop ib = [] := List.drop_eq_nil_of_le e
  refine ⟨O ++ A.drop ia ++ B.drop ib, by rw [ho, fl_end, fl_end, fl_app, fl_app], by rw [List.append_assoc]; exact M.pm, ?_⟩
  rw [eb, List.append_nil]
  exact M.la
theorem Mi.doneA (ho : o = fl it O) (M : Mi lt A B O ia ib) (e : A.length ≤ ia) : Dn lt it A B (o ++ (fl it A).extract ia ++ (fl it B).extract ib) := by
  have eb : A.drop ia = [] := List.drop_eq_nil_of_le e
  refine ⟨O ++ A.drop ia ++ B.drop ib, by rw [ho, fl_end, fl_end, fl_app, fl_app], by rw [List.append_assoc]; exact M.pm, ?_⟩
  rw [eb, List.append_nil]
  exact M.lb
theorem Mi.last (W : Swo lt) (ho : o = fl it O) (M : Mi lt A B O ia ib) (e : ia + 1 = A.length) : Dn lt it A B (o ++ (fl it B).extract ib ++ (fl it A).extract ia) := by
  have ea : A.drop ia = [A.getD ia 0] := by rw [drop_cons (by omega), List.drop_eq_nil_of_le (by omega)]
  refine ⟨O ++ B.drop ib ++ A.drop ia, by rw [ho, fl_end, fl_end, fl_app, fl_app], ?_, ?_⟩
  · rw [List.append_assoc]
    exact (List.Perm.append_left O List.perm_append_comm).trans M.pm
  · refine M.lb.app M.la.right fun x hx y hy => ?_
    rcases List.mem_append.mp hx with hx | hx
    · exact M.la.between x hx y hy
    · rw [ea] at hy
      rw [List.mem_singleton.mp hy]
      exact M.ls [] _ (by rw [ea]; rfl) x hx
theorem Mi.len (M : Mi lt A B O ia ib) : O.length + ((A.length - ia) + (B.length - ib)) = A.length + B.length := by
  have := M.pm.length_eq
  simpa using this
theorem szE {L : List Nat} {i : Nat} (e : (i == (fl it L).size) = true) : i = L.length := by simpa [fl_size] using e
theorem getD_mem {L : List Nat} {i : Nat} (h : i < L.length) : L.getD i 0 ∈ L := by
  rw [List.getD_eq_getElem?_getD, List.getElem?_eq_getElem h]
  exact List.getElem_mem h
end
section
variable {prog : Program} {w : World} {A₀ : Around} {E : Value → Shared → Prop} {s : Shared} {κ : SortKind} {it : Array Keyed} {n : Nat} {lt : Nat → Nat → Bool} {A B : List Nat} {p : Array Nat} {pd : Array (Nat × Nat × Nat)} {mg : Nat}
theorem smg_ok {m : Nat} {Q : Unit → SortSt → Prop} (h : Q () (S κ it p pd m)) : wpS (model prog w) A₀ E s (setMG' m) Q (S κ it p pd mg) := wpS_modify h
theorem mergeLo_ok (W : Swo lt) (hq : Ans prog w A₀ s κ it n lt) (nA : ∀ x ∈ A, x < n) (nB : ∀ x ∈ B, x < n) (lA : Le lt A) (lB : Le lt B) (zA : 1 ≤ A.length) (zB : 1 ≤ B.length) (hf : ∀ z ∈ A, lt z (B.getD 0 0) = false) (hl : ∀ A' y, A = A' ++ [y] → ∀ z ∈ B, lt y z = false) {Q : Array Keyed → SortSt → Prop}
    (h : ∀ r m, Dn lt it A B r → Q r (S κ it p pd m)) : wpS (model prog w) A₀ E s (mergeLo' (fl it A) (fl it B)) Q (S κ it p pd mg) := by
  have hT : (fl it A).size + (fl it B).size = A.length + B.length := by rw [fl_size, fl_size]
  have M0 : Mi lt A B [] 0 0 := ⟨lA, lB, .refl _, hl⟩
  have M1 : Mi lt A B [B.getD 0 0] 0 1 := M0.b1 (by omega) hf
  have kA : ∀ i, i < A.length → A.getD i 0 < n := fun i hi => nA _ (getD_mem hi)
  have kB : ∀ i, i < B.length → B.getD i 0 < n := fun i hi => nB _ (getD_mem hi)
  refine wpS_bind (wpS_lift (wpAny_rule ⟨rfl, ?_⟩))
  refine wpS_bind (elemL (by omega) ?_)
  refine wp_if (fun e => wpS_pure (h _ _ (M1.doneB rfl (by have := szE e; omega)))) fun e1 => ?_
  refine wp_if (fun e => wpS_pure (h _ _ (M1.last W rfl (by have := szE e; omega)))) fun e2 => ?_
  have e1 : ¬ 1 = B.length := by simpa [fl_size] using e1
  have e2 : ¬ 0 + 1 = A.length := by simpa [fl_size] using e2
  refine wpS_bind (wpS_get ?_)
  refine wpS_bind (wpS_mono (wpS_forRange (I := fun x c st' => ∃ O i j m m', c = (none, fl it O, i, j, m) ∧ st' = S κ it p pd m' ∧ Mi lt A B O i j ∧ i + 1 < A.length ∧ j < B.length ∧ x ≤ O.length)
    (Q := fun c st' => ∃ r o i j m m', c = (some r, o, i, j, m) ∧ st' = S κ it p pd m' ∧ Dn lt it A B r) ?s0 ?f0 ⟨[B.getD 0 0], 0, 1, _, _, rfl, rfl, M1, by omega, by omega, Nat.zero_le _⟩) ?p0)
  case f0 =>
    rintro c st' ⟨O, i, j, m, m', rfl, rfl, M, h1, h2, h3⟩
    have := M.len
    omega
  case p0 =>
    rintro c st' ⟨r, o, i, j, m, m', rfl, rfl, d⟩
    exact wpS_pure (h r m' d)
  case s0 =>
    rintro x c st' _ hx ⟨O, i, j, m, m', rfl, rfl, M, h1, h2, h3⟩
    dsimp only
    refine wpS_bind (wpS_mono (wpS_forRange (I := fun y c st' => ∃ O' i j a b, c = (none, fl it O', i, j, a, b) ∧ st' = S κ it p pd m' ∧ Mi lt A B O' i j ∧ i + 1 < A.length ∧ j < B.length ∧ O.length + y ≤ O'.length)
      (Q := fun c st' => (∃ r o i j a b, c = (some r, o, i, j, a, b) ∧ st' = S κ it p pd m' ∧ Dn lt it A B r) ∨ ∃ O' i j a b, c = (none, fl it O', i, j, a, b) ∧ st' = S κ it p pd m' ∧ Mi lt A B O' i j ∧ i + 1 < A.length ∧ j < B.length ∧ O.length + 1 ≤ O'.length) ?s1 ?f1 ⟨O, i, j, 0, 0, rfl, rfl, M, h1, h2, Nat.le_refl _⟩) ?p1)
    case f1 =>
      rintro c st' ⟨O', i, j, a, b, rfl, rfl, M, h1, h2, h3⟩
      exact .inr ⟨O', i, j, a, b, rfl, rfl, M, h1, h2, by omega⟩
    case s1 =>
      rintro y c st' _ hy ⟨O', i, j, a, b, rfl, rfl, M, h1, h2, h3⟩
      dsimp only
      refine wpS_bind (elemL h2 (wpS_bind (elemL (by omega) (wpS_bind (lt_ok hq rfl (kB j h2) (kA i (by omega)) ?_)))))
      cases e : lt (B.getD j 0) (A.getD i 0) with
      | true =>
        dsimp only
        rw [if_pos rfl]
        have M2 := M.b1 h2 fun z hz => W.le_of_lt (W.lt_le e (le_head W M.la.right (by omega) z hz))
        have zz : (O' ++ [B.getD j 0]).length = O'.length + 1 := by simp
        refine wpS_bind (elemL h2 ?_)
        refine wp_if (fun e => wpS_pure (.inl ⟨_, _, _, _, _, _, rfl, rfl, M2.doneB (fl_push _ _) (by have := szE e; omega)⟩)) fun e3 => ?_
        have e3 : ¬ j + 1 = B.length := by simpa [fl_size] using e3
        refine wp_if (fun _ => wpS_pure (.inr ⟨_, _, _, _, _, by rw [fl_push], rfl, M2, h1, by omega, by omega⟩)) fun _ => wpS_pure ⟨_, _, _, _, _, by rw [fl_push], rfl, M2, h1, by omega, by omega⟩
      | false =>
        dsimp only
        rw [if_neg (by decide)]
        have M2 := M.a1 (by omega) fun z hz => W.le_tr e (le_head W M.lb.right h2 z hz)
        have zz : (O' ++ [A.getD i 0]).length = O'.length + 1 := by simp
        refine wpS_bind (elemL (by omega) ?_)
        refine wp_if (fun e => wpS_pure (.inl ⟨_, _, _, _, _, _, rfl, rfl, M2.last W (fl_push _ _) (by have := szE e; omega)⟩)) fun e3 => ?_
        have e3 : ¬ i + 1 + 1 = A.length := by simpa [fl_size] using e3
        refine wp_if (fun _ => wpS_pure (.inr ⟨_, _, _, _, _, by rw [fl_push], rfl, M2, by omega, h2, by omega⟩)) fun _ => wpS_pure ⟨_, _, _, _, _, by rw [fl_push], rfl, M2, by omega, h2, by omega⟩
    case p1 =>
      rintro c st' (⟨r, o, i, j, a, b, rfl, rfl, d⟩ | ⟨O1, i, j, a, b, rfl, rfl, M, h1, h2, h4⟩)
      · exact wpS_pure ⟨r, _, _, _, _, m', rfl, rfl, d⟩
      · dsimp only
        refine wpS_bind (wpS_lift (wpAny_rule ⟨rfl, ?_⟩))
        refine wpS_bind (wpS_mono (wpS_forRange (I := fun y c st' => ∃ O' i j m2 a b m3, c = (none, fl it O', i, j, m2, a, b) ∧ st' = S κ it p pd m3 ∧ Mi lt A B O' i j ∧ i + 1 < A.length ∧ j < B.length ∧ O1.length ≤ O'.length)
          (Q := fun c st' => (∃ r o i j m2 a b m3, c = (some r, o, i, j, m2, a, b) ∧ st' = S κ it p pd m3 ∧ Dn lt it A B r) ∨ ∃ O' i j m2 a b m3, c = (none, fl it O', i, j, m2, a, b) ∧ st' = S κ it p pd m3 ∧ Mi lt A B O' i j ∧ i + 1 < A.length ∧ j < B.length ∧ O1.length ≤ O'.length) ?s2 ?f2 ⟨O1, i, j, _, _, _, _, rfl, rfl, M, h1, h2, Nat.le_refl _⟩) ?p2)
        case f2 => exact fun c st' q => .inr q
        case p2 =>
          rintro c st' (⟨r, o, i, j, m2, a, b, m3, rfl, rfl, d⟩ | ⟨O2, i, j, m2, a, b, m3, rfl, rfl, M, h1, h2, h5⟩)
          · exact wpS_pure ⟨r, _, _, _, _, m3, rfl, rfl, d⟩
          · dsimp only
            exact wpS_bind (smg_ok (wpS_pure ⟨O2, i, j, _, _, rfl, rfl, M, h1, h2, by omega⟩))
        case s2 =>
          rintro y c st' _ hy ⟨O, i, j, m2, a, b, m3, rfl, rfl, M, h1, h2, h3⟩
          dsimp only
          refine wp_if (fun _ => ?_) fun _ => ?_
          all_goals
            refine wpS_bind (smg_ok (wpS_bind (elemL h2 (wpS_bind (gallop_ok W hq (M := A.drop i) rfl (kB j h2) (fun x hx => nA x (List.mem_of_mem_drop hx)) (by rw [List.length_drop, fl_size]) (fun i' hi' => by rw [List.getElem?_drop]) M.la.right (by rw [fl_size]; omega) fun k hk ht hd => ?_)))))
            dsimp only
            have M2 := M.a k fun x hx z hz => W.le_tr (by have := ht x hx; unfold bv at this; rw [if_neg (by decide)] at this; simpa using this) (le_head W M.lb.right h2 z hz)
            have hd2 : ∀ z ∈ A.drop (i + k), lt (B.getD j 0) z = true := fun z hz => by
              have := hd z (by rw [List.drop_drop]; exact hz)
              unfold bv at this; rw [if_neg (by decide)] at this; simpa using this
            refine wp_if (fun hk0 => ?_) fun hk0 => ?_
            all_goals first
              | (have k1 : k > 0 := hk0
                 refine wp_if (fun e => wpS_pure (.inl ⟨_, _, _, _, _, _, _, _, rfl, rfl, M2.last W (by rw [fl_take, fl_app]) (by have := szE e; omega)⟩)) fun e3 => ?_
                 refine wp_if (fun e => wpS_pure (.inl ⟨_, _, _, _, _, _, _, _, rfl, rfl, M2.doneA (by rw [fl_take, fl_app]) (by have := szE e; omega)⟩)) fun e4 => ?_
                 have e3 : ¬ i + k + 1 = A.length := by simpa [fl_size] using e3
                 have e4 : ¬ i + k = A.length := by simpa [fl_size] using e4
                 have hk' : k ≤ A.length - i := by rw [fl_size] at hk; exact hk
                 obtain ⟨O', i', eO, ei, M3, h1', h3', hd3⟩ : ∃ O' i', fl it O' = fl it O ++ (fl it A).extract i (i + k) ∧ i' = i + k ∧ Mi lt A B O' i' j ∧ i' + 1 < A.length ∧ O.length ≤ O'.length ∧ ∀ z ∈ A.drop i', lt (B.getD j 0) z = true := ⟨_, _, by rw [fl_take, fl_app], rfl, M2, by omega, by simp, hd2⟩
                 rw [← eO, ← ei])
              | (have k0 : k = 0 := by omega
                 obtain ⟨O', i', eO, ei, M3, h1', h3', hd3⟩ : ∃ O' i', O' = O ∧ i' = i ∧ Mi lt A B O' i' j ∧ i' + 1 < A.length ∧ O.length ≤ O'.length ∧ ∀ z ∈ A.drop i', lt (B.getD j 0) z = true := ⟨_, _, rfl, rfl, M, h1, Nat.le_refl _, by rw [k0] at hd2; exact hd2⟩
                 rw [← eO, ← ei])
            all_goals
              have M4 := M3.b1 h2 fun z hz => W.le_of_lt (hd3 z hz)
              refine wpS_bind (elemL h2 ?_)
              refine wp_if (fun e => wpS_pure (.inl ⟨_, _, _, _, _, _, _, _, rfl, rfl, M4.doneB (fl_push _ _) (by have := szE e; omega)⟩)) fun e5 => ?_
              have e5 : ¬ j + 1 = B.length := by simpa [fl_size] using e5
              refine wpS_bind (elemL (by omega) (wpS_bind (gallop_ok W hq (M := B.drop (j + 1)) rfl (kA i' (by omega)) (fun x hx => nB x (List.mem_of_mem_drop hx)) (by rw [List.length_drop, fl_size]) (fun i' hi' => by rw [List.getElem?_drop]) M4.lb.right (by rw [fl_size]; omega) fun k2 hk2 ht2 hdd => ?_)))
              dsimp only
              have M5 := M4.b k2 fun x hx z hz => W.le_of_lt (W.lt_le (by have := ht2 x hx; unfold bv at this; rwa [if_pos rfl] at this) (le_head W M4.la.right (by omega) z hz))
              have hdd2 : ∀ z ∈ B.drop (j + 1 + k2), lt z (A.getD i' 0) = false := fun z hz => by
                have := hdd z (by rw [List.drop_drop]; exact hz)
                unfold bv at this; rwa [if_pos rfl] at this
              refine wp_if (fun hk0 => ?_) fun hk0 => ?_
              all_goals first
                | (have k1 : k2 > 0 := hk0
                   refine wp_if (fun e => wpS_pure (.inl ⟨_, _, _, _, _, _, _, _, rfl, rfl, M5.doneB (by rw [fl_push, fl_take, fl_app]) (by have := szE e; omega)⟩)) fun e6 => ?_
                   have e6 : ¬ j + 1 + k2 = B.length := by simpa [fl_size] using e6
                   have hk2' : k2 ≤ B.length - (j + 1) := by rw [fl_size] at hk2; exact hk2
                   obtain ⟨O2, j', eO2, ej, M6, h2', h6', hd6⟩ : ∃ O2 j', fl it O2 = (fl it O').push (kas_item it (B.getD j 0)) ++ (fl it B).extract (j + 1) (j + 1 + k2) ∧ j' = j + 1 + k2 ∧ Mi lt A B O2 i' j' ∧ j' < B.length ∧ O.length ≤ O2.length ∧ ∀ z ∈ B.drop j', lt z (A.getD i' 0) = false := ⟨_, _, by rw [fl_push, fl_take, fl_app], rfl, M5, by omega, by simp; omega, hdd2⟩
                   rw [← eO2, ← ej])
                | (have k0 : k2 = 0 := by omega
                   obtain ⟨O2, j', eO2, ej, M6, h2', h6', hd6⟩ : ∃ O2 j', fl it O2 = (fl it O').push (kas_item it (B.getD j 0)) ∧ j' = j + 1 ∧ Mi lt A B O2 i' j' ∧ j' < B.length ∧ O.length ≤ O2.length ∧ ∀ z ∈ B.drop j', lt z (A.getD i' 0) = false := ⟨_, _, by rw [fl_push], rfl, M4, by omega, by simp; omega, by rw [k0] at hdd2; exact hdd2⟩
                   rw [← eO2, ← ej])
              all_goals
                have M7 := M6.a1 (by omega) hd6
                have zz : (O2 ++ [A.getD i' 0]).length = O2.length + 1 := by simp
                refine wpS_bind (elemL (by omega) ?_)
                refine wp_if (fun e => wpS_pure (.inl ⟨_, _, _, _, _, _, _, _, rfl, rfl, M7.last W (fl_push _ _) (by have := szE e; omega)⟩)) fun e7 => ?_
                have e7 : ¬ i' + 1 + 1 = A.length := by simpa [fl_size] using e7
                exact wp_if (fun _ => wpS_pure (.inr ⟨_, _, _, _, _, _, _, by rw [fl_push], rfl, M7, by omega, h2', by omega⟩)) fun _ => wpS_pure ⟨_, _, _, _, _, _, _, by rw [fl_push], rfl, M7, by omega, h2', by omega⟩
end
end Tim
set_option maxHeartbeats 4000000
namespace Tim
open PySem PySem.W PyProof.Rows Srt
def mergeHi' : Array Keyed → Array Keyed → StateT SortSt Sem (Array Keyed) := sortPriv% PySem.Builtin.mergeHi
structure Mh (lt : Nat → Nat → Bool) (A B O : List Nat) (na nb : Nat) : Prop where
  la : Le lt (A.take na ++ O)
  lb : Le lt (B.take nb ++ O)
  pm : ((A.take na ++ B.take nb) ++ O).Perm (A ++ B)
  fs : ∀ y B', B.take nb = y :: B' → ∀ z ∈ A.take na, lt z y = false
section
variable {lt : Nat → Nat → Bool} {it : Array Keyed} {A B O : List Nat} {na nb : Nat} {o : Array Keyed}
theorem take_split {L : List Nat} {k m : Nat} (h : k ≤ m) : L.take k ++ (L.take m).drop k = L.take m := by
  have := List.take_append_drop k (L.take m)
  rwa [List.take_take, Nat.min_eq_left h] at this
theorem Mh.a (M : Mh lt A B O na nb) {k : Nat} (hk : k ≤ na) (h : ∀ x ∈ (A.take na).drop k, ∀ z ∈ B.take nb, lt x z = false) : Mh lt A B ((A.take na).drop k ++ O) k nb := by
  have e := take_split (L := A) hk
  have la : Le lt (A.take k ++ ((A.take na).drop k ++ O)) := by rw [← List.append_assoc, e]; exact M.la
  refine ⟨la, M.lb.left.app la.right fun x hx z hz => ?_, ?_, fun y B' he z hz => M.fs y B' he z (by rw [← e]; exact List.mem_append_left _ hz)⟩
  · rcases List.mem_append.mp hz with hz | hz
    · exact h z hz x hx
    · exact M.lb.between x hx z hz
  · have pm := M.pm
    rw [← e] at pm
    refine List.Perm.trans ?_ pm
    rw [← List.append_assoc]
    refine List.Perm.append_right O ?_
    rw [List.append_assoc, List.append_assoc]
    exact List.Perm.append_left _ List.perm_append_comm
theorem Mh.b (M : Mh lt A B O na nb) {k : Nat} (hk : k ≤ nb) (h : ∀ x ∈ (B.take nb).drop k, ∀ z ∈ A.take na, lt x z = false) : Mh lt A B ((B.take nb).drop k ++ O) na k := by
  have e := take_split (L := B) hk
  have lb : Le lt (B.take k ++ ((B.take nb).drop k ++ O)) := by rw [← List.append_assoc, e]; exact M.lb
  refine ⟨M.la.left.app lb.right fun x hx z hz => ?_, lb, ?_, fun y B' he z hz => M.fs y (B' ++ (B.take nb).drop k) (e.symm.trans (by rw [he]; rfl)) z hz⟩
  · rcases List.mem_append.mp hz with hz | hz
    · exact h z hz x hx
    · exact M.la.between x hx z hz
  · have pm := M.pm
    rw [← e] at pm
    simpa [List.append_assoc] using pm
theorem take_last {L : List Nat} {k : Nat} (h1 : 1 ≤ k) (h2 : k ≤ L.length) : (L.take k).drop (k - 1) = [L.getD (k - 1) 0] := by
  have e : (L.take k).length = k := by rw [List.length_take]; omega
  rw [List.drop_eq_getElem_cons (by omega), List.drop_eq_nil_of_le (by omega), List.getElem_take, List.getD_eq_getElem?_getD, List.getElem?_eq_getElem (by omega)]
  rfl
theorem Mh.a1 (M : Mh lt A B O na nb) (h1 : 1 ≤ na) (h2 : na ≤ A.length) (h : ∀ z ∈ B.take nb, lt (A.getD (na - 1) 0) z = false) : Mh lt A B (A.getD (na - 1) 0 :: O) (na - 1) nb := by
  have := M.a (k := na - 1) (by omega) (by rw [take_last h1 h2]; intro x hx; rw [List.mem_singleton.mp hx]; exact h)
  rwa [take_last h1 h2] at this
theorem Mh.b1 (M : Mh lt A B O na nb) (h1 : 1 ≤ nb) (h2 : nb ≤ B.length) (h : ∀ z ∈ A.take na, lt (B.getD (nb - 1) 0) z = false) : Mh lt A B (B.getD (nb - 1) 0 :: O) na (nb - 1) := by
  have := M.b (k := nb - 1) (by omega) (by rw [take_last h1 h2]; intro x hx; rw [List.mem_singleton.mp hx]; exact h)
  rwa [take_last h1 h2] at this
theorem le_last (W : Swo lt) {L : List Nat} {k : Nat} (h : Le lt (L.take k)) (h1 : 1 ≤ k) (h2 : k ≤ L.length) : ∀ z ∈ L.take k, lt (L.getD (k - 1) 0) z = false := fun z hz => by
  rw [← take_split (L := L) (show k - 1 ≤ k by omega), take_last h1 h2] at h hz
  rcases List.mem_append.mp hz with hz | hz
  · exact h.between z hz _ (List.mem_singleton.mpr rfl)
  · rw [List.mem_singleton.mp hz]; exact W.irr _
theorem fl_take0 (L : List Nat) (k : Nat) : (fl it L).extract 0 k = fl it (L.take k) := by rw [fl_ext]; rfl
theorem fl_rpush (O : List Nat) (x : Nat) : (fl it O.reverse).push (kas_item it x) = fl it (x :: O).reverse := by rw [fl_push, List.reverse_cons]
theorem fl_rext (O L : List Nat) (k m : Nat) : fl it O.reverse ++ ((fl it L).extract k m).reverse = fl it ((L.take m).drop k ++ O).reverse := by
  rw [fl_ext, fl_rev, fl_app, List.reverse_append, List.drop_take]
theorem Mh.doneA (ho : o = fl it O.reverse) (M : Mh lt A B O na nb) (e : na = 0) : Dn lt it A B ((fl it A).extract 0 na ++ (fl it B).extract 0 nb ++ o.reverse) := by
  subst e
  refine ⟨A.take 0 ++ B.take nb ++ O, by rw [ho, fl_take0, fl_take0, fl_rev, List.reverse_reverse, fl_app, fl_app], M.pm, ?_⟩
  rw [List.take_zero, List.nil_append]
  exact M.lb
theorem Mh.doneB (ho : o = fl it O.reverse) (M : Mh lt A B O na nb) (e : nb = 0) : Dn lt it A B ((fl it A).extract 0 na ++ (fl it B).extract 0 nb ++ o.reverse) := by
  subst e
  refine ⟨A.take na ++ B.take 0 ++ O, by rw [ho, fl_take0, fl_take0, fl_rev, List.reverse_reverse, fl_app, fl_app], M.pm, ?_⟩
  rw [List.take_zero, List.append_nil]
  exact M.la
theorem Mh.first (ho : o = fl it O.reverse) (zB : 1 ≤ B.length) (M : Mh lt A B O na nb) (e : nb = 1) : Dn lt it A B ((fl it B).extract 0 nb ++ (fl it A).extract 0 na ++ o.reverse) := by
  subst e
  obtain ⟨y, B', rfl⟩ : ∃ y B', B = y :: B' := by
    cases B with
    | nil => simp at zB
    | cons y B' => exact ⟨y, B', rfl⟩
  refine ⟨(y :: B').take 1 ++ A.take na ++ O, by rw [ho, fl_take0, fl_take0, fl_rev, List.reverse_reverse, fl_app, fl_app], (List.Perm.append_right O List.perm_append_comm).trans M.pm, ?_⟩
  rw [List.append_assoc]
  refine M.lb.left.app M.la fun x hx z hz => ?_
  rcases List.mem_append.mp hz with hz | hz
  · have : x = y := by simpa using hx
    rw [this]
    exact M.fs y [] rfl z hz
  · exact M.lb.between x hx z hz
theorem Mh.len (M : Mh lt A B O na nb) (h1 : na ≤ A.length) (h2 : nb ≤ B.length) : na + nb + O.length = A.length + B.length := by
  have := M.pm.length_eq
  simp at this
  omega
end
section
variable {prog : Program} {w : World} {A₀ : Around} {E : Value → Shared → Prop} {s : Shared} {κ : SortKind} {it : Array Keyed} {n : Nat} {lt : Nat → Nat → Bool} {A B : List Nat} {p : Array Nat} {pd : Array (Nat × Nat × Nat)} {mg : Nat}
theorem mergeHi_ok (W : Swo lt) (hq : Ans prog w A₀ s κ it n lt) (nA : ∀ x ∈ A, x < n) (nB : ∀ x ∈ B, x < n) (lA : Le lt A) (lB : Le lt B) (zA : 1 ≤ A.length) (zB : 1 ≤ B.length) (hf : ∀ z ∈ A, lt z (B.getD 0 0) = false) (hl : ∀ z ∈ B, lt (A.getD (A.length - 1) 0) z = false) {Q : Array Keyed → SortSt → Prop}
    (h : ∀ r m, Dn lt it A B r → Q r (S κ it p pd m)) : wpS (model prog w) A₀ E s (mergeHi' (fl it A) (fl it B)) Q (S κ it p pd mg) := by
  have hT : (fl it A).size + (fl it B).size = A.length + B.length := by rw [fl_size, fl_size]
  have zA' : (fl it A).size = A.length := fl_size _
  have zB' : (fl it B).size = B.length := fl_size _
  have M0 : Mh lt A B [] A.length B.length := ⟨by simpa using lA, by simpa using lB, by simp, fun y B' e z hz => by
    rw [List.take_length] at e hz
    have := hf z hz
    rw [e] at this
    exact this⟩
  have M1 := M0.a1 zA (Nat.le_refl _) (by rw [List.take_length]; exact hl)
  have kA : ∀ i, i < A.length → A.getD i 0 < n := fun i hi => nA _ (getD_mem hi)
  have kB : ∀ i, i < B.length → B.getD i 0 < n := fun i hi => nB _ (getD_mem hi)
  refine wpS_bind (wpS_lift (wpAny_rule ⟨rfl, ?_⟩))
  dsimp only
  refine wpS_bind (elemL (L := A) (by omega) ?_)
  rw [zA', zB']
  refine wp_if (fun e => wpS_pure (h _ _ (M1.doneA rfl (by simpa using e)))) fun e1 => ?_
  refine wp_if (fun e => wpS_pure (h _ _ (M1.first rfl zB (by simpa using e)))) fun e2 => ?_
  have e1 : ¬ A.length - 1 = 0 := by simpa using e1
  have e2 : ¬ B.length = 1 := by simpa using e2
  refine wpS_bind (wpS_get ?_)
  refine wpS_bind (wpS_mono (wpS_forRange (I := fun x c st' => ∃ O i j m m', c = (none, i, j, fl it O.reverse, m) ∧ st' = S κ it p pd m' ∧ Mh lt A B O i j ∧ (1 ≤ i ∧ i ≤ A.length) ∧ (2 ≤ j ∧ j ≤ B.length) ∧ x ≤ O.length)
    (Q := fun c st' => ∃ r o i j m m', c = (some r, i, j, o, m) ∧ st' = S κ it p pd m' ∧ Dn lt it A B r) ?s0 ?f0 ⟨_, _, _, _, _, rfl, rfl, M1, by omega, by omega, Nat.zero_le _⟩) ?p0)
  case f0 =>
    rintro c st' ⟨O, i, j, m, m', rfl, rfl, M, h1, h2, h3⟩
    have := M.len h1.2 h2.2
    omega
  case p0 =>
    rintro c st' ⟨r, o, i, j, m, m', rfl, rfl, d⟩
    exact wpS_pure (h r m' d)
  case s0 =>
    rintro x c st' _ hx ⟨O, i, j, m, m', rfl, rfl, M, h1, h2, h3⟩
    dsimp only
    refine wpS_bind (wpS_mono (wpS_forRange (I := fun y c st' => ∃ O' i j a b, c = (none, i, j, fl it O'.reverse, a, b) ∧ st' = S κ it p pd m' ∧ Mh lt A B O' i j ∧ (1 ≤ i ∧ i ≤ A.length) ∧ (2 ≤ j ∧ j ≤ B.length) ∧ O.length + y ≤ O'.length)
      (Q := fun c st' => (∃ r o i j a b, c = (some r, i, j, o, a, b) ∧ st' = S κ it p pd m' ∧ Dn lt it A B r) ∨ ∃ O' i j a b, c = (none, i, j, fl it O'.reverse, a, b) ∧ st' = S κ it p pd m' ∧ Mh lt A B O' i j ∧ (1 ≤ i ∧ i ≤ A.length) ∧ (2 ≤ j ∧ j ≤ B.length) ∧ O.length + 1 ≤ O'.length) ?s1 ?f1 ⟨O, i, j, 0, 0, rfl, rfl, M, h1, h2, Nat.le_refl _⟩) ?p1)
    case f1 =>
      rintro c st' ⟨O', i, j, a, b, rfl, rfl, M, h1, h2, h3⟩
      exact .inr ⟨O', i, j, a, b, rfl, rfl, M, h1, h2, by omega⟩
    case s1 =>
      rintro y c st' _ hy ⟨O', i, j, a, b, rfl, rfl, M, h1, h2, h3⟩
      dsimp only
      refine wpS_bind (elemL (by omega) (wpS_bind (elemL (by omega) (wpS_bind (lt_ok hq rfl (kB (j - 1) (by omega)) (kA (i - 1) (by omega)) ?_)))))
      cases e : lt (B.getD (j - 1) 0) (A.getD (i - 1) 0) with
      | true =>
        dsimp only
        rw [if_pos rfl]
        have M2 := M.a1 h1.1 h1.2 fun z hz => W.le_tr (le_last W M.lb.left (by omega) h2.2 z hz) (W.le_of_lt e)
        have zz : (A.getD (i - 1) 0 :: O').length = O'.length + 1 := rfl
        refine wpS_bind (elemL (by omega) ?_)
        refine wp_if (fun e => wpS_pure (.inl ⟨_, _, _, _, _, _, rfl, rfl, M2.doneA (fl_rpush _ _) (by simpa using e)⟩)) fun e3 => ?_
        have e3 : ¬ i - 1 = 0 := by simpa using e3
        exact wp_if (fun _ => wpS_pure (.inr ⟨_, _, _, _, _, by rw [fl_rpush], rfl, M2, by omega, h2, by omega⟩)) fun _ => wpS_pure ⟨_, _, _, _, _, by rw [fl_rpush], rfl, M2, by omega, h2, by omega⟩
      | false =>
        dsimp only
        rw [if_neg (by decide)]
        have M2 := M.b1 (by omega) h2.2 fun z hz => W.le_tr (le_last W M.la.left h1.1 h1.2 z hz) e
        have zz : (B.getD (j - 1) 0 :: O').length = O'.length + 1 := rfl
        refine wpS_bind (elemL (by omega) ?_)
        refine wp_if (fun e => wpS_pure (.inl ⟨_, _, _, _, _, _, rfl, rfl, M2.first (fl_rpush _ _) zB (by simpa using e)⟩)) fun e3 => ?_
        have e3 : ¬ j - 1 = 1 := by simpa using e3
        exact wp_if (fun _ => wpS_pure (.inr ⟨_, _, _, _, _, by rw [fl_rpush], rfl, M2, h1, by omega, by omega⟩)) fun _ => wpS_pure ⟨_, _, _, _, _, by rw [fl_rpush], rfl, M2, h1, by omega, by omega⟩
    case p1 =>
      rintro c st' (⟨r, o, i, j, a, b, rfl, rfl, d⟩ | ⟨O1, i, j, a, b, rfl, rfl, M, h1, h2, h4⟩)
      · exact wpS_pure ⟨r, _, _, _, _, m', rfl, rfl, d⟩
      · dsimp only
        refine wpS_bind (wpS_lift (wpAny_rule ⟨rfl, ?_⟩))
        refine wpS_bind (wpS_mono (wpS_forRange (I := fun y c st' => ∃ O' i j m2 a b m3, c = (none, i, j, fl it O'.reverse, m2, a, b) ∧ st' = S κ it p pd m3 ∧ Mh lt A B O' i j ∧ (1 ≤ i ∧ i ≤ A.length) ∧ (2 ≤ j ∧ j ≤ B.length) ∧ O1.length ≤ O'.length)
          (Q := fun c st' => (∃ r o i j m2 a b m3, c = (some r, i, j, o, m2, a, b) ∧ st' = S κ it p pd m3 ∧ Dn lt it A B r) ∨ ∃ O' i j m2 a b m3, c = (none, i, j, fl it O'.reverse, m2, a, b) ∧ st' = S κ it p pd m3 ∧ Mh lt A B O' i j ∧ (1 ≤ i ∧ i ≤ A.length) ∧ (2 ≤ j ∧ j ≤ B.length) ∧ O1.length ≤ O'.length) ?s2 ?f2 ⟨O1, i, j, _, _, _, _, rfl, rfl, M, h1, h2, Nat.le_refl _⟩) ?p2)
        case f2 => exact fun c st' q => .inr q
        case p2 =>
          rintro c st' (⟨r, o, i, j, m2, a, b, m3, rfl, rfl, d⟩ | ⟨O2, i, j, m2, a, b, m3, rfl, rfl, M, h1, h2, h5⟩)
          · exact wpS_pure ⟨r, _, _, _, _, m3, rfl, rfl, d⟩
          · dsimp only
            exact wpS_bind (smg_ok (wpS_pure ⟨O2, i, j, _, _, rfl, rfl, M, h1, h2, by omega⟩))
        case s2 =>
          rintro y c st' _ hy ⟨O, i, j, m2, a, b, m3, rfl, rfl, M, h1, h2, h3⟩
          dsimp only
          refine wp_if (fun _ => ?_) fun _ => ?_
          all_goals
            refine wpS_bind (smg_ok (wpS_bind (elemL (by omega) (wpS_bind (gallop_ok W hq (M := A.take i) rfl (kB (j - 1) (by omega)) (fun x hx => nA x (List.mem_of_mem_take hx)) (by rw [List.length_take]; omega) (fun i' hi' => by rw [Nat.zero_add, List.getElem?_take, if_pos hi']) M.la.left (by omega) fun k hk ht hd => ?_)))))
            dsimp only
            have M2 := M.a hk fun x hx z hz => W.le_tr (le_last W M.lb.left (by omega) h2.2 z hz) (W.le_of_lt (by have := hd x hx; unfold bv at this; rw [if_neg (by decide)] at this; simpa using this))
            have ht2 : ∀ z ∈ A.take k, lt (B.getD (j - 1) 0) z = false := fun z hz => by
              have := ht z (by rw [List.take_take, Nat.min_eq_left hk]; exact hz)
              unfold bv at this; rw [if_neg (by decide)] at this; simpa using this
            refine wp_if (fun hk0 => ?_) fun hk0 => ?_
            all_goals first
              | (have k1 : i - k > 0 := hk0
                 refine wp_if (fun e => wpS_pure (.inl ⟨_, _, _, _, _, _, _, _, rfl, rfl, M2.doneA (fl_rext _ _ _ _) (by simpa using e)⟩)) fun e3 => ?_
                 have e3 : ¬ k = 0 := by simpa using e3
                 obtain ⟨O', i', eO, ei, M3, h1', h3', hd3⟩ : ∃ O' i', fl it O'.reverse = fl it O.reverse ++ ((fl it A).extract k i).reverse ∧ i' = k ∧ Mh lt A B O' i' j ∧ (1 ≤ i' ∧ i' ≤ A.length) ∧ O.length ≤ O'.length ∧ ∀ z ∈ A.take i', lt (B.getD (j - 1) 0) z = false := ⟨_, _, (fl_rext _ _ _ _).symm, rfl, M2, by omega, by simp, ht2⟩
                 rw [← eO, ← ei])
              | (have k0 : k = i := by omega
                 obtain ⟨O', i', eO, ei, M3, h1', h3', hd3⟩ : ∃ O' i', O' = O ∧ i' = i ∧ Mh lt A B O' i' j ∧ (1 ≤ i' ∧ i' ≤ A.length) ∧ O.length ≤ O'.length ∧ ∀ z ∈ A.take i', lt (B.getD (j - 1) 0) z = false := ⟨_, _, rfl, rfl, M, h1, Nat.le_refl _, by rw [k0] at ht2; exact ht2⟩
                 rw [← eO, ← ei])
            all_goals
              have M4 := M3.b1 (by omega) h2.2 hd3
              refine wpS_bind (elemL (by omega) ?_)
              refine wp_if (fun e => wpS_pure (.inl ⟨_, _, _, _, _, _, _, _, rfl, rfl, M4.first (fl_rpush _ _) zB (by simpa using e)⟩)) fun e5 => ?_
              have e5 : ¬ j - 1 = 1 := by simpa using e5
              refine wpS_bind (elemL (by omega) (wpS_bind (gallop_ok W hq (M := B.take (j - 1)) rfl (kA (i' - 1) (by omega)) (fun x hx => nB x (List.mem_of_mem_take hx)) (by rw [List.length_take]; omega) (fun i' hi' => by rw [Nat.zero_add, List.getElem?_take, if_pos hi']) M4.lb.left (by omega) fun k2 hk2 ht2 hdd => ?_)))
              dsimp only
              have M5 := M4.b hk2 fun x hx z hz => W.le_tr (le_last W M4.la.left h1'.1 h1'.2 z hz) (by have := hdd x hx; unfold bv at this; rwa [if_pos rfl] at this)
              have htt2 : ∀ z ∈ B.take k2, lt (A.getD (i' - 1) 0) z = false := fun z hz => by
                have := ht2 z (by rw [List.take_take, Nat.min_eq_left hk2]; exact hz)
                unfold bv at this; rw [if_pos rfl] at this
                exact W.le_of_lt this
              refine wp_if (fun hk0 => ?_) fun hk0 => ?_
              all_goals first
                | (have k1 : j - 1 - k2 > 0 := hk0
                   refine wp_if (fun e => wpS_pure (.inl ⟨_, _, _, _, _, _, _, _, rfl, rfl, M5.first (by rw [fl_rpush, fl_rext]) zB (by simpa using e)⟩)) fun e6 => ?_
                   refine wp_if (fun e => wpS_pure (.inl ⟨_, _, _, _, _, _, _, _, rfl, rfl, M5.doneB (by rw [fl_rpush, fl_rext]) (by simpa using e)⟩)) fun e7 => ?_
                   have e6 : ¬ k2 = 1 := by simpa using e6
                   have e7 : ¬ k2 = 0 := by simpa using e7
                   obtain ⟨O2, j', eO2, ej, M6, h2', h6', hd6⟩ : ∃ O2 j', fl it O2.reverse = (fl it O'.reverse).push (kas_item it (B.getD (j - 1) 0)) ++ ((fl it B).extract k2 (j - 1)).reverse ∧ j' = k2 ∧ Mh lt A B O2 i' j' ∧ (2 ≤ j' ∧ j' ≤ B.length) ∧ O.length ≤ O2.length ∧ ∀ z ∈ B.take j', lt (A.getD (i' - 1) 0) z = false := ⟨_, _, by rw [fl_rpush, fl_rext], rfl, M5, by omega, by simp; omega, htt2⟩
                   rw [← eO2, ← ej])
                | (have k0 : k2 = j - 1 := by omega
                   obtain ⟨O2, j', eO2, ej, M6, h2', h6', hd6⟩ : ∃ O2 j', fl it O2.reverse = (fl it O'.reverse).push (kas_item it (B.getD (j - 1) 0)) ∧ j' = j - 1 ∧ Mh lt A B O2 i' j' ∧ (2 ≤ j' ∧ j' ≤ B.length) ∧ O.length ≤ O2.length ∧ ∀ z ∈ B.take j', lt (A.getD (i' - 1) 0) z = false := ⟨_, _, by rw [fl_rpush], rfl, M4, by omega, by simp; omega, by rw [k0] at htt2; exact htt2⟩
                   rw [← eO2, ← ej])
              all_goals
                have M7 := M6.a1 h1'.1 h1'.2 hd6
                have zz : (A.getD (i' - 1) 0 :: O2).length = O2.length + 1 := rfl
                refine wpS_bind (elemL (by omega) ?_)
                refine wp_if (fun e => wpS_pure (.inl ⟨_, _, _, _, _, _, _, _, rfl, rfl, M7.doneA (fl_rpush _ _) (by simpa using e)⟩)) fun e8 => ?_
                have e8 : ¬ i' - 1 = 0 := by simpa using e8
                exact wp_if (fun _ => wpS_pure (.inr ⟨_, _, _, _, _, _, _, by rw [fl_rpush], rfl, M7, by omega, h2', by omega⟩)) fun _ => wpS_pure ⟨_, _, _, _, _, _, _, by rw [fl_rpush], rfl, M7, by omega, h2', by omega⟩
end
end Tim
set_option maxHeartbeats 4000000
namespace Tim
open PySem PySem.W PyProof.Rows Srt
theorem put_all {α : Type} (sa : Nat) : ∀ (ms U P R : List α) (k : Nat), U.length = ms.length → P.length = sa + k → (ms.zipIdx k).foldl (fun (a : Array α) x => a.setIfInBounds (sa + x.2) x.1) (P ++ (U ++ R)).toArray = (P ++ (ms ++ R)).toArray
  | [], U, P, R, k, hu, hp => by
    have : U = [] := List.length_eq_zero_iff.mp hu
    subst this
    rfl
  | m :: ms, [], P, R, k, hu, hp => absurd hu (by simp)
  | m :: ms, u :: U, P, R, k, hu, hp => by
    rw [List.zipIdx_cons, List.foldl_cons]
    have e : (P ++ (u :: U ++ R)).toArray.setIfInBounds (sa + k) m = ((P ++ [m]) ++ (U ++ R)).toArray := by
      rw [List.setIfInBounds_toArray, ← hp]
      simp
    show (ms.zipIdx (k + 1)).foldl _ ((P ++ (u :: U ++ R)).toArray.setIfInBounds (sa + k) m) = _
    rw [e, put_all sa ms U (P ++ [m]) R (k + 1) (by simpa using hu) (by simp; omega)]
    simp
section
variable {prog : Program} {w : World} {A₀ : Around} {E : Value → Shared → Prop} {s : Shared} {κ : SortKind} {it : Array Keyed} {n : Nat} {lt : Nat → Nat → Bool} {p : Array Nat} {pd : Array (Nat × Nat × Nat)} {mg : Nat}
theorem wpS_set {st st' : SortSt} {Q : PUnit → SortSt → Prop} (h : Q ⟨⟩ st') : wpS (model prog w) A₀ E s (set st' : StateT SortSt Sem PUnit) Q st := by
  unfold wpS; rw [StateT.run_set]; exact wpAny_pure ⟨rfl, h⟩
theorem map_fl (p : Array Nat) : p.map (kas_item it) = fl it p.toList := by
  apply Array.toList_inj.mp
  unfold fl
  simp
theorem fl_map (L : List Nat) : (L.toArray).map (kas_item it) = fl it L := by rw [map_fl]
theorem split4 (l1 tx dx ty dy l2 : List Nat) : l1 ++ ((tx ++ dx) ++ ((ty ++ dy) ++ l2)) = (l1 ++ tx) ++ ((dx ++ ty) ++ (dy ++ l2)) := by simp
theorem le_join {X Y : List Nat} (W : Swo lt) (zY : 1 ≤ Y.length) (lX : Le lt X) (lY : Le lt Y) (h : ∀ x ∈ X, lt (Y.getD 0 0) x = false) : Le lt (X ++ Y) :=
  lX.app lY fun x hx y hy => W.le_tr (h x hx) (le_head (i := 0) W lY (by omega) y hy)
theorem mergeAt_ok (W : Swo lt) (hq : Ans prog w A₀ s κ it n lt) {i pw pw2 : Nat} {P1 P2 : List (Nat × Nat × Nat)} {L1 X Y L2 : List Nat} (hp : p.toList = L1 ++ (X ++ (Y ++ L2))) (hn : ∀ x ∈ p.toList, x < n) (hi : P1.length = i)
    (hpd : pd = (P1 ++ (L1.length, X.length, pw) :: (L1.length + X.length, Y.length, pw2) :: P2).toArray) (zX : 1 ≤ X.length) (zY : 1 ≤ Y.length) (lX : Le lt X) (lY : Le lt Y) {Q : Bool → SortSt → Prop}
    (h : ∀ Z (q : Array Nat) m, Z.Perm (X ++ Y) → Le lt Z → q.toList = L1 ++ (Z ++ L2) → Q true (S κ it q (P1 ++ (L1.length, X.length + Y.length, pw) :: P2).toArray m)) :
    wpS (model prog w) A₀ E s (mergeAt' i) Q (S κ it p pd mg) := by
  have e1 : pd[i]? = some (L1.length, X.length, pw) := by rw [hpd, ← hi]; simp
  have e2 : pd[i + 1]? = some (L1.length + X.length, Y.length, pw2) := by rw [hpd, ← hi]; simp
  have e3 : (pd.setIfInBounds i (L1.length, X.length + Y.length, pw)).eraseIdxIfInBounds (i + 1) = (P1 ++ (L1.length, X.length + Y.length, pw) :: P2).toArray := by
    rw [hpd, ← hi, List.setIfInBounds_toArray, List.eraseIdxIfInBounds_toArray]
    congr 1
    have a1 : (P1 ++ (L1.length, X.length, pw) :: (L1.length + X.length, Y.length, pw2) :: P2).set P1.length (L1.length, X.length + Y.length, pw) = P1 ++ (L1.length, X.length + Y.length, pw) :: (L1.length + X.length, Y.length, pw2) :: P2 := by simp
    rw [a1, List.eraseIdx_append_of_length_le (by omega), show P1.length + 1 - P1.length = 1 by omega]
    rfl
  have nX : ∀ x ∈ X, x < n := fun x hx => hn x (by rw [hp]; simp [hx])
  have nY : ∀ x ∈ Y, x < n := fun x hx => hn x (by rw [hp]; simp [hx])
  have aX : ∀ j, j < X.length → p.toList[L1.length + j]? = X[j]? := fun j hj => by
    rw [hp, List.getElem?_append_right (by omega), List.getElem?_append_left (by omega)]
    congr 1
    omega
  have aY : ∀ j, j < Y.length → p.toList[L1.length + X.length + j]? = Y[j]? := fun j hj => by
    rw [hp, List.getElem?_append_right (by omega), List.getElem?_append_right (by omega), List.getElem?_append_left (by omega)]
    congr 1
    omega
  have zp : p.toList.length = L1.length + (X.length + (Y.length + L2.length)) := by rw [hp]; simp
  refine wpS_bind (wpS_get ?_)
  show wpS (model prog w) A₀ E s (match (pd[i]?, pd[i + 1]?) with | (some (sa, na, power), some (sb, nb, _)) => _ | _ => _) Q (S κ it p pd mg)
  rw [e1, e2]
  dsimp only
  refine wpS_bind (wpS_set ?_)
  rw [e3]
  rw [map_fl]
  have k0 : p.toList.getD (L1.length + X.length) 0 = Y.getD 0 0 := by
    have := aY 0 (by omega)
    rw [List.getD_eq_getElem?_getD, List.getD_eq_getElem?_getD, ← this]; rfl
  refine wpS_bind (elemL (by omega) ?_)
  rw [k0]
  refine wpS_bind (gallop_ok W hq (M := X) rfl (nY _ (getD_mem (by omega))) nX rfl aX lX (by omega) fun k hk ht hd => ?_)
  dsimp only
  have ht' : ∀ x ∈ X.take k, lt (Y.getD 0 0) x = false := fun x hx => by
    have := ht x hx; unfold bv at this; rw [if_neg (by decide)] at this; simpa using this
  have hd' : ∀ x ∈ X.drop k, lt (Y.getD 0 0) x = true := fun x hx => by
    have := hd x hx; unfold bv at this; rw [if_neg (by decide)] at this; simpa using this
  have same : ∀ m, Le lt (X ++ Y) → Q true (SortSt.mk' κ (fl it p.toList) (P1 ++ (L1.length, X.length + Y.length, pw) :: P2).toArray m none) := fun m hle => by
    have := h (X ++ Y) p m (.refl _) hle (by rw [hp, List.append_assoc])
    rw [S, map_fl] at this
    exact this
  refine wp_if (fun e => wpS_pure ?_) fun e4 => ?_
  · have e : X.length - k = 0 := by simpa using e
    refine same _ (le_join W zY lX lY fun x hx => ht' x ?_)
    rw [List.take_of_length_le (by omega)]; exact hx
  have e4 : ¬ X.length - k = 0 := by simpa using e4
  have k1 : p.toList.getD (L1.length + k + (X.length - k) - 1) 0 = X.getD (X.length - 1) 0 := by
    have := aX (X.length - 1) (by omega)
    rw [show L1.length + k + (X.length - k) - 1 = L1.length + (X.length - 1) by omega, List.getD_eq_getElem?_getD, List.getD_eq_getElem?_getD, ← this]
  refine wpS_bind (elemL (by omega) ?_)
  rw [k1]
  refine wpS_bind (gallop_ok W hq (M := Y) rfl (nX _ (getD_mem (by omega))) nY rfl aY lY (by omega) fun k2 hk2 ht2 hd2 => ?_)
  dsimp only
  have lastX : ∀ z ∈ X, lt (X.getD (X.length - 1) 0) z = false := fun z hz => le_last (k := X.length) W (by rw [List.take_length]; exact lX) zX (Nat.le_refl _) z (by rw [List.take_length]; exact hz)
  have ht2' : ∀ y ∈ Y.take k2, lt y (X.getD (X.length - 1) 0) = true := fun x hx => by
    have := ht2 x hx; unfold bv at this; rwa [if_pos rfl] at this
  have hd2' : ∀ y ∈ Y.drop k2, lt y (X.getD (X.length - 1) 0) = false := fun x hx => by
    have := hd2 x hx; unfold bv at this; rwa [if_pos rfl] at this
  refine wp_if (fun e => wpS_pure ?_) fun e5 => ?_
  · have e : k2 = 0 := by simpa using e
    subst e
    exact same _ (lX.app lY fun x hx y hy => W.le_tr (lastX x hx) (hd2' y hy))
  have e5 : ¬ k2 = 0 := by simpa using e5
  have xe : (fl it p.toList).extract (L1.length + k) (L1.length + X.length) = fl it (X.drop k) := by
    rw [fl_ext, hp]
    congr 1
    rw [List.drop_append, List.drop_eq_nil_of_le (by omega), List.nil_append, List.drop_append_of_le_length (by omega), List.take_append_of_le_length (by rw [List.length_drop]; omega), List.take_of_length_le (by rw [List.length_drop]; omega)]
    congr 1
    omega
  have ye : (fl it p.toList).extract (L1.length + X.length) (L1.length + X.length + k2) = fl it (Y.take k2) := by
    rw [fl_take, hp]
    congr 1
    rw [← List.append_assoc, List.drop_append, List.drop_eq_nil_of_le (by rw [List.length_append]; omega), List.nil_append, List.length_append, Nat.sub_self, List.drop_zero, List.take_append_of_le_length hk2]
  rw [xe, ye]
  have lXd : Le lt (X.drop k) := List.Pairwise.sublist (List.drop_sublist _ _) lX
  have lYt : Le lt (Y.take k2) := List.Pairwise.sublist (List.take_sublist _ _) lY
  have gY : (Y.take k2).getD 0 0 = Y.getD 0 0 := by
    rw [List.getD_eq_getElem?_getD, List.getD_eq_getElem?_getD, List.getElem?_take, if_pos (by omega)]
  have gX : (X.drop k).getD ((X.drop k).length - 1) 0 = X.getD (X.length - 1) 0 := by
    rw [List.length_drop, List.getD_eq_getElem?_getD, List.getD_eq_getElem?_getD, List.getElem?_drop]
    congr 2
    omega
  have hl1 : ∀ z ∈ Y.take k2, lt (X.getD (X.length - 1) 0) z = false := fun z hz => W.le_of_lt (ht2' z hz)
  have hf1 : ∀ z ∈ X.drop k, lt z ((Y.take k2).getD 0 0) = false := fun z hz => by rw [gY]; exact W.le_of_lt (hd' z hz)
  have post : ∀ r m, Dn lt it (X.drop k) (Y.take k2) r → Q true (SortSt.mk' κ (r.toList.zipIdx.foldl (fun (a : Array Keyed) x => a.setIfInBounds (L1.length + k + x.2) x.1) (fl it p.toList)) (P1 ++ (L1.length, X.length + Y.length, pw) :: P2).toArray m none) := by
    rintro r m ⟨R, rfl, pm, le⟩
    have zR : R.length = (X.drop k ++ Y.take k2).length := pm.length_eq
    have ep : p.toList = (L1 ++ X.take k) ++ ((X.drop k ++ Y.take k2) ++ (Y.drop k2 ++ L2)) := by
      have := split4 L1 (X.take k) (X.drop k) (Y.take k2) (Y.drop k2) L2
      rw [List.take_append_drop, List.take_append_drop] at this
      rw [hp, this]
    have ef : (fl it R).toList.zipIdx.foldl (fun (a : Array Keyed) x => a.setIfInBounds (L1.length + k + x.2) x.1) (fl it p.toList) = fl it ((L1 ++ X.take k) ++ (R ++ (Y.drop k2 ++ L2))) := by
      have := put_all (L1.length + k) (R.map (kas_item it)) ((X.drop k ++ Y.take k2).map (kas_item it)) ((L1 ++ X.take k).map (kas_item it)) ((Y.drop k2 ++ L2).map (kas_item it)) 0 (by rw [List.length_map, List.length_map, zR]) (by rw [List.length_map, List.length_append, List.length_take]; omega)
      rw [← List.map_append, ← List.map_append, ← List.map_append, ← List.map_append, ← ep] at this
      exact this
    rw [ef, ← fl_map]
    refine h (X.take k ++ (R ++ Y.drop k2)) _ m ?_ ?_ (by simp [List.append_assoc])
    · have a1 : (X.take k ++ (R ++ Y.drop k2)).Perm (X.take k ++ ((X.drop k ++ Y.take k2) ++ Y.drop k2)) := List.Perm.append_left _ (List.Perm.append_right _ pm)
      refine a1.trans (List.Perm.of_eq ?_)
      have := split4 [] (X.take k) (X.drop k) (Y.take k2) (Y.drop k2) []
      rw [List.take_append_drop, List.take_append_drop] at this
      simpa using this.symm
    · have lXY : ∀ x ∈ X.take k, ∀ y ∈ Y, lt y x = false := fun x hx y hy => W.le_tr (ht' x hx) (le_head (i := 0) W lY (by omega) y hy)
      refine Le.app (List.Pairwise.sublist (List.take_sublist _ _) lX) (Le.app le (List.Pairwise.sublist (List.drop_sublist _ _) lY) fun x hx y hy => ?_) fun x hx y hy => ?_
      · rcases List.mem_append.mp (pm.mem_iff.mp hx) with hx | hx
        · exact W.le_tr (lastX x (List.mem_of_mem_drop hx)) (hd2' y hy)
        · have := lY
          rw [← List.take_append_drop k2 Y] at this
          exact this.between x hx y hy
      · rcases List.mem_append.mp hy with hy | hy
        · rcases List.mem_append.mp (pm.mem_iff.mp hy) with hy | hy
          · have := lX
            rw [← List.take_append_drop k X] at this
            exact this.between x hx y hy
          · exact lXY x hx y (List.mem_of_mem_take hy)
        · exact lXY x hx y (List.mem_of_mem_drop hy)
  rw [← map_fl p] at post ⊢
  refine wp_if (fun _ => ?_) fun _ => ?_
  · refine wpS_bind (mergeLo_ok W hq (fun x hx => nX x (List.mem_of_mem_drop hx)) (fun x hx => nY x (List.mem_of_mem_take hx)) lXd lYt (by rw [List.length_drop]; omega) (by rw [List.length_take]; omega) hf1 (fun A' y e z hz => ?_) fun r m d => ?_)
    · have : y = X.getD (X.length - 1) 0 := by
        rw [← gX, e]
        simp
      rw [this]
      exact hl1 z hz
    · exact wpS_bind (wpS_modify (wpS_bind (wpS_get (wpS_pure (post r m d)))))
  · refine wpS_bind (mergeHi_ok W hq (fun x hx => nX x (List.mem_of_mem_drop hx)) (fun x hx => nY x (List.mem_of_mem_take hx)) lXd lYt (by rw [List.length_drop]; omega) (by rw [List.length_take]; omega) hf1 (by rw [gX]; exact hl1) fun r m d => ?_)
    exact wpS_bind (wpS_modify (wpS_bind (wpS_get (wpS_pure (post r m d)))))
end
end Tim
set_option maxHeartbeats 4000000
namespace Tim
open PySem PySem.W PyProof.Rows Srt
def Rn (lt : Nat → Nat → Bool) : Nat → List (Nat × Nat × Nat) → List (List Nat) → Prop
  | _, [], [] => True
  | k, x :: ps, X :: gs => x.1 = k ∧ x.2.1 = X.length ∧ 1 ≤ X.length ∧ Le lt X ∧ Rn lt (k + X.length) ps gs
  | _, [], _ :: _ => False
  | _, _ :: _, [] => False
section
variable {lt : Nat → Nat → Bool}
theorem rn_split : ∀ (i k : Nat) (ps : List (Nat × Nat × Nat)) (gs : List (List Nat)), Rn lt k ps gs → i + 1 < ps.length → ∃ P1 pw pw2 P2 S1 X Y S2, ps = P1 ++ (k + S1.flatten.length, X.length, pw) :: (k + S1.flatten.length + X.length, Y.length, pw2) :: P2 ∧ gs = S1 ++ X :: Y :: S2 ∧ P1.length = i ∧
    1 ≤ X.length ∧ 1 ≤ Y.length ∧ Le lt X ∧ Le lt Y ∧ ∀ Z, Z.length = X.length + Y.length → Le lt Z → Rn lt k (P1 ++ (k + S1.flatten.length, X.length + Y.length, pw) :: P2) (S1 ++ Z :: S2)
  | 0, k, (a1, a2, pw) :: (b1, b2, pw2) :: P2, X :: Y :: S2, h, _ => by
    obtain ⟨e1, e2, z1, l1, f1, f2, z2, l2, r⟩ := h
    dsimp only at e1 e2 f1 f2
    subst e1 e2 f1 f2
    refine ⟨[], pw, pw2, P2, [], X, Y, S2, rfl, rfl, rfl, z1, z2, l1, l2, fun Z hz lz => ⟨rfl, by simpa using hz.symm, by omega, lz, ?_⟩⟩
    rw [hz, ← Nat.add_assoc]
    exact r
  | i + 1, k, x :: ps, X :: gs, h, hi => by
    obtain ⟨e1, e2, z1, l1, r⟩ := h
    obtain ⟨P1, pw, pw2, P2, S1, X', Y, S2, q1, q2, q3, q4, q5, q6, q7, q8⟩ := rn_split i (k + X.length) ps gs r (by simpa using hi)
    have ef : k + (X :: S1).flatten.length = k + X.length + S1.flatten.length := by rw [List.flatten_cons, List.length_append]; omega
    refine ⟨x :: P1, pw, pw2, P2, X :: S1, X', Y, S2, by rw [q1, ef]; rfl, by rw [q2]; rfl, by simp [q3], q4, q5, q6, q7, fun Z hz lz => ?_⟩
    rw [ef]
    exact ⟨e1, e2, z1, l1, q8 Z hz lz⟩
  | 0, k, [x], _, _, hi => absurd hi (by simp)
  | i, k, [], _, _, hi => absurd hi (by simp)
  | 0, k, _ :: _ :: _, [], h, _ => h.elim
  | 0, k, _ :: _ :: _, [_], h, _ => h.2.2.2.2.elim
  | i + 1, k, _ :: _, [], h, _ => h.elim
theorem rn_push {X : List Nat} {pw : Nat} (hx : 1 ≤ X.length) (lx : Le lt X) : ∀ {k : Nat} {ps : List (Nat × Nat × Nat)} {gs : List (List Nat)}, Rn lt k ps gs → Rn lt k (ps ++ [(k + gs.flatten.length, X.length, pw)]) (gs ++ [X])
  | k, [], [], _ => ⟨by simp, rfl, hx, lx, trivial⟩
  | k, x :: ps, Y :: gs, h => by
    obtain ⟨e1, e2, z1, l1, r⟩ := h
    refine ⟨e1, e2, z1, l1, ?_⟩
    have := rn_push hx lx r (pw := pw)
    have ef : k + (Y :: gs).flatten.length = k + Y.length + gs.flatten.length := by rw [List.flatten_cons, List.length_append]; omega
    rw [ef]
    exact this
  | k, [], _ :: _, h => h.elim
  | k, _ :: _, [], h => h.elim
theorem rn_congr : ∀ {k : Nat} {ps qs : List (Nat × Nat × Nat)} {gs : List (List Nat)}, ps.map (fun x => (x.1, x.2.1)) = qs.map (fun x => (x.1, x.2.1)) → Rn lt k ps gs → Rn lt k qs gs
  | k, [], [], _, _, h => h
  | k, x :: ps, y :: qs, Y :: gs, e, h => by
    obtain ⟨e1, e2, z1, l1, r⟩ := h
    rw [List.map_cons, List.map_cons] at e
    obtain ⟨ea, eb⟩ := List.cons.inj e
    obtain ⟨ea1, ea2⟩ := Prod.mk.inj ea
    exact ⟨ea1 ▸ e1, ea2 ▸ e2, z1, l1, rn_congr eb r⟩
  | k, [], _ :: _, _, e, _ => absurd e (by simp)
  | k, _ :: _, [], _, e, _ => absurd e (by simp)
  | k, _ :: _, _ :: _, [], _, h => h.elim
theorem rn_len : ∀ {k : Nat} {ps : List (Nat × Nat × Nat)} {gs : List (List Nat)}, Rn lt k ps gs → ps.length = gs.length ∧ gs.length ≤ gs.flatten.length
  | k, [], [], _ => ⟨rfl, Nat.zero_le _⟩
  | k, x :: ps, Y :: gs, h => by
    have := rn_len h.2.2.2.2
    have := h.2.2.1
    rw [List.flatten_cons, List.length_append, List.length_cons, List.length_cons]
    omega
  | k, [], _ :: _, h => h.elim
  | k, _ :: _, [], h => h.elim
theorem map_modify {α β : Type} (f : α → β) (g : α → α) (h : ∀ x, f (g x) = f x) (l : List α) (i : Nat) : (l.modify i g).map f = l.map f := by
  apply List.ext_getElem?
  intro j
  rw [List.getElem?_map, List.getElem?_map, List.getElem?_modify]
  by_cases e : i = j
  · simp [e, h, Function.comp_def]
  · simp [e]
theorem bh_split {lo : Nat} {p q : Array Nat} {F r : List Nat} (b : Bh lo p q) (hp : p.toList = F ++ r) (hF : F.length = lo) : ∃ r', q.toList = F ++ r' ∧ r'.length = r.length := by
  have hz : q.toList.length = F.length + r.length := by
    have := b.perm.size_eq
    rw [Array.length_toList, this, ← Array.length_toList, hp, List.length_append]
  refine ⟨q.toList.drop lo, ?_, by rw [List.length_drop]; omega⟩
  have : q.toList.take lo = F := by
    apply List.ext_getElem?
    intro j
    rw [List.getElem?_take]
    by_cases e : j < lo
    · rw [if_pos e]
      have := b.pre j e
      rw [Array.getElem?_toList, this, ← Array.getElem?_toList, hp, List.getElem?_append_left (by omega)]
    · rw [if_neg e, List.getElem?_eq_none (by omega)]
  conv => lhs; rw [← List.take_append_drop lo q.toList, this]
theorem up_le {lo m : Nat} {q : Array Nat} {F r : List Nat} (hu : UpL lt lo q (lo + m)) (hp : q.toList = F ++ r) (hF : F.length = lo) (hm : m ≤ r.length) : Le lt (r.take m) := by
  have at' : ∀ i, i < r.length → g q (lo + i) = r.getD i 0 := fun i hi => by
    unfold g
    rw [Array.getD_eq_getD_getElem?, ← Array.getElem?_toList, hp, List.getElem?_append_right (by omega), List.getD_eq_getElem?_getD, show lo + i - F.length = i by omega]
  refine List.pairwise_iff_getElem.mpr fun i j hi hj hij => ?_
  rw [List.length_take] at hi hj
  have := hu (lo + i) (lo + j) (by omega) (by omega) (by omega)
  rw [at' i (by omega), at' j (by omega), List.getD_eq_getElem?_getD, List.getD_eq_getElem?_getD, List.getElem?_eq_getElem (by omega), List.getElem?_eq_getElem (by omega)] at this
  rw [List.getElem_take, List.getElem_take]
  exact this
end
section
variable {prog : Program} {w : World} {A₀ : Around} {E : Value → Shared → Prop} {s : Shared} {κ : SortKind} {it : Array Keyed} {n : Nat} {lt : Nat → Nat → Bool} {p : Array Nat} {mg : Nat}
theorem merge_rn (W : Swo lt) (hq : Ans prog w A₀ s κ it n lt) {i : Nat} {ps : List (Nat × Nat × Nat)} {gs : List (List Nat)} {r : List Nat} (R : Rn lt 0 ps gs) (hp : p.toList = gs.flatten ++ r) (hn : ∀ x ∈ p.toList, x < n) (hi : i + 1 < ps.length) {Q : Bool → SortSt → Prop}
    (h : ∀ (q : Array Nat) ps' gs' m, ps'.length + 1 = ps.length → Rn lt 0 ps' gs' → q.toList = gs'.flatten ++ r → gs'.flatten.length = gs.flatten.length → q.Perm p → Q true (S κ it q ps'.toArray m)) : wpS (model prog w) A₀ E s (mergeAt' i) Q (S κ it p ps.toArray mg) := by
  obtain ⟨P1, pw, pw2, P2, S1, X, Y, S2, e1, e2, e3, zX, zY, lX, lY, hR⟩ := rn_split i 0 ps gs R hi
  simp only [Nat.zero_add] at e1 hR
  refine mergeAt_ok W hq (L1 := S1.flatten) (X := X) (Y := Y) (L2 := S2.flatten ++ r) (P1 := P1) (P2 := P2) (pw := pw) (pw2 := pw2) (by rw [hp, e2]; simp [List.append_assoc]) hn e3 (by rw [e1]) zX zY lX lY fun Z q m pm lZ eq => ?_
  have zZ : Z.length = X.length + Y.length := by rw [pm.length_eq, List.length_append]
  refine h q _ (S1 ++ Z :: S2) m (by rw [e1]; simp; omega) (hR Z zZ lZ) (by rw [eq]; simp [List.append_assoc]) (by rw [e2]; simp [zZ]; omega) ?_
  refine Array.perm_iff_toList_perm.mpr ?_
  rw [eq, hp, e2]
  have : (S1 ++ X :: Y :: S2).flatten ++ r = S1.flatten ++ ((X ++ Y) ++ (S2.flatten ++ r)) := by simp [List.append_assoc]
  rw [this]
  exact List.Perm.append_left _ (List.Perm.append_right _ pm)
theorem runs_ok (W : Swo lt) (hq : Ans prog w A₀ s κ it n lt) (hb : In n p) (hz : 2 ≤ p.size) {Q : Unit → SortSt → Prop} (h : ∀ (q : Array Nat) pd m, q.Perm p → Le lt q.toList → Q () (S κ it q pd m)) :
    wpS (model prog w) A₀ E s sortRuns' Q (S κ it p #[] 7) := by
  rw [sortRuns'_eq]
  refine wpS_bind (wpS_get ?_)
  have hs : (arrOf (S κ it p #[] 7)).size = p.size := Array.size_map ..
  dsimp only
  rw [hs]
  refine wpS_bind (wpS_mono (wpS_forRange (I := fun x c st' => ∃ (q : Array Nat) (ps : List (Nat × Nat × Nat)) (gs : List (List Nat)) (r : List Nat) (m : Nat), c = (none, gs.flatten.length) ∧ st' = S κ it q ps.toArray m ∧ Rn lt 0 ps gs ∧ q.toList = gs.flatten ++ r ∧ q.Perm p ∧ x ≤ gs.flatten.length)
    (Q := fun c st' => ∃ (q : Array Nat) (ps : List (Nat × Nat × Nat)) (gs : List (List Nat)) (m : Nat), c = (none, p.size) ∧ st' = S κ it q ps.toArray m ∧ Rn lt 0 ps gs ∧ q.toList = gs.flatten ∧ q.Perm p) ?s0 ?f0 ⟨p, [], [], p.toList, 7, rfl, rfl, trivial, rfl, .refl _, Nat.zero_le _⟩) ?p0)
  case f0 =>
    rintro c st' ⟨q, ps, gs, r, m, rfl, rfl, R, eq, pm, hx⟩
    have zq : gs.flatten.length + r.length = p.size := by rw [← pm.size_eq, ← Array.length_toList, eq, List.length_append]
    have : r = [] := List.length_eq_zero_iff.mp (by omega)
    subst this
    rw [List.append_nil] at eq
    exact ⟨q, ps, gs, m, by rw [← zq]; rfl, rfl, R, eq, pm⟩
  case s0 =>
    rintro x c st' _ hx ⟨q, ps, gs, r, m, rfl, rfl, R, eq, pm, hx'⟩
    have zq : gs.flatten.length + r.length = p.size := by rw [← pm.size_eq, ← Array.length_toList, eq, List.length_append]
    dsimp only
    refine wp_if (fun hge => wpS_pure ?_) fun hlt => ?_
    · have : r = [] := List.length_eq_zero_iff.mp (by omega)
      subst this
      rw [List.append_nil] at eq
      exact ⟨q, ps, gs, m, by rw [← zq]; rfl, rfl, R, eq, pm⟩
    · have hbq := in_perm pm hb
      have sq : q.size = p.size := pm.size_eq
      refine wpS_bind (count_ok W hq hbq (by omega) (by omega) fun q1 k b1 k1 k2 u1 => ?_)
      dsimp only
      have rest : ∀ (q2 : Array Nat) (k' : Nat), Bh gs.flatten.length q q2 → 1 ≤ k' → k' ≤ p.size - gs.flatten.length → UpL lt gs.flatten.length q2 (gs.flatten.length + k') → ∃ r', q2.toList = gs.flatten ++ r' ∧ ∀ (q3 : Array Nat) (ps3 : List (Nat × Nat × Nat)) (gs3 : List (List Nat)) (m3 : Nat), Rn lt 0 ps3 gs3 → q3.toList = gs3.flatten ++ r' → gs3.flatten.length = gs.flatten.length → q3.Perm q2 →
          ∃ (q : Array Nat) (ps : List (Nat × Nat × Nat)) (gs' : List (List Nat)) (r : List Nat) (m : Nat), ((none, gs.flatten.length + k') : Option Unit × Nat) = (none, gs'.flatten.length) ∧ SortSt.mk' κ (q3.map (kas_item it)) (ps3.toArray.push (gs.flatten.length, k', 0)) m3 none = S κ it q ps.toArray m ∧ Rn lt 0 ps gs' ∧ q.toList = gs'.flatten ++ r ∧ q.Perm p ∧ x + 1 ≤ gs'.flatten.length := fun q2 k' b2 f1 f2 u2 => by
        obtain ⟨r', er, zr⟩ := bh_split b2 eq rfl
        refine ⟨r', er, fun q3 ps3 gs3 m3 R3 e3 z3 pm3 => ?_⟩
        have lX := up_le u2 er rfl (by omega)
        have zX : (r'.take k').length = k' := by rw [List.length_take]; omega
        have R4 := rn_push (X := r'.take k') (pw := 0) (by omega) lX R3
        rw [zX, Nat.zero_add, z3] at R4
        have zf : (gs3 ++ [r'.take k']).flatten.length = gs.flatten.length + k' := by rw [List.flatten_append, List.length_append, z3]; simp; omega
        refine ⟨q3, _, _, r'.drop k', m3, by rw [zf], by rw [S, ← List.push_toArray], R4, ?_, (pm3.trans b2.perm).trans pm, by omega⟩
        rw [e3, List.flatten_append]
        simp [List.append_assoc]
      refine wp_if (fun hlt2 => wpS_bind (wpS_lift (wpAny_rule ⟨rfl, wpS_bind (bin_ok W hq (in_perm b1.perm hbq) k1 (by omega) (by have := b1.perm.size_eq; omega) u1 fun q2 b2 u2 => ?_)⟩))) fun hge2 => ?_
      all_goals first
        | (have b2' := b1.trans b2
           rw [if_neg (by decide)]
           have f2 : min (p.size - gs.flatten.length) (minRun' p.size p.size 0) ≤ p.size - gs.flatten.length := by omega
           have f1 : 1 ≤ min (p.size - gs.flatten.length) (minRun' p.size p.size 0) := by omega
           generalize min (p.size - gs.flatten.length) (minRun' p.size p.size 0) = k' at f1 f2 u2 ⊢)
        | (obtain ⟨q2, k', eq2, ek, b2', f1, f2, u2⟩ : ∃ q2 k', q2 = q1 ∧ k' = k ∧ Bh gs.flatten.length q q2 ∧ 1 ≤ k' ∧ k' ≤ p.size - gs.flatten.length ∧ UpL lt gs.flatten.length q2 (gs.flatten.length + k') := ⟨q1, k, rfl, rfl, b1, k1, k2, u1⟩
           rw [← eq2, ← ek])
      all_goals
        obtain ⟨r', er, fin⟩ := rest q2 k' b2' f1 f2 u2
        have hb2 := in_perm b2'.perm hbq
        refine wpS_bind (wpS_get ?_)
        split
        · refine wpS_bind (wpS_mono (wpS_forRange (I := fun _ c st' => c = (none, ()) ∧ ∃ (q3 : Array Nat) (ps3 : List (Nat × Nat × Nat)) (gs3 : List (List Nat)) (m3 : Nat), st' = S κ it q3 ps3.toArray m3 ∧ Rn lt 0 ps3 gs3 ∧ q3.toList = gs3.flatten ++ r' ∧ gs3.flatten.length = gs.flatten.length ∧ q3.Perm q2)
            (Q := fun c st' => c = (none, ()) ∧ ∃ (q3 : Array Nat) (ps3 : List (Nat × Nat × Nat)) (gs3 : List (List Nat)) (m3 : Nat), st' = S κ it q3 ps3.toArray m3 ∧ Rn lt 0 ps3 gs3 ∧ q3.toList = gs3.flatten ++ r' ∧ gs3.flatten.length = gs.flatten.length ∧ q3.Perm q2) ?_ (fun c st' q => q) ⟨rfl, q2, ps, gs, m, rfl, R, er, rfl, .refl _⟩) ?_)
          · rintro y c st' _ hy ⟨rfl, q3, ps3, gs3, m3, rfl, R3, e3, z3, pm3⟩
            refine wpS_bind (wpS_get ?_)
            split
            · rename_i hc
              have hsz : ps3.length > 1 := by
                by_cases hh : ps3.length > 1
                · exact hh
                · rw [if_neg (show ¬ ps3.toArray.size > 1 by simpa using hh)] at hc
                  cases hc
              refine wp_if (fun _ => wpS_pure ⟨rfl, q3, ps3, gs3, m3, rfl, R3, e3, z3, pm3⟩) fun _ => ?_
              refine wpS_bind (merge_rn W hq R3 e3 (fun x hx => ?_) ?_ fun q4 ps4 gs4 m4 a1 a2 a3 a4 a5 => ?_)
              · obtain ⟨j, hj, ej⟩ := List.mem_iff_getElem.mp hx
                have := in_perm pm3 hb2 j (by simpa using hj)
                unfold g at this
                rw [Array.getD_eq_getD_getElem?, ← Array.getElem?_toList, List.getElem?_eq_getElem hj, ej] at this
                exact this
              · show ps3.toArray.size - 2 + 1 < ps3.length
                rw [List.size_toArray]
                omega
              · rw [if_neg (by decide)]
                exact wpS_pure ⟨rfl, q4, ps4, gs4, m4, rfl, a2, a3, a4.trans z3, a5.trans pm3⟩
            · exact wpS_pure ⟨rfl, q3, ps3, gs3, m3, rfl, R3, e3, z3, pm3⟩
          · rintro c st' ⟨rfl, q3, ps3, gs3, m3, rfl, R3, e3, z3, pm3⟩
            dsimp only
            refine wpS_bind (wpS_modify (wpS_bind (wpS_modify (wpS_pure ?_))))
            have em : ∀ pw, (ps3.toArray.modify (ps3.toArray.size - 1) fun x => (x.1, x.2.1, pw)) = ((ps3.modify (ps3.toArray.size - 1) fun x => (x.1, x.2.1, pw))).toArray := fun pw => by
              apply Array.toList_inj.mp
              rw [Array.toList_modify]
            have fin2 := fun pw : Nat => fin q3 (ps3.modify (ps3.toArray.size - 1) fun x => (x.1, x.2.1, pw)) gs3 m3 (rn_congr (map_modify (fun x => (x.1, x.2.1)) (fun x => (x.1, x.2.1, pw)) (fun x => rfl) _ _).symm R3) e3 z3 pm3
            simp only [← em] at fin2
            exact fin2 _
        · exact wpS_bind (wpS_modify (wpS_pure (fin q2 ps gs m R er rfl (.refl _))))
  case p0 =>
    rintro c st' ⟨q, ps, gs, m, rfl, rfl, R, eq, pm⟩
    dsimp only
    have zq : gs.flatten.length = p.size := by rw [← pm.size_eq, ← Array.length_toList, eq]
    have zl := rn_len R
    refine wpS_bind (wpS_mono (wpS_forRange (I := fun x c st' => c = (none, ()) ∧ ∃ (q3 : Array Nat) (ps3 : List (Nat × Nat × Nat)) (gs3 : List (List Nat)) (m3 : Nat), st' = S κ it q3 ps3.toArray m3 ∧ Rn lt 0 ps3 gs3 ∧ q3.toList = gs3.flatten ∧ q3.Perm p ∧ ps3.length + x ≤ p.size)
      (Q := fun c st' => c = (none, ()) ∧ ∃ (q3 : Array Nat) (ps3 : List (Nat × Nat × Nat)) (gs3 : List (List Nat)) (m3 : Nat), st' = S κ it q3 ps3.toArray m3 ∧ Rn lt 0 ps3 gs3 ∧ q3.toList = gs3.flatten ∧ q3.Perm p ∧ ps3.length ≤ 1) ?s1 ?f1 ⟨rfl, q, ps, gs, m, rfl, R, eq, pm, by omega⟩) ?p1)
    case f1 =>
      rintro c st' ⟨rfl, q3, ps3, gs3, m3, rfl, R3, e3, pm3, hx⟩
      exact ⟨rfl, q3, ps3, gs3, m3, rfl, R3, e3, pm3, by omega⟩
    case s1 =>
      rintro y c st' _ hy ⟨rfl, q3, ps3, gs3, m3, rfl, R3, e3, pm3, hx⟩
      refine wpS_bind (wpS_get ?_)
      have hsz : (pendingOf (S κ it q3 ps3.toArray m3)).size = ps3.length := List.size_toArray
      rw [hsz]
      refine wp_if (fun hle => wpS_pure ⟨rfl, q3, ps3, gs3, m3, rfl, R3, e3, pm3, hle⟩) fun hgt => ?_
      refine wpS_bind (merge_rn W hq R3 (r := []) (by rw [List.append_nil]; exact e3) (fun x hx => ?_) ?_ fun q4 ps4 gs4 m4 a1 a2 a3 a4 a5 => ?_)
      · obtain ⟨j, hj, ej⟩ := List.mem_iff_getElem.mp hx
        have := in_perm pm3 hb j (by simpa using hj)
        unfold g at this
        rw [Array.getD_eq_getD_getElem?, ← Array.getElem?_toList, List.getElem?_eq_getElem hj, ej] at this
        exact this
      · have two : ∀ (c : Prop) [Decidable c], (if c then ps3.length - 2 - 1 else ps3.length - 2) + 1 < ps3.length := by
          intro c _
          split <;> omega
        exact two _
      · rw [if_neg (by decide)]
        rw [List.append_nil] at a3
        exact wpS_pure ⟨rfl, q4, ps4, gs4, m4, rfl, a2, a3, a5.trans pm3, by omega⟩
    case p1 =>
      rintro c st' ⟨rfl, q3, ps3, gs3, m3, rfl, R3, e3, pm3, hx⟩
      refine wpS_pure (h q3 _ m3 pm3 ?_)
      rw [e3]
      have zg := (rn_len R3).1
      match gs3, ps3, R3, zg with
      | [], _, _, _ => exact List.Pairwise.nil
      | [X], _ :: _, R3, _ => rw [List.flatten_cons, List.flatten_nil, List.append_nil]; exact R3.2.2.2.1
      | X :: Y :: gs, ps3, _, zg => rw [zg] at hx; simp at hx
end
end Tim
namespace L2
open PySem PySem.Spec PyProof.Rows
mutual
inductive DT (H : Hp) : V → PyData → Prop
  | non : DT H .non .none
  | bl (b : Bool) : DT H (.bl b) (.bool b)
  | int (i : Int) : DT H (.int i) (.int i)
  | str (z : Str) : DT H (.str z) (.str z)
  | tup {p : Addr} {xs : List V} {ds : List PyData} : H p = some (.tup xs) → DTs H xs ds → DT H (.ref p) (.tuple ds)
inductive DTs (H : Hp) : List V → List PyData → Prop
  | nil : DTs H [] []
  | cons {x : V} {xs : List V} {d : PyData} {ds : List PyData} : DT H x d → DTs H xs ds → DTs H (x :: xs) (d :: ds)
end
mutual
theorem DT.dv {K : PySem.W.Frag} {H : Hp} : ∀ {x : V} {d : PyData}, DT H x d → DV K H x d
  | _, _, .non => .non
  | _, _, .bl b => .bl b
  | _, _, .int i => .int i
  | _, _, .str z => .str z
  | _, _, .tup h t => .tup (SqT.of h) (DTs.dv t)
theorem DTs.dv {K : PySem.W.Frag} {H : Hp} : ∀ {xs : List V} {ds : List PyData}, DTs H xs ds → DVs K H xs ds
  | _, _, .nil => .nil
  | _, _, .cons h t => .cons (DT.dv h) (DTs.dv t)
end
section
variable {H : Hp}
end
theorem tup_ne {H : Hp} {a b : Addr} {xs : List V} {o : HO} (ha : H a = some (.tup xs)) (hb : H b = some o) (ho : ∀ ys, o ≠ .tup ys) : a ≠ b := fun e => by
  subst e
  rw [ha] at hb
  exact ho xs (Option.some.inj hb).symm
theorem lays_all : ∀ {xs : List PyData}, (∀ x ∈ xs, x.canLay0 = true) → PyData.canLayAll0 xs = true
  | [], _ => rfl
  | x :: xs, h => by
    show (x.canLay0 && PyData.canLayAll0 xs) = true
    rw [h x List.mem_cons_self, lays_all fun y hy => h y (List.mem_cons_of_mem _ hy)]
    rfl
theorem nd_add {α : Type} {l : List α} {x : α} (h : l.Nodup) (hx : x ∉ l) : (l ++ [x]).Nodup :=
  List.nodup_append.mpr ⟨h, List.nodup_cons.mpr ⟨fun z => (List.not_mem_nil z).elim, List.nodup_nil⟩, fun a ha b hb e => hx (by rw [List.mem_singleton.mp hb] at e; rw [← e]; exact ha)⟩
end L2
set_option maxHeartbeats 4000000
namespace L2
open PySem PySem.Spec PyProof.Rows
mutual
def sk : PyData → PyData → Bool
  | .none, .none => true
  | .bool _, .bool _ => true
  | .int _, .int _ => true
  | .str _, .str _ => true
  | .tuple xs, .tuple ys => sks xs ys
  | _, _ => false
def sks : List PyData → List PyData → Bool
  | [], _ => true
  | _ :: _, [] => true
  | x :: xs, y :: ys => sk x y && sks xs ys
end
mutual
def ltD : PyData → PyData → Bool
  | .bool a, .bool b => !a && b
  | .int i, .int j => decide (i < j)
  | .str x, .str y => decide (x.cps.toList < y.cps.toList)
  | .tuple xs, .tuple ys => ltDs xs ys
  | _, _ => false
def ltDs : List PyData → List PyData → Bool
  | [], [] => false
  | [], _ :: _ => true
  | _ :: _, [] => false
  | x :: xs, y :: ys => if PyData.eqv x y = true then ltDs xs ys else ltD x y
end
mutual
theorem sk_eq : ∀ (a b : PyData), sk a b = true → (PyData.eqv a b = true ↔ a = b)
  | .tuple xs, b, h => by
    cases b with
    | tuple ys => simp only [PyData.eqv, PyData.tuple.injEq]; exact sks_eq xs ys (by simpa [sk] using h)
    | _ => simp [sk] at h
  | .none, b, h => by cases b <;> simp_all [sk, PyData.eqv]
  | .bool _, b, h => by cases b <;> simp_all [sk, PyData.eqv]
  | .int _, b, h => by cases b <;> simp_all [sk, PyData.eqv]
  | .str _, b, h => by cases b <;> simp_all [sk, PyData.eqv]
  | .list _, b, h => by cases b <;> simp [sk] at h
  | .dict _, b, h => by cases b <;> simp [sk] at h
theorem sks_eq : ∀ (xs ys : List PyData), sks xs ys = true → (PyData.eqvAll xs ys = true ↔ xs = ys)
  | [], ys, _ => by cases ys <;> simp [PyData.eqvAll]
  | x :: xs, [], _ => by simp [PyData.eqvAll]
  | x :: xs, y :: ys, h => by
    rw [sks, Bool.and_eq_true] at h
    simp only [PyData.eqvAll, Bool.and_eq_true, sk_eq x y h.1, sks_eq xs ys h.2, List.cons.injEq]
end
theorem str_ext {x y : Str} (h : x.cps.toList = y.cps.toList) : x = y := by
  obtain ⟨a⟩ := x
  obtain ⟨b⟩ := y
  exact congrArg Str.mk (Array.ext' h)
mutual
theorem ltD_irr : ∀ a : PyData, ltD a a = false
  | .tuple xs => by rw [ltD]; exact ltDs_irr xs
  | .none => rfl
  | .bool b => by cases b <;> rfl
  | .int i => by simp [ltD]
  | .str x => by simp [ltD, List.lt_irrefl]
  | .list _ => rfl
  | .dict _ => rfl
theorem ltDs_irr : ∀ xs : List PyData, ltDs xs xs = false
  | [] => rfl
  | x :: xs => by
    rw [ltDs, ltDs_irr xs, ltD_irr x]
    split <;> rfl
end
mutual
theorem ltD_tot : ∀ (a b : PyData), sk a b = true → ltD a b = false → ltD b a = false → a = b
  | .tuple xs, b, h, h1, h2 => by
    cases b with
    | tuple ys => exact congrArg PyData.tuple (ltDs_tot xs ys (by simpa [sk] using h) (by simpa [ltD] using h1) (by simpa [ltD] using h2))
    | _ => simp [sk] at h
  | .none, b, h, _, _ => by cases b <;> simp_all [sk]
  | .bool a, b, h, h1, h2 => by
    cases b with
    | bool c => cases a <;> cases c <;> simp_all [ltD]
    | _ => simp [sk] at h
  | .int i, b, h, h1, h2 => by
    cases b with
    | int j => simp only [ltD, decide_eq_false_iff_not] at h1 h2; exact congrArg _ (by omega)
    | _ => simp [sk] at h
  | .str x, b, h, h1, h2 => by
    cases b with
    | str y =>
      simp only [ltD, decide_eq_false_iff_not] at h1 h2
      exact congrArg _ (str_ext (List.le_antisymm (List.not_lt.mp h2) (List.not_lt.mp h1)))
    | _ => simp [sk] at h
  | .list _, b, h, _, _ => by cases b <;> simp [sk] at h
  | .dict _, b, h, _, _ => by cases b <;> simp [sk] at h
theorem ltDs_tot : ∀ (xs ys : List PyData), sks xs ys = true → ltDs xs ys = false → ltDs ys xs = false → xs = ys
  | [], [], _, _, _ => rfl
  | [], _ :: _, _, h, _ => by simp [ltDs] at h
  | _ :: _, [], _, _, h => by simp [ltDs] at h
  | x :: xs, y :: ys, h, h1, h2 => by
    rw [sks, Bool.and_eq_true] at h
    by_cases e : x = y
    · subst e
      have ex : PyData.eqv x x = true := (sk_eq x x h.1).mpr rfl
      rw [ltDs, if_pos ex] at h1 h2
      rw [ltDs_tot xs ys h.2 h1 h2]
    · have e1 : ¬ PyData.eqv x y = true := fun z => e ((sk_eq x y h.1).mp z)
      have hs : sk y x = true := sk_symm x y h.1
      have e2 : ¬ PyData.eqv y x = true := fun z => e ((sk_eq y x hs).mp z).symm
      rw [ltDs, if_neg e1] at h1
      rw [ltDs, if_neg e2] at h2
      exact absurd (ltD_tot x y h.1 h1 h2) e
theorem sk_symm : ∀ (a b : PyData), sk a b = true → sk b a = true
  | .tuple xs, b, h => by
    cases b with
    | tuple ys => rw [sk]; exact sks_symm xs ys (by simpa [sk] using h)
    | _ => simp [sk] at h
  | .none, b, h => by cases b <;> simp_all [sk]
  | .bool _, b, h => by cases b <;> simp_all [sk]
  | .int _, b, h => by cases b <;> simp_all [sk]
  | .str _, b, h => by cases b <;> simp_all [sk]
  | .list _, b, h => by cases b <;> simp [sk] at h
  | .dict _, b, h => by cases b <;> simp [sk] at h
theorem sks_symm : ∀ (xs ys : List PyData), sks xs ys = true → sks ys xs = true
  | [], [], _ => rfl
  | [], _ :: _, _ => rfl
  | _ :: _, [], _ => rfl
  | x :: xs, y :: ys, h => by
    rw [sks, Bool.and_eq_true] at h ⊢
    exact ⟨sk_symm x y h.1, sks_symm xs ys h.2⟩
end
mutual
theorem ltD_tr : ∀ (a b c : PyData), sk a b = true → sk b c = true → sk a c = true → ltD a b = true → ltD b c = true → ltD a c = true
  | .tuple xs, b, c, h1, h2, h3, l1, l2 => by
    cases b with
    | tuple ys =>
      cases c with
      | tuple zs => rw [ltD]; exact ltDs_tr xs ys zs (by simpa [sk] using h1) (by simpa [sk] using h2) (by simpa [sk] using h3) (by simpa [ltD] using l1) (by simpa [ltD] using l2)
      | _ => simp [sk] at h3
    | _ => simp [sk] at h1
  | .none, b, c, _, _, _, l1, _ => by cases b <;> simp [ltD] at l1
  | .bool a, b, c, h1, h2, h3, l1, l2 => by
    cases b with
    | bool y =>
      cases c with
      | bool z => cases a <;> cases y <;> cases z <;> simp_all [ltD]
      | _ => simp [sk] at h3
    | _ => simp [sk] at h1
  | .int i, b, c, h1, h2, h3, l1, l2 => by
    cases b with
    | int y =>
      cases c with
      | int z => simp only [ltD, decide_eq_true_eq] at *; omega
      | _ => simp [sk] at h3
    | _ => simp [sk] at h1
  | .str i, b, c, h1, h2, h3, l1, l2 => by
    cases b with
    | str y =>
      cases c with
      | str z => simp only [ltD, decide_eq_true_eq] at *; exact List.lt_trans l1 l2
      | _ => simp [sk] at h3
    | _ => simp [sk] at h1
  | .list _, b, c, _, _, _, l1, _ => by cases b <;> simp [ltD] at l1
  | .dict _, b, c, _, _, _, l1, _ => by cases b <;> simp [ltD] at l1
theorem ltDs_tr : ∀ (xs ys zs : List PyData), sks xs ys = true → sks ys zs = true → sks xs zs = true → ltDs xs ys = true → ltDs ys zs = true → ltDs xs zs = true
  | _, _, [], _, _, _, _, l2 => by
    rename_i ys _ _ _ _
    cases ys <;> simp [ltDs] at l2
  | [], _, _ :: _, _, _, _, _, _ => rfl
  | x :: xs, [], _ :: _, _, _, _, l1, _ => by simp [ltDs] at l1
  | x :: xs, y :: ys, z :: zs, h1, h2, h3, l1, l2 => by
    rw [sks, Bool.and_eq_true] at h1 h2 h3
    by_cases e1 : x = y
    · subst e1
      have q1 : PyData.eqv x x = true := (sk_eq x x h1.1).mpr rfl
      rw [ltDs, if_pos q1] at l1
      by_cases e2 : x = z
      · subst e2
        rw [ltDs, if_pos q1] at l2 ⊢
        exact ltDs_tr xs ys zs h1.2 h2.2 h3.2 l1 l2
      · have q2 : ¬ PyData.eqv x z = true := fun w => e2 ((sk_eq x z h3.1).mp w)
        rw [ltDs, if_neg q2] at l2 ⊢
        exact l2
    · have q1 : ¬ PyData.eqv x y = true := fun w => e1 ((sk_eq x y h1.1).mp w)
      rw [ltDs, if_neg q1] at l1
      by_cases e2 : y = z
      · subst e2
        rw [ltDs, if_neg q1]
        exact l1
      · have q2 : ¬ PyData.eqv y z = true := fun w => e2 ((sk_eq y z h2.1).mp w)
        rw [ltDs, if_neg q2] at l2
        have l3 := ltD_tr x y z h1.1 h2.1 h3.1 l1 l2
        have q3 : ¬ PyData.eqv x z = true := fun w => by
          have := (sk_eq x z h3.1).mp w
          subst this
          rw [ltD_irr] at l3
          cases l3
        rw [ltDs, if_neg q3]
        exact l3
end
mutual
theorem ltD_nt : ∀ (a b c : PyData), sk a b = true → sk b c = true → sk a c = true → ltD a c = true → ltD a b = true ∨ ltD b c = true
  | .tuple xs, b, c, h1, h2, h3, l => by
    cases b with
    | tuple ys =>
      cases c with
      | tuple zs => rw [ltD, ltD]; exact ltDs_nt xs ys zs (by simpa [sk] using h1) (by simpa [sk] using h2) (by simpa [sk] using h3) (by simpa [ltD] using l)
      | _ => simp [sk] at h3
    | _ => simp [sk] at h1
  | .none, b, c, _, _, _, l => by cases c <;> simp [ltD] at l
  | .bool a, b, c, h1, h2, h3, l => by
    cases b with
    | bool y =>
      cases c with
      | bool z => cases a <;> cases y <;> cases z <;> simp_all [ltD]
      | _ => simp [sk] at h3
    | _ => simp [sk] at h1
  | .int i, b, c, h1, h2, h3, l => by
    cases b with
    | int y =>
      cases c with
      | int z => simp only [ltD, decide_eq_true_eq] at *; omega
      | _ => simp [sk] at h3
    | _ => simp [sk] at h1
  | .str i, b, c, h1, h2, h3, l => by
    cases b with
    | str y =>
      cases c with
      | str z =>
        simp only [ltD, decide_eq_true_eq] at *
        by_cases hab : i.cps.toList < y.cps.toList
        · exact .inl hab
        · exact .inr (List.lt_of_le_of_lt (List.not_lt.mp hab) l)
      | _ => simp [sk] at h3
    | _ => simp [sk] at h1
  | .list _, b, c, _, _, _, l => by cases c <;> simp [ltD] at l
  | .dict _, b, c, _, _, _, l => by cases c <;> simp [ltD] at l
theorem ltDs_nt : ∀ (xs ys zs : List PyData), sks xs ys = true → sks ys zs = true → sks xs zs = true → ltDs xs zs = true → ltDs xs ys = true ∨ ltDs ys zs = true
  | xs, _, [], _, _, _, l => by cases xs <;> simp [ltDs] at l
  | [], [], _ :: _, _, _, _, _ => .inr rfl
  | [], _ :: _, _ :: _, _, _, _, _ => .inl rfl
  | x :: xs, [], _ :: _, _, _, _, _ => .inr rfl
  | x :: xs, y :: ys, z :: zs, h1, h2, h3, l => by
    rw [sks, Bool.and_eq_true] at h1 h2 h3
    by_cases e3 : x = z
    · subst e3
      have q3 : PyData.eqv x x = true := (sk_eq x x h3.1).mpr rfl
      rw [ltDs, if_pos q3] at l
      by_cases e1 : x = y
      · subst e1
        rw [ltDs, if_pos q3, ltDs, if_pos q3]
        exact ltDs_nt xs ys zs h1.2 h2.2 h3.2 l
      · have q1 : ¬ PyData.eqv x y = true := fun w => e1 ((sk_eq x y h1.1).mp w)
        have q2 : ¬ PyData.eqv y x = true := fun w => e1 ((sk_eq y x h2.1).mp w).symm
        rw [ltDs, if_neg q1, ltDs, if_neg q2]
        cases p1 : ltD x y with
        | true => exact .inl rfl
        | false =>
          cases p2 : ltD y x with
          | true => exact .inr rfl
          | false => exact absurd (ltD_tot x y h1.1 p1 p2) e1
    · have q3 : ¬ PyData.eqv x z = true := fun w => e3 ((sk_eq x z h3.1).mp w)
      rw [ltDs, if_neg q3] at l
      rcases ltD_nt x y z h1.1 h2.1 h3.1 l with p | p
      · left
        have q1 : ¬ PyData.eqv x y = true := fun w => by
          have := (sk_eq x y h1.1).mp w
          subst this
          rw [ltD_irr] at p
          cases p
        rw [ltDs, if_neg q1]
        exact p
      · right
        have q2 : ¬ PyData.eqv y z = true := fun w => by
          have := (sk_eq y z h2.1).mp w
          subst this
          rw [ltD_irr] at p
          cases p
        rw [ltDs, if_neg q2]
        exact p
end
end L2
set_option maxHeartbeats 4000000
namespace L2
open PySem PySem.Spec PyProof.Rows
def LtAt (A : Around) (s : Shared) (x y : Value) (b : Bool) : Prop := ∀ (prog : Program) (w : World) (E : Value → Shared → Prop) (Q : Value → Shared → Prop), Q (.bool b) s → wpAny (model prog w) A (richCompare .Lt x y) Q E s
open SeqAt in
theorem tuple_ltAt (l b : Addr) (us vs : Array Value) (n n2 : Nat) (dd dd2 : Option Addr) (sl sl2 : Array (Option Value)) (e : Nat → Bool) (c : Bool) :
    Meets (Builtin.«tuple.__lt__» ⟨[.ref l, .ref b], []⟩)
      (fun A R s => s.heap.get? l = some { cls := .type "tuple", dict := dd, data := .seq us n, slots := sl } ∧ s.heap.get? b = some { cls := .type "tuple", dict := dd2, data := .seq vs n2, slots := sl2 } ∧
        (∀ j (h1 : j < us.size) (h2 : j < vs.size), EqAt A.in1 s us[j] vs[j] (e j)) ∧
        (∀ i (h1 : i < us.size) (h2 : i < vs.size), (∀ j, j < i → e j = true) → e i = false → LtAt A.in1 s us[i] vs[i] c) ∧
        ((∀ j, j < min us.size vs.size → e j = true) → c = decide (us.size < vs.size)) ∧ R (.ok (.ret (.bool c))) s) :=
  .of_wp fun prog w A R s h => by
    obtain ⟨hp, g, d, tk, os⟩ := s
    obtain ⟨hl, hb, he, hlt, hall, h⟩ := h
    have f2 := AutoSeq1.sub_tuple_tuple
    have hZ : (us.toList.zip vs.toList).length = min us.size vs.size := by simp
    wp_walk using wpAny_loadPart' hl, wpAny_loadPart' hb, wpAny_forIn_list _ (fun rest b s' => b.1 = none ∧ s' = ⟨hp, g, d, tk, os⟩ ∧ ∃ i, rest = (us.toList.zip vs.toList).drop i ∧ ∀ j, j < i → e j = true) _
    case turn =>
      rintro ⟨y, x⟩ rest b s' ⟨hb', rfl, i, hz, hi⟩
      have hlt' : i < (us.toList.zip vs.toList).length := by
        rcases Nat.lt_or_ge i (us.toList.zip vs.toList).length with h' | h'
        · exact h'
        · rw [List.drop_of_length_le h'] at hz; cases hz
      have h1 : i < us.size := by omega
      have h2 : i < vs.size := by omega
      rw [List.drop_eq_getElem_cons hlt'] at hz
      injection hz with hyx hrest
      have hy : y = us[i] := by have := congrArg Prod.fst hyx; simpa using this
      have hx : x = vs[i] := by have := congrArg Prod.snd hyx; simpa using this
      subst hy hx
      refine wpAny_bind (he i h1 h2 prog w _ _ ?_)
      cases hy : e i with
      | true =>
        wp_walk
        exact ⟨rfl, rfl, i + 1, hrest, fun j hj => by
          by_cases z : j = i
          · rw [z]; exact hy
          · exact hi j (by omega)⟩
      | false =>
        have q := hlt i h1 h2 hi hy
        dsimp only
        rw [if_pos (by rfl)]
        refine wpAny_bind (wpAny_rule (wpAny_bind (q prog w _ _ ?_)))
        exact wpAny_bind (wpAny_pure (wpAny_pure (wpAny_pure ⟨_, rfl, h⟩)))
    case fin =>
      rintro ⟨b1, b2⟩ s' ⟨hb', rfl, i, hz, hi⟩
      simp only at hb'
      subst hb'
      have hge : min us.size vs.size ≤ i := by
        rcases Nat.lt_or_ge i (us.toList.zip vs.toList).length with h' | h'
        · rw [List.drop_eq_getElem_cons h'] at hz; cases hz
        · omega
      have := hall fun j hj => hi j (by omega)
      wp_walk
      exact ⟨_, rfl, by rw [this] at h; simpa [Builtin.Tuple.tupleCompareSizes] using h⟩
    case h =>
      exact ⟨rfl, rfl, 0, rfl, fun j hj => absurd hj (Nat.not_lt_zero _)⟩
theorem LtAt.tuples {A : Around} {s : Shared} {l b : Addr} {us vs : Array Value} {e : Nat → Bool} {c : Bool} (hl : s.heap.IsTuple l us) (hb : s.heap.IsTuple b vs) (hu : A.units < cLine)
    (he : ∀ j (h1 : j < us.size) (h2 : j < vs.size), SeqAt.EqAt A.in1 s us[j] vs[j] (e j)) (hlt : ∀ i (h1 : i < us.size) (h2 : i < vs.size), (∀ j, j < i → e j = true) → e i = false → LtAt A.in1 s us[i] vs[i] c)
    (hall : (∀ j, j < min us.size vs.size → e j = true) → c = decide (us.size < vs.size)) : LtAt A s (.ref l) (.ref b) c := fun prog w E Q h => by
  obtain ⟨⟨cls, dd, data, sl⟩, ho, hc, n, hd⟩ := id hl
  obtain ⟨⟨cls2, dd2, data2, sl2⟩, ho2, hc2, n2, hd2⟩ := id hb
  simp only at hc hd hc2 hd2
  subst hc hd hc2 hd2
  exact richCompare_meets_room (op := .Lt) ⟨_, ho, rfl⟩ ⟨_, ho2, rfl⟩ F.slot_tuple_lt F.entry_tuple_lt (F.args_tuple_lt_2 _ _) (tuple_ltAt l b us vs n n2 dd dd2 sl sl2 e c)
    ⟨ho, ho2, he, hlt, hall, show Value.bool c ≠ Value.notImplemented ∧ Q (.bool c) s from ⟨(fun x => nomatch x), h⟩⟩ hu
theorem LtAt.ints {A : Around} {s : Shared} (i j : Int) (t u : Tok) : LtAt A s (.int i t) (.int j u) (decide (i < j)) := fun prog w E Q h => PyProof.Rows.lt_int h
theorem LtAt.strs {A : Around} {s : Shared} (i j : Str) (t u : Tok) : LtAt A s (.str i t) (.str j u) (decide (i.cps.toList < j.cps.toList)) := fun prog w E Q h => PyProof.Rows.lt_str h
theorem LtAt.bools {A : Around} {s : Shared} (i j : Bool) : LtAt A s (.bool i) (.bool j) (!i && j) := fun prog w E Q h => by
  refine PyProof.Rows.lt_bool ?_
  cases i <;> cases j <;> exact h
open SeqAt in
theorem ltDs_at : ∀ (xs ys : List PyData) (i : Nat), i < xs.length → i < ys.length → (∀ j, j < i → pairEq xs ys j = true) → pairEq xs ys i = false → ltDs xs ys = ltD (xs.getD i .none) (ys.getD i .none)
  | x :: xs, y :: ys, 0, _, _, _, h => by
    have h' : PyData.eqv x y = false := h
    rw [ltDs, if_neg (by rw [h']; decide)]
    rfl
  | x :: xs, y :: ys, i + 1, h1, h2, hj, h => by
    have h' : PyData.eqv x y = true := hj 0 (by omega)
    rw [ltDs, if_pos h']
    exact ltDs_at xs ys i (by simpa using h1) (by simpa using h2) (fun j hlt => hj (j + 1) (by omega)) h
  | [], _, _, h1, _, _, _ => absurd h1 (Nat.not_lt_zero _)
  | _ :: _, [], _, _, h2, _, _ => absurd h2 (Nat.not_lt_zero _)
open SeqAt in
theorem ltDs_all : ∀ (xs ys : List PyData), (∀ j, j < min xs.length ys.length → pairEq xs ys j = true) → ltDs xs ys = decide (xs.length < ys.length)
  | [], [], _ => rfl
  | [], _ :: _, _ => by simp [ltDs]
  | _ :: _, [], _ => by simp [ltDs]
  | x :: xs, y :: ys, h => by
    have h' : PyData.eqv x y = true := h 0 (by simp)
    rw [ltDs, if_pos h', ltDs_all xs ys fun j hj => h (j + 1) (by simp only [List.length_cons]; omega)]
    simp
theorem sks_at : ∀ (xs ys : List PyData) (i : Nat), i < xs.length → i < ys.length → sks xs ys = true → sk (xs.getD i .none) (ys.getD i .none) = true
  | x :: xs, y :: ys, 0, _, _, h => by rw [sks, Bool.and_eq_true] at h; exact h.1
  | x :: xs, y :: ys, i + 1, h1, h2, h => by
    rw [sks, Bool.and_eq_true] at h
    exact sks_at xs ys i (by simpa using h1) (by simpa using h2) h.2
  | [], _, _, h1, _, _ => absurd h1 (Nat.not_lt_zero _)
  | _ :: _, [], _, _, h2, _ => absurd h2 (Nat.not_lt_zero _)
theorem depth_at : ∀ (xs : List PyData) (i : Nat), i < xs.length → (xs.getD i .none).depth ≤ PyData.depthAll xs
  | x :: xs, 0, _ => by show x.depth ≤ max x.depth _; omega
  | x :: xs, i + 1, h => by
    have := depth_at xs i (by simpa using h)
    show (xs.getD i .none).depth ≤ max x.depth (PyData.depthAll xs)
    omega
  | [], _, h => absurd h (Nat.not_lt_zero _)
theorem reads_at {h : Heap} : ∀ {vs : List Value} {ds : List PyData} {as : List Addr} {i : Nat} (hi : i < vs.length), ReadsAll h vs ds as → ∃ bs, Reads h vs[i] (ds.getD i .none) bs
  | _, _, _, 0, _, .cons r _ => ⟨_, r⟩
  | _, _, _, i + 1, hi, .cons _ t => reads_at (i := i) (by simpa using hi) t
theorem lays_at {ds : List PyData} {i : Nat} (h : PyData.canLayAll0 ds = true) (hi : i < ds.length) : (ds.getD i .none).canLay0 = true :=
  lay_get (j := i) h (by rw [List.getD_eq_getElem?_getD, List.getElem?_eq_getElem hi]; rfl)
open SeqAt in
theorem lt_reads : ∀ (n : Nat) (da db : PyData) (A : Around) (s : Shared) (a b : Value) (as bs : List Addr), da.depth ≤ n → Reads s.heap a da as → Reads s.heap b db bs → da.canLay0 = true → db.canLay0 = true → sk da db = true → da ≠ .none →
    A.units + n < cLine → LtAt A s a b (ltD da db)
  | n, .int i, db, A, s, a, b, as, bs, _, ra, rb, _, _, hk, _, _ => by
    cases db <;> simp [sk] at hk
    cases ra; cases rb
    exact LtAt.ints _ _ _ _
  | n, .str i, db, A, s, a, b, as, bs, _, ra, rb, _, _, hk, _, _ => by
    cases db <;> simp [sk] at hk
    cases ra; cases rb
    exact LtAt.strs _ _ _ _
  | n, .bool i, db, A, s, a, b, as, bs, _, ra, rb, _, _, hk, _, _ => by
    cases db <;> simp [sk] at hk
    cases ra; cases rb
    exact LtAt.bools _ _
  | n, .none, db, A, s, a, b, as, bs, _, _, _, _, _, _, hn, _ => absurd rfl hn
  | n, .list _, db, A, s, a, b, as, bs, _, _, _, _, _, hk, _, _ => by cases db <;> simp [sk] at hk
  | n, .dict _, db, A, s, a, b, as, bs, _, _, _, _, _, hk, _, _ => by cases db <;> simp [sk] at hk
  | 0, .tuple xs, db, A, s, a, b, as, bs, hd, _, _, _, _, _, _, _ => by
    have : PyData.depthAll xs + 1 ≤ 0 := hd
    omega
  | n + 1, .tuple xs, db, A, s, a, b, as, bs, hd, ra, rb, ca, cb, hk, _, hu => by
    cases db with
    | tuple ys =>
      have hks : sks xs ys = true := by simpa [sk] using hk
      have hd' : PyData.depthAll xs ≤ n := by
        have : PyData.depthAll xs + 1 ≤ n + 1 := hd
        omega
      cases ra with
      | tuple h1 h2 h3 h4 =>
        cases rb with
        | tuple k1 k2 k3 k4 =>
          rename_i l o us m b' o' vs m'
          have lx := ReadsAll.length _ _ _ h4
          have ly := ReadsAll.length _ _ _ k4
          rw [Array.length_toList] at lx ly
          have e : ltD (.tuple xs) (.tuple ys) = ltDs xs ys := by rw [ltD]
          rw [e]
          have eq' : ∀ j (g1 : j < us.size) (g2 : j < vs.size), EqAt A.in1 s us[j] vs[j] (pairEq xs ys j) := fun j g1 g2 => by
            obtain ⟨p1, r1⟩ := reads_at (i := j) (by rw [Array.length_toList]; exact g1) h4
            obtain ⟨p2, r2⟩ := reads_at (i := j) (by rw [Array.length_toList]; exact g2) k4
            have dj := depth_at xs j (by omega)
            have := eqAt_reads (xs.getD j .none) (ys.getD j .none) A.in1 s _ _ _ _ r1 r2 (lays_at ca (by omega)) (lays_at cb (by omega)) (by show A.units + 1 + _ < cLine; omega)
            simp only [Array.getElem_toList] at this
            exact this
          refine LtAt.tuples ⟨_, h1, h2, _, h3⟩ ⟨_, k1, k2, _, k3⟩ (by omega) eq' (fun i g1 g2 hj hf => ?_) fun hj => ?_
          · obtain ⟨p1, r1⟩ := reads_at (i := i) (by rw [Array.length_toList]; exact g1) h4
            obtain ⟨p2, r2⟩ := reads_at (i := i) (by rw [Array.length_toList]; exact g2) k4
            rw [ltDs_at xs ys i (by omega) (by omega) hj hf]
            have ski := sks_at xs ys i (by omega) (by omega) hks
            have := lt_reads n (xs.getD i .none) (ys.getD i .none) A.in1 s _ _ _ _ (Nat.le_trans (depth_at xs i (by omega)) hd') r1 r2 (lays_at ca (by omega)) (lays_at cb (by omega)) ski (fun z => by
              have hf' : PyData.eqv (xs.getD i .none) (ys.getD i .none) = false := hf
              rw [z] at ski hf'
              cases e2 : ys.getD i .none <;> rw [e2] at ski hf' <;> simp [sk, PyData.eqv] at ski hf') (by show A.units + 1 + _ < cLine; omega)
            simpa using this
          · rw [ltDs_all xs ys fun j h => hj j (by omega), lx, ly]
    | _ => simp [sk] at hk
end L2
set_option maxHeartbeats 4000000
namespace L2
open PySem PySem.Spec PySem.W PyProof.Rows
section
variable {prog : Program} {w : World} {A : Around} {E : Value → Shared → Prop} {s : Shared}
def Ext (h h' : Heap) : Prop := ∀ b o, h.get? b = some o → h'.get? b = some o
theorem Ext.trans {h h' h'' : Heap} (a : Ext h h') (b : Ext h' h'') : Ext h h'' := fun c o e => b c o (a c o e)
theorem Ext.push (h : Heap) (o : Obj) : Ext h (h.push o) := fun _ _ e => Heap.get?_push_of_some _ e
theorem Ext.upd {h h' : Heap} {a : Addr} {f : Obj → Obj} (x : Ext h h') (ha : h.objs.size ≤ a) : Ext h (h'.update a f) := fun b o e => by
  rw [Heap.get?_update_ne _ _ _ _ (Nat.ne_of_lt (Nat.lt_of_lt_of_le (Heap.lt_size e) ha))]
  exact x b o e
def Answers (prog : Program) (w : World) (A : Around) (s : Shared) (ks : List Value) (lt : Nat → Nat → Bool) : Prop :=
  ∃ κ, (∀ (Q : SortKind → Shared → Prop), Q κ s → wpAny (model prog w) A (keyKind' ks.toArray) Q (fun _ _ => False) s) ∧ ∀ i j C, i < ks.length → j < ks.length → C (lt i j) s → kas_ask prog w A κ ks i j C s
def Arr (n : Nat) (lt : Nat → Nat → Bool) (p : Array Nat) : Prop := p.Perm (List.toArray (List.range n)) ∧ Srt.Up lt p n
theorem arr_small {n : Nat} {lt : Nat → Nat → Bool} (W : Srt.Swo lt) (h : n < 2) : Arr n lt (List.toArray (List.range n)) := by
  refine ⟨.refl _, fun i j hij hj => ?_⟩
  have : i = j := by omega
  subst this
  exact W.irr _
theorem small2000 {n : Nat} (h : n ≤ 2000) : n < sizeLine := Nat.lt_of_le_of_lt h (by decide)
theorem up_of_le {lt : Nat → Nat → Bool} (W : Srt.Swo lt) {q : Array Nat} {n : Nat} (hs : q.size = n) (h : Tim.Le lt q.toList) : Srt.Up lt q n := fun i j hij hj => by
  by_cases e : i = j
  · subst e; exact W.irr _
  · have := List.pairwise_iff_getElem.mp h i j (by rw [Array.length_toList]; omega) (by rw [Array.length_toList]; omega) (by omega)
    have a : ∀ k (hk : k < q.size), Srt.g q k = q.toList[k]'(by rw [Array.length_toList]; exact hk) := fun k hk => by unfold Srt.g; simp [Array.getD, hk]
    rw [a i (by omega), a j (by omega)]
    exact this
theorem sort_run {vs ks : List Value} {lt : Nat → Nat → Bool} (W : Srt.Swo lt) (hl : ks.length = vs.length) (h2 : ¬ vs.length < 2) {κ : SortKind} (hq : ∀ i j C, i < ks.length → j < ks.length → C (lt i j) s → kas_ask prog w A κ ks i j C s) {R : SortSt → Shared → Prop}
    (hR : ∀ st p, Arr vs.length lt p → (arrOf st).map (·.2) = List.toArray (p.toList.map fun i => vs.getD i Value.none) → failedOf st = none → R st s) :
    wpAny (model prog w) A ((sortRuns').run (SortSt.mk' κ (ks.toArray.zip vs.toArray) #[] 7 none)) (fun r s' => R r.2 s') E s := by
  have hz : (List.toArray (List.range vs.length)).size = vs.length := by simp
  have hq' : Tim.Ans prog w A s κ (ks.toArray.zip vs.toArray) vs.length lt := fun i j C h1 h2 c => by
    have := hq i j C (by omega) (by omega) c
    rw [kat_ask_eq hl] at this
    exact this
  have hin : Tim.In vs.length (List.toArray (List.range vs.length)) := fun i hi => by
    rw [hz] at hi
    unfold Srt.g
    rw [Array.getD_eq_getD_getElem?]
    simp [hi]
  have run := Tim.runs_ok (E := E) (Q := fun _ st => R st s) W hq' hin (by rw [hz]; omega) fun q pd m pm le => ?_
  · have est : SortSt.mk' κ (ks.toArray.zip vs.toArray) #[] 7 none = Tim.S κ (ks.toArray.zip vs.toArray) (List.toArray (List.range vs.length)) #[] 7 := by
      have e := kas_range (ks.toArray.zip vs.toArray)
      rw [show (ks.toArray.zip vs.toArray).size = vs.length by simp [hl]] at e
      rw [Tim.S, e]
    rw [est]
    refine wpAny_mono run (fun r s' h => ?_) fun _ _ e => e
    rw [h.1]
    exact h.2
  · exact hR _ q ⟨pm, up_of_le W (by rw [pm.size_eq, hz]) le⟩ (kat_snds hl rfl) rfl
end
end L2
set_option maxHeartbeats 4000000
namespace L2
open PySem PySem.Spec PySem.W PyProof.Rows
def isK : Nat → PyData → Prop
  | 0, .int _ => True
  | 1, .str _ => True
  | 2, .tuple (.int _ :: _) => True
  | 3, .tuple (.str _ :: _) => True
  | 4, .tuple (.tuple _ :: _) => True
  | _, _ => False
theorem isK_big (t : Nat) (d : PyData) : ¬ isK (t + 5) d := by
  intro h
  cases d with
  | tuple xs =>
    cases xs with
    | nil => exact h
    | cons x xs => cases x <;> exact h
  | _ => exact h
section
variable {prog : Program} {w : World} {A : Around} {s : Shared}
theorem oneLt_of {x y : Value} {c : Bool} (h : LtAt A s x y c) {Q : Bool → Shared → Prop} {E : Value → Shared → Prop} (q : Q c s) : wpAny (model prog w) A (oneLt' false x y) Q E s :=
  kat_one x y (h prog w E _ q)
theorem katlex {b fin : Bool} {Q : Bool → Shared → Prop} : ∀ (us vs : List Value) (xs ys : List PyData) (as bs : List Addr) (i : Nat), ReadsAll s.heap us xs as → ReadsAll s.heap vs ys bs → PyData.canLayAll0 xs = true → PyData.canLayAll0 ys = true → sks xs ys = true →
    PyData.depthAll xs ≤ 60 → A.units + 60 < cLine → (i = 0 → b = true → (∃ p q r r', xs = .int p :: r ∧ ys = .int q :: r') ∨ ∃ p q r r', xs = .str p :: r ∧ ys = .str q :: r') → fin = decide (us.length < vs.length) → Q (ltDs xs ys) s → KatLex prog w A b fin Q (us.zip vs) i s
  | [], vs, _, ys, _, _, i, .nil, rb, _, _, _, _, _, _, hf, q => by
    have ly := SeqAt.ReadsAll.length _ _ _ rb
    show Q fin s
    rw [hf]
    cases ys with
    | nil => rw [List.length_nil] at ly ⊢; rw [ly]; exact q
    | cons y ys => rw [ly]; exact q
  | u :: us, [], xs, _, _, _, i, ra, .nil, _, _, _, _, _, _, hf, q => by
    cases ra
    show Q fin s
    rw [hf]
    exact q
  | u :: us, v :: vs, _, _, _, _, i, .cons (d := x) (ds := xs) r1 t1, .cons (d := y) (ds := ys) r2 t2, ca, cb, hk, hd, hu, h0, hf, q => by
    have ca' : (x.canLay0 && PyData.canLayAll0 xs) = true := ca
    have cb' : (y.canLay0 && PyData.canLayAll0 ys) = true := cb
    rw [Bool.and_eq_true] at ca' cb'
    rw [sks, Bool.and_eq_true] at hk
    have hdx : x.depth ≤ 60 ∧ PyData.depthAll xs ≤ 60 := by
      have : max x.depth (PyData.depthAll xs) ≤ 60 := hd
      omega
    have eq' := SeqAt.eqAt_reads x y A s u v _ _ r1 r2 ca'.1 cb'.1 (by omega)
    refine kat_cons (eq' prog w _ _ ?_)
    cases e : PyData.eqv x y with
    | true =>
      rw [ltDs, if_pos e] at q
      refine kat_yes (katlex us vs xs ys _ _ (i + 1) t1 t2 ca'.2 cb'.2 hk.2 hdx.2 hu (fun z => by omega) ?_ q)
      rw [hf]
      simp
    | false =>
      rw [ltDs, if_neg (by rw [e]; decide)] at q
      refine kat_no ?_
      by_cases hb : (b && i == 0) = true
      · rw [hb]
        rw [Bool.and_eq_true] at hb
        rcases h0 (by simpa using hb.2) hb.1 with ⟨p, p', r, r', e1, e2⟩ | ⟨p, p', r, r', e1, e2⟩
        · cases e1; cases e2
          cases r1; cases r2
          exact oneLt_int q
        · cases e1; cases e2
          cases r1; cases r2
          exact oneLt_str q
      · rw [Bool.not_eq_true] at hb
        rw [hb]
        exact oneLt_of (lt_reads 60 x y A s u v _ _ hdx.1 r1 r2 ca'.1 cb'.1 hk.1 (fun z => by
          subst z
          have := hk.1
          cases y <;> simp [sk, PyData.eqv] at this e) hu) q
theorem firsts_of {s : Shared} : ∀ {vs : List Value} {ds : List PyData} {as : List Addr}, ReadsAll s.heap vs ds as → (∀ d ∈ ds, ∃ f r, d = .tuple (f :: r)) → ∃ fs, KatTups s.heap vs fs ∧ fs.length = vs.length ∧ ∀ v ∈ fs, ∃ f r bs, PyData.tuple (f :: r) ∈ ds ∧ Reads s.heap v f bs
  | [], _, _, .nil, _ => ⟨[], trivial, rfl, fun _ z => nomatch z⟩
  | v :: vs, _, _, .cons (d := d) (ds := ds) r t, h => by
    obtain ⟨fs, k1, k2, k3⟩ := firsts_of t fun x hx => h x (List.mem_cons_of_mem _ hx)
    obtain ⟨f, r', e⟩ := h d List.mem_cons_self
    subst e
    cases r with
    | tuple h1 h2 h3 h4 =>
      rename_i a o us n
      cases e : us.toList with
      | nil => rw [e] at h4; cases h4
      | cons u ut =>
        rw [e] at h4
        cases h4 with
        | cons q1 q2 =>
          refine ⟨u :: fs, KatTups.cons h1 h2 h3 (by rw [← Array.getElem?_toList, e]; rfl) k1, by rw [List.length_cons, List.length_cons, k2], fun v hv => ?_⟩
          rcases List.mem_cons.mp hv with rfl | hv
          · exact ⟨f, r', _, List.mem_cons_self, q1⟩
          · obtain ⟨f', r'', bs, m, q⟩ := k3 v hv
            exact ⟨f', r'', bs, List.mem_cons_of_mem _ m, q⟩
def keyAt (ds : List PyData) (i : Nat) : PyData := ds.getD i (ds.headD .none)
theorem keyAt_mem {ds : List PyData} (h : ds ≠ []) (i : Nat) : keyAt ds i ∈ ds := by
  unfold keyAt
  rw [List.getD_eq_getElem?_getD]
  cases e : ds[i]? with
  | some x => exact List.mem_of_getElem? e
  | none =>
    cases ds with
    | nil => exact absurd rfl h
    | cons a b => exact List.mem_cons_self
def ltK (ds : List PyData) (i j : Nat) : Bool := ltD (keyAt ds i) (keyAt ds j)
theorem swo_of {ds : List PyData} (h : ∀ a ∈ ds, ∀ b ∈ ds, sk a b = true) : Srt.Swo (ltK ds) := by
  by_cases e : ds = []
  · subst e
    exact ⟨fun _ => rfl, fun _ _ _ z => (by cases z), fun _ _ _ z => (by cases z)⟩
  · have m := keyAt_mem e
    exact ⟨fun _ => ltD_irr _, fun a b c => ltD_tr _ _ _ (h _ (m a) _ (m b)) (h _ (m b) _ (m c)) (h _ (m a) _ (m c)), fun a b c => ltD_nt _ _ _ (h _ (m a) _ (m b)) (h _ (m b) _ (m c)) (h _ (m a) _ (m c))⟩
structure KeysAre (ds : List PyData) (t : Nat) : Prop where
  lay : PyData.canLayAll0 ds = true
  kind : ∀ d ∈ ds, isK t d
  one : ∀ a ∈ ds, ∀ b ∈ ds, sk a b = true
  deep : ∀ d ∈ ds, d.depth ≤ 60
theorem answers_of {ks : List Value} {ds : List PyData} {as : List Addr} {t : Nat} (r : ReadsAll s.heap ks ds as) (K : KeysAre ds t) (h2 : 2 ≤ ks.length) (hu : A.units + 60 < cLine) : Answers prog w A s ks (ltK ds) := by
  have hl := SeqAt.ReadsAll.length _ _ _ r
  have look : ∀ i, i < ks.length → ∃ bs, Reads s.heap (ks.getD i Value.none) (keyAt ds i) bs ∧ keyAt ds i ∈ ds := fun i hi => by
    obtain ⟨bs, q⟩ := reads_at hi r
    have e1 : ks.getD i Value.none = ks[i] := by simp [hi]
    have e2 : keyAt ds i = ds.getD i .none := by
      have hi' : i < ds.length := by omega
      unfold keyAt
      rw [List.getD_eq_getElem?_getD, List.getD_eq_getElem?_getD, List.getElem?_eq_getElem hi']
      rfl
    refine ⟨bs, by rw [e1, e2]; exact q, keyAt_mem (fun z => ?_) i⟩
    rw [z, List.length_nil] at hl
    omega
  have memo : ∀ v ∈ ks, ∃ d bs, d ∈ ds ∧ Reads s.heap v d bs := fun v hv => by
    obtain ⟨i, hi, e⟩ := List.mem_iff_getElem.mp hv
    obtain ⟨bs, q, m⟩ := look i hi
    exact ⟨_, bs, m, by rw [← e]; simpa [hi] using q⟩
  have lays : ∀ d ∈ ds, d.canLay0 = true := fun d hd => by
    obtain ⟨i, hi, e⟩ := List.mem_iff_getElem.mp hd
    exact lay_get (j := i) K.lay (by rw [List.getElem?_eq_getElem hi, e])
  have tups : (∀ d ∈ ds, ∃ f r, d = .tuple (f :: r)) → (T : Value) → (∀ v f bs r, Reads s.heap v f bs → PyData.tuple (f :: r) ∈ ds → Looks (model prog w) s.heap (typeOf v) T) → (T == T) = true →
      ((T != Value.type "tuple") = true → ∀ d ∈ ds, ∀ d' ∈ ds, (∃ p q r r', d = .tuple (.int p :: r) ∧ d' = .tuple (.int q :: r')) ∨ ∃ p q r r', d = .tuple (.str p :: r) ∧ d' = .tuple (.str q :: r')) → Answers prog w A s ks (ltK ds) := fun h1 T h2' h3 h4 => by
    obtain ⟨fs, k1, k2, k3⟩ := firsts_of r h1
    refine ⟨tuples' (T != Value.type "tuple"), fun Q q => kat_kind k1 (by omega) (fun v hv => ?_) h3 q, fun i j C hi hj c => ?_⟩
    · obtain ⟨f, r', bs, m, q⟩ := k3 v hv
      exact h2' v f bs r' q m
    · obtain ⟨b1, q1, m1⟩ := look i hi
      obtain ⟨b2, q2, m2⟩ := look j hj
      unfold ltK at c
      obtain ⟨f1, r1, e1⟩ := h1 _ m1
      obtain ⟨f2, r2, e2⟩ := h1 _ m2
      have d1 := K.deep _ m1
      have kk := K.one _ m1 _ m2
      have lay1 := lays _ m1
      have lay2 := lays _ m2
      have hb := fun z => h4 z _ m1 _ m2
      rw [e1] at q1 d1 kk lay1 hb c
      rw [e2] at q2 kk lay2 hb c
      unfold kas_ask
      cases ev1 : ks.getD i Value.none <;> rw [ev1] at q1 <;> try (cases q1; done)
      cases ev2 : ks.getD j Value.none <;> rw [ev2] at q2 <;> try (cases q2; done)
      cases q1 with
      | tuple x1 x2 x3 x4 =>
        cases q2 with
        | tuple y1 y2 y3 y4 =>
          refine kat_lt x1 x3 y1 y3 (katlex _ _ _ _ _ _ 0 x4 y4 lay1 lay2 (by simpa [sk] using kk) ?_ hu (fun _ z => ?_) (by simp) (by rw [ltD] at c; exact c))
          · have : PyData.depthAll (f1 :: r1) + 1 ≤ 60 := d1
            omega
          · rcases hb z with ⟨p, q, r, r', g1, g2⟩ | ⟨p, q, r, r', g1, g2⟩
            · exact .inl ⟨p, q, r, r', PyData.tuple.inj g1, PyData.tuple.inj g2⟩
            · exact .inr ⟨p, q, r, r', PyData.tuple.inj g1, PyData.tuple.inj g2⟩
  match t, K.kind with
  | 0, hk =>
    refine ⟨oneType', fun Q q => kas_kind (T := Value.type "int") h2 (fun v hv => ?_) rfl rfl q, fun i j C hi hj c => ?_⟩
    · obtain ⟨d, bs, m, q⟩ := memo v hv
      have := hk d m
      cases d <;> simp only [isK] at this
      cases q
      exact Looks.of_pure rfl
    · obtain ⟨b1, q1, m1⟩ := look i hi
      obtain ⟨b2, q2, m2⟩ := look j hj
      unfold ltK at c
      unfold kas_ask
      have t1 := hk _ m1
      have t2 := hk _ m2
      cases e1 : keyAt ds i <;> rw [e1] at t1 <;> simp only [isK] at t1
      cases e2 : keyAt ds j <;> rw [e2] at t2 <;> simp only [isK] at t2
      rw [e1] at q1 c
      rw [e2] at q2 c
      cases ev1 : ks.getD i Value.none <;> rw [ev1] at q1 <;> try (cases q1; done)
      cases ev2 : ks.getD j Value.none <;> rw [ev2] at q2 <;> try (cases q2; done)
      cases q1; cases q2
      rw [keyLt'_oneType]
      exact oneLt_int c
  | 1, hk =>
    refine ⟨oneType', fun Q q => kas_kind (T := Value.type "str") h2 (fun v hv => ?_) rfl rfl q, fun i j C hi hj c => ?_⟩
    · obtain ⟨d, bs, m, q⟩ := memo v hv
      have := hk d m
      cases d <;> simp only [isK] at this
      cases q
      exact Looks.of_pure rfl
    · obtain ⟨b1, q1, m1⟩ := look i hi
      obtain ⟨b2, q2, m2⟩ := look j hj
      unfold ltK at c
      unfold kas_ask
      have t1 := hk _ m1
      have t2 := hk _ m2
      cases e1 : keyAt ds i <;> rw [e1] at t1 <;> simp only [isK] at t1
      cases e2 : keyAt ds j <;> rw [e2] at t2 <;> simp only [isK] at t2
      rw [e1] at q1 c
      rw [e2] at q2 c
      cases ev1 : ks.getD i Value.none <;> rw [ev1] at q1 <;> try (cases q1; done)
      cases ev2 : ks.getD j Value.none <;> rw [ev2] at q2 <;> try (cases q2; done)
      cases q1; cases q2
      rw [keyLt'_oneType]
      exact oneLt_str c
  | 2, hk =>
    have sh : ∀ d ∈ ds, ∃ p r, d = .tuple (.int p :: r) := fun d hd => by
      have := hk d hd
      unfold isK at this
      split at this <;> first | cases this | skip
      all_goals first | exact ⟨_, _, rfl⟩ | omega | (rename_i h _; cases h) | (exfalso; simp_all)
    refine tups (fun d hd => let ⟨p, r, e⟩ := sh d hd; ⟨_, r, e⟩) (Value.type "int") (fun v f bs r' q m => ?_) rfl fun _ d hd d' hd' => ?_
    · obtain ⟨p, r2, e⟩ := sh _ m
      cases e
      cases q
      exact Looks.of_pure rfl
    · obtain ⟨p, r1, e1⟩ := sh d hd
      obtain ⟨q, r2, e2⟩ := sh d' hd'
      exact .inl ⟨p, q, r1, r2, e1, e2⟩
  | 3, hk =>
    have sh : ∀ d ∈ ds, ∃ p r, d = .tuple (.str p :: r) := fun d hd => by
      have := hk d hd
      unfold isK at this
      split at this <;> first | cases this | skip
      all_goals first | exact ⟨_, _, rfl⟩ | omega | (rename_i h _; cases h) | (exfalso; simp_all)
    refine tups (fun d hd => let ⟨p, r, e⟩ := sh d hd; ⟨_, r, e⟩) (Value.type "str") (fun v f bs r' q m => ?_) rfl fun _ d hd d' hd' => ?_
    · obtain ⟨p, r2, e⟩ := sh _ m
      cases e
      cases q
      exact Looks.of_pure rfl
    · obtain ⟨p, r1, e1⟩ := sh d hd
      obtain ⟨q, r2, e2⟩ := sh d' hd'
      exact .inr ⟨p, q, r1, r2, e1, e2⟩
  | 4, hk =>
    have sh : ∀ d ∈ ds, ∃ p r, d = .tuple (.tuple p :: r) := fun d hd => by
      have := hk d hd
      unfold isK at this
      split at this <;> first | cases this | skip
      all_goals first | exact ⟨_, _, rfl⟩ | omega | (rename_i h _; cases h) | (exfalso; simp_all)
    refine tups (fun d hd => let ⟨p, r, e⟩ := sh d hd; ⟨_, r, e⟩) (Value.type "tuple") (fun v f bs r' q m => ?_) rfl fun z => absurd z (by decide)
    obtain ⟨p, r2, e⟩ := sh _ m
    cases e
    cases q with
    | tuple h1 h2 h3 h4 =>
      have := (Looks.ld (M := model prog w) (part := none) h1)
      rw [← h2]
      exact (Looks.ld h1).andThen .now
  | t + 5, hk =>
    exfalso
    obtain ⟨bs, q, m⟩ := look 0 (by omega)
    exact isK_big t _ (hk _ m)
end
end L2
set_option maxHeartbeats 4000000
namespace L2
open PySem PySem.Spec PySem.W PyProof.Rows
def SortIx (ds : List PyData) (ix : List Nat) : Prop := ix.Perm (List.range ds.length) ∧ (ix.map (keyAt ds)).Pairwise fun a b => ltD b a = false
theorem sortIx_of {ds : List PyData} {p : Array Nat} (h : Arr ds.length (ltK ds) p) : SortIx ds p.toList := by
  have hs : p.size = ds.length := by rw [h.1.size_eq]; simp
  refine ⟨by simpa using h.1.toList, ?_⟩
  rw [List.pairwise_iff_getElem]
  intro i j hi hj hij
  rw [List.length_map, Array.length_toList] at hi hj
  have := h.2 i j (by omega) (by omega)
  unfold ltK Srt.g at this
  rw [List.getElem_map, List.getElem_map]
  simpa [Array.getD, hi, hj] using this
theorem vals_getD {ys : List V} {us : List Value} (r : Vals ys us) (ix : List Nat) (h : ∀ i ∈ ix, i < ys.length) : Vals (ix.map fun i => ys.getD i .non) (ix.map fun i => us.getD i Value.none) := by
  induction ix with
  | nil => exact .nil
  | cons i ix ih =>
    have hi := h i List.mem_cons_self
    obtain ⟨u, hu, ru⟩ := r.get (i := i) (x := ys[i]) (List.getElem?_eq_getElem hi)
    refine .cons ?_ (ih fun j hj => h j (List.mem_cons_of_mem _ hj))
    show RelV (ys.getD i .non) (us.getD i Value.none)
    rw [List.getD_eq_getElem?_getD, List.getD_eq_getElem?_getD, hu, List.getElem?_eq_getElem hi]
    exact ru
theorem dvs_length {K : PySem.W.Frag} {H : Hp} : ∀ {xs : List V} {ds : List PyData}, DVs K H xs ds → xs.length = ds.length
  | _, _, .nil => rfl
  | _, _, .cons _ t => by rw [List.length_cons, List.length_cons, dvs_length t]
mutual
theorem reads_ext {h h' : Heap} (x : Ext h h') : ∀ {v : Value} {d : PyData} {as : List Addr}, Reads h v d as → Reads h' v d as
  | _, _, _, .none => .none
  | _, _, _, .bool b => .bool b
  | _, _, _, .int i t => .int i t
  | _, _, _, .str z t => .str z t
  | _, _, _, .list h1 h2 h3 h4 => .list (x _ _ h1) h2 h3 (readsA_ext x h4)
  | _, _, _, .tuple h1 h2 h3 h4 => .tuple (x _ _ h1) h2 h3 (readsA_ext x h4)
  | _, _, _, .dict h1 h2 h3 h4 h5 => .dict (x _ _ h1) h2 h3 (readsA_ext x h4) (readsA_ext x h5)
theorem readsA_ext {h h' : Heap} (x : Ext h h') : ∀ {v : List Value} {d : List PyData} {as : List Addr}, ReadsAll h v d as → ReadsAll h' v d as
  | _, _, _, .nil => .nil
  | _, _, _, .cons a b => .cons (reads_ext x a) (readsA_ext x b)
end
section
variable {X : Cx}
end
end L2
set_option maxHeartbeats 4000000
namespace L2
open PySem PySem.Spec PySem.W PyProof.Rows
section
variable {P : Program} {w : World} {A : Around} {E : Value → Shared → Prop} {s : Shared}
def GIs (P : Program) (w : World) (h : Heap) : KD → Value → Prop
  | .non, v => v = .none
  | .int i, v => ∃ t, v = .int i t
  | .tup ks, v => ∃ a, v = .ref a ∧ (tupleKind (mixKind P w)).is h ks a
def gDraws (P : Program) (w : World) : KD → Nat
  | .non => 1
  | .int _ => 1
  | .tup ks => (tupleKind (mixKind P w)).draws ks
theorem GIs.inj {h : Heap} {x y : KD} {v : Value} (a : GIs P w h x v) (b : GIs P w h y v) : x = y := by
  cases x with
  | non =>
    cases a
    cases y with
    | non => rfl
    | int j => obtain ⟨_, e⟩ := b; cases e
    | tup ks => obtain ⟨_, e, _⟩ := b; cases e
  | int i =>
    obtain ⟨t, rfl⟩ := a
    cases y with
    | non => cases b
    | int j => obtain ⟨_, e⟩ := b; cases e; rfl
    | tup ks => obtain ⟨_, e, _⟩ := b; cases e
  | tup ks =>
    obtain ⟨p, rfl, q⟩ := a
    cases y with
    | non => cases b
    | int j => obtain ⟨_, e⟩ := b; cases e
    | tup ks' =>
      obtain ⟨_, e, q'⟩ := b
      cases e
      exact congrArg KD.tup ((tupleKind (mixKind P w)).inj q q')
theorem GIs.ext {h h' : Heap} {k : KD} {v : Value} (a : GIs P w h k v) (x : ∀ b o, h.get? b = some o → o.cls = .type "tuple" → h'.get? b = some o) : GIs P w h' k v := by
  cases k with
  | non => exact a
  | int i => exact a
  | tup ks =>
    obtain ⟨p, e, o, its, n, h1, h2, h3, h4⟩ := a
    exact ⟨p, e, o, its, n, x _ _ h1 h2, h2, h3, h4⟩
theorem hash_none {Q : Int → Shared → Prop} (h : Q 4238894112 { s with toks := s.toks + 1 }) : wpAny (model P w) A (pyHash .none) Q E s := by
  unfold pyHash
  have hT : s.TypeIs Value.none "NoneType" := rfl
  have hv : [Value.none].any Value.onHeap = false := rfl
  unfold pyHashByItsType
  refine wpAny_bind ?_
  rw [cRoomFor, if_neg (by rw [hv]; exact Bool.false_ne_true)]
  refine wpAny_pure (wpAny_bind (wpAny_specialOf hT F.slot_NoneType_hash.lookup ?_))
  show wpAny _ _ (if (some (Value.builtin "NoneType.__hash__") == some Value.none) = true then _ else _) Q E s
  rw [if_neg (by rw [beq_builtin_none]; exact Bool.false_ne_true)]
  refine wpAny_bind (wpAny_specialOf hT F.slot_NoneType_hash.lookup ?_)
  show wpAny _ _ (callSpecialIfBoundUnlessNone? .none "__hash__" _ >>= _) Q E s
  refine wpAny_bind (wpAny_callSpecialIfBoundUnlessNone?_slot hT F.slot_NoneType_hash (wpAny_call_entry F.slot_NoneType_hash hT F.entry_NoneType_hash (show wpAny _ _ (do ret (← mkInt 4238894112)) _ _ s from wpAny_ret_mkInt ?_) (F.args_NoneType_hash_1 _)))
  show wpAny _ _ (if (decide (-(2 : Int) ^ 63 ≤ 4238894112) && decide ((4238894112 : Int) < 2 ^ 63)) = true then _ else _) Q E _
  rw [if_pos (by decide)]
  exact wpAny_pure h
theorem GIs.hash {k : KD} {v : Value} (hu : A.units < cLine) (a : GIs P w s.heap k v) {Q : Int → Shared → Prop} (h : Q (gHash P w k) { s with toks := s.toks + gDraws P w k }) : wpAny (model P w) A (pyHash v) Q E s := by
  cases k with
  | non => cases a; exact hash_none h
  | int i => obtain ⟨t, rfl⟩ := a; exact wpAny_pyHash_int h
  | tup ks => obtain ⟨p, rfl, q⟩ := a; exact (tupleKind (mixKind P w)).pyHash hu q h
theorem GIs.tuple {h : Heap} {ks : List Key} {v : Value} (a : GIs P w h (.tup ks) v) : ∃ p its, v = .ref p ∧ h.IsTuple p its := by
  obtain ⟨p, e, o, its, n, h1, h2, h3, _⟩ := a
  exact ⟨p, its, e, o, h1, h2, n, h3⟩
theorem GIs.eq {x y : KD} {u v : Value} (hu : A.units < cLine) (a : GIs P w s.heap x u) (b : GIs P w s.heap y v) {Q : Bool → Shared → Prop} (h : Q (decide (x = y)) s) : wpAny (model P w) A (eqBool u v) Q E s := by
  have ne : ∀ {z z' : KD}, z ≠ z' → decide (z = z') = false := fun q => decide_eq_false q
  cases x with
  | non =>
    cases a
    cases y with
    | non => cases b; exact SeqAt.EqAt.same _ _ _ _ _ h
    | int j =>
      obtain ⟨t, rfl⟩ := b
      rw [ne (by intro z; cases z)] at h
      exact SeqAt.EqAt.none_int _ _ _ _ _ _ h
    | tup ks =>
      obtain ⟨p, its, rfl, q⟩ := b.tuple
      rw [ne (by intro z; cases z)] at h
      exact SeqAt.EqAt.none_tuple q hu _ _ _ _ h
  | int i =>
    obtain ⟨t, rfl⟩ := a
    cases y with
    | non =>
      cases b
      rw [ne (by intro z; cases z)] at h
      exact SeqAt.EqAt.int_none _ _ _ _ _ _ h
    | int j =>
      obtain ⟨t, rfl⟩ := b
      refine SeqAt.EqAt.int_int _ _ _ _ _ _ _ _ ?_
      rw [show (i == j) = decide (KD.int i = KD.int j) from by by_cases z : i = j <;> simp [z]]
      exact h
    | tup ks =>
      obtain ⟨p, its, rfl, q⟩ := b.tuple
      rw [ne (by intro z; cases z)] at h
      exact SeqAt.EqAt.int_tuple _ _ q hu _ _ _ _ h
  | tup ks =>
    cases y with
    | non =>
      cases b
      obtain ⟨p, its, rfl, q⟩ := a.tuple
      rw [ne (by intro z; cases z)] at h
      exact SeqAt.EqAt.tuple_none q hu _ _ _ _ h
    | int j =>
      obtain ⟨t, rfl⟩ := b
      obtain ⟨p, its, rfl, q⟩ := a.tuple
      rw [ne (by intro z; cases z)] at h
      exact SeqAt.EqAt.tuple_int _ _ q hu _ _ _ _ h
    | tup ks' =>
      obtain ⟨p, rfl, q⟩ := a
      obtain ⟨p', rfl, q'⟩ := b
      refine (tupleKind (mixKind P w)).eqBool hu q q' ?_
      rw [show decide (ks = ks') = decide (KD.tup ks = KD.tup ks') from by by_cases z : ks = ks' <;> simp [z]]
      exact h
theorem GIs.quiet {k : KD} {v : Value} (a : GIs P w s.heap k v) {Q : Bool → Shared → Prop} (h : Q true s) : wpAny (model P w) A (eqIsQuiet 8 v) Q E s := by
  cases k with
  | non => cases a; exact wpAny_pure h
  | int i => obtain ⟨t, rfl⟩ := a; exact wpAny_pure h
  | tup ks => obtain ⟨p, rfl, q⟩ := a; exact (tupleKind (mixKind P w)).quiet q h
theorem g_tell {k : KD} {v : Value} {l : List Value} (a : GIs P w s.heap k v) (hl : ∀ u ∈ l, ∃ k', GIs P w s.heap k' u) {Q : Bool → Shared → Prop} (h : Q false s) : wpAny (model P w) A (tableMayTell v l) Q E s := by
  unfold tableMayTell
  split
  · exact wpAny_pure h
  · refine wpAny_bind (a.quiet ?_)
    rw [if_neg (by decide)]
    refine wpAny_bind (wpAny_forIn_list _ (fun r b s' => s' = s ∧ b = (none, ()) ∧ ∀ u ∈ r, ∃ k', GIs P w s.heap k' u) _ ?_ ?_ _ _ ⟨rfl, rfl, hl⟩)
    · rintro u r b s' ⟨rfl, rfl, hr⟩
      obtain ⟨k', hk⟩ := hr u List.mem_cons_self
      refine wpAny_bind (hk.quiet ?_)
      rw [if_neg (by decide)]
      exact wpAny_pure ⟨rfl, rfl, fun x hx => hr x (List.mem_cons_of_mem _ hx)⟩
    · rintro b s' ⟨rfl, rfl, _⟩
      exact wpAny_pure h
def gIdx (xs : List (KD × Value × Value)) (k : KD) : Option Nat := xs.findIdx? fun x => decide (x.1 = k)
theorem gIdx_some {xs : List (KD × Value × Value)} {k : KD} {j : Nat} {x : KD × Value × Value} (hn : (xs.map (·.1)).Nodup) (h : xs[j]? = some x) (e : x.1 = k) : gIdx xs k = some j := by
  unfold gIdx
  rw [List.findIdx?_eq_some_iff_getElem]
  obtain ⟨hj, ej⟩ := List.getElem?_eq_some_iff.mp h
  refine ⟨hj, by rw [ej, e]; simp, fun i hi => ?_⟩
  have : ¬ xs[i].1 = k := fun z => by
    have e1 : (xs.map (·.1))[i]? = some k := by rw [List.getElem?_map, List.getElem?_eq_getElem (by omega)]; simp [z]
    have e2 : (xs.map (·.1))[j]? = some k := by rw [List.getElem?_map, h]; simp [e]
    have := (List.getElem?_inj (by rw [List.length_map]; omega) hn).mp (e1.trans e2.symm)
    omega
  simpa using this
theorem gIdx_none {xs : List (KD × Value × Value)} {k : KD} (h : ∀ (j : Nat) x, xs[j]? = some x → x.1 ≠ k) : gIdx xs k = none := by
  unfold gIdx
  rw [List.findIdx?_eq_none_iff]
  intro x hx
  obtain ⟨j, hj, e⟩ := List.mem_iff_getElem.mp hx
  exact decide_eq_false (h j x (by rw [List.getElem?_eq_getElem hj, e]))
theorem g_loop {xs : List (KD × Value × Value)} {k : KD} {es : Array DictEntry} (at' : ∀ j : Nat, es[j]? = (xs[j]?).map (gEnt P w)) (sz : es.size = xs.length) (hn : (xs.map (·.1)).Nodup) {body : Nat → Option (Option Nat) × Option Nat → Sem (ForInStep (Option (Option Nat) × Option Nat))} {R : Option (Option Nat) × Option Nat → Shared → Prop}
    (B : ∀ (i : Nat) b hit (R' : ForInStep (Option (Option Nat) × Option Nat) → Shared → Prop), xs[i]? = some b → (b.1 = k → hit = none ∧ R' (.done (some (some i), hit)) s ∧ R' (.yield (none, some i)) s) → (b.1 ≠ k → R' (.yield (none, hit)) s) → wpAny (model P w) A (body i (none, hit)) R' E s)
    (R0 : (∀ (j : Nat) x, xs[j]? = some x → x.1 ≠ k) → R (none, none) s) (R1 : ∀ (j : Nat) x, xs[j]? = some x → x.1 = k → R (some (some j), none) s ∧ R (none, some j) s) :
    wpAny (model P w) A (forIn (placesWithHash es.size (fun i => es[i]?.map (·.hash)) (gHash P w k)) (none, none) body) R E s := by
  have has : ∀ (j : Nat) x, xs[j]? = some x → x.1 = k → ((es[j]?.map (·.hash)) == some (gHash P w k)) = true := fun j x hj e => by
    rw [at' j, hj]
    show (some (gHash P w x.1) == some (gHash P w k)) = true
    rw [e]
    simp
  have one : ∀ {i j : Nat} {x y : KD × Value × Value}, xs[i]? = some x → xs[j]? = some y → x.1 = k → y.1 = k → i = j := fun {i j x y} h1 h2 e1 e2 => by
    have q1 : (xs.map (·.1))[i]? = some k := by rw [List.getElem?_map, h1]; exact congrArg some e1
    have q2 : (xs.map (·.1))[j]? = some k := by rw [List.getElem?_map, h2]; exact congrArg some e2
    exact (List.getElem?_inj (List.getElem?_eq_some_iff.mp q1).1 hn).mp (q1.trans q2.symm)
  refine wpAny_forIn_list _ (fun rest b s' => s' = s ∧ ∃ i hit, b = (none, hit) ∧ rest = (List.range' i (es.size - i)).filter (fun i => (es[i]?.map (·.hash)) == some (gHash P w k)) ∧ i ≤ es.size ∧
      ((hit = none ∧ ∀ (j : Nat) x, j < i → xs[j]? = some x → x.1 ≠ k) ∨ ∃ j x, hit = some j ∧ j < i ∧ xs[j]? = some x ∧ x.1 = k)) _ ?_ ?_ _ _
    ⟨rfl, 0, none, rfl, by rw [placesWithHash, List.range_eq_range', Nat.sub_zero], Nat.zero_le _, .inl ⟨rfl, fun j x hj => absurd hj (Nat.not_lt_zero _)⟩⟩
  · rintro x rest b s' ⟨rfl, i, hit, rfl, hr, hi, hH⟩
    obtain ⟨hix, hxn, hpx, hskip, hrest⟩ := filter_range'_cons _ _ _ _ _ hr.symm
    have hlt : x < es.size := by omega
    have hrest' : rest = (List.range' (x + 1) (es.size - (x + 1))).filter (fun i => (es[i]?.map (·.hash)) == some (gHash P w k)) := by
      rw [hrest]
      congr 2
      omega
    have hx : xs[x]? = some (xs[x]'(by omega)) := List.getElem?_eq_getElem _
    generalize xs[x]'(by omega) = b at hx
    have gap : ∀ (j : Nat) y, i ≤ j → j < x → xs[j]? = some y → y.1 ≠ k := fun j y h1 h2 hj e => by
      have := hskip j h1 h2
      rw [has j y hj e] at this
      exact absurd this (by decide)
    refine B x b hit _ hx (fun e => ?_) fun e => ?_
    · rcases hH with ⟨rfl, hno⟩ | ⟨j, y, _, hj, hy, ey⟩
      · exact ⟨rfl, (R1 x b hx e).1, rfl, x + 1, some x, rfl, hrest', hlt, .inr ⟨x, b, rfl, Nat.lt_succ_self x, hx, e⟩⟩
      · have := one hy hx ey e
        omega
    · refine ⟨rfl, x + 1, hit, rfl, hrest', hlt, ?_⟩
      rcases hH with ⟨h0, hno⟩ | ⟨j, y, h1, hj, hy, ey⟩
      · refine .inl ⟨h0, fun j y hjx hj => ?_⟩
        by_cases c1 : j < i
        · exact hno j y c1 hj
        · by_cases c2 : j < x
          · exact gap j y (by omega) c2 hj
          · have : j = x := by omega
            subst this
            rw [hx] at hj
            cases hj
            exact e
      · exact .inr ⟨j, y, h1, by omega, hy, ey⟩
  · rintro b s' ⟨rfl, i, hit, rfl, hr, hi, hH⟩
    rcases hH with ⟨rfl, hno⟩ | ⟨j, y, rfl, hj, hy, ey⟩
    · refine R0 fun j x hj e => ?_
      by_cases c1 : j < i
      · exact hno j x c1 hj e
      · have hjl : j < es.size := by rw [sz]; exact (List.getElem?_eq_some_iff.mp hj).1
        have := List.filter_eq_nil_iff.mp hr.symm j (List.mem_range'_1.mpr ⟨by omega, by omega⟩)
        exact this (has j x hj e)
    · exact (R1 j y hy ey).2
theorem g_plain {d : Addr} {o : Obj} {es : Array DictEntry} {ep : Nat} {xs : List (KD × Value × Value)} {k : KD} {v : Value} {Q : Option Nat → Shared → Prop} (hu : A.units < cLine) (a : GIs P w s.heap k v) (ho : s.heap.get? d = some o) (hd : o.data = .dict es ep)
    (at' : ∀ j : Nat, es[j]? = (xs[j]?).map (gEnt P w)) (sz : es.size = xs.length) (his : ∀ x ∈ xs, GIs P w s.heap x.1 x.2.1) (hn : (xs.map (·.1)).Nodup) (hQ : Q (gIdx xs k) s) : wpAny (model P w) A (dictWalkPlain d v (gHash P w k) es (placesWithHash es.size (fun i => es[i]?.map (·.hash)) (gHash P w k))) Q E s := by
  unfold dictWalkPlain
  have has : ∀ (j : Nat) x, xs[j]? = some x → x.1 = k → ((es[j]?.map (·.hash)) == some (gHash P w k)) = true := fun j x hj e => by
    rw [at' j, hj]
    show (some (gHash P w x.1) == some (gHash P w k)) = true
    rw [e]
    simp
  refine wpAny_bind (wpAny_forIn_list _ (fun rest b s' => s' = s ∧ b = (none, ()) ∧ ∃ i, rest = (List.range' i (es.size - i)).filter (fun i => (es[i]?.map (·.hash)) == some (gHash P w k)) ∧ i ≤ es.size ∧ ∀ (j : Nat) x, j < i → xs[j]? = some x → x.1 ≠ k) _ ?_ ?_ _ _
    ⟨rfl, rfl, 0, by rw [placesWithHash, List.range_eq_range', Nat.sub_zero], Nat.zero_le _, fun j x hj => absurd hj (Nat.not_lt_zero _)⟩)
  · rintro x rest b s' ⟨rfl, rfl, i, hr, hi, hno⟩
    obtain ⟨hix, hxn, hpx, hskip, hrest⟩ := filter_range'_cons _ _ _ _ _ hr.symm
    have hlt : x < es.size := by omega
    have hx : xs[x]? = some (xs[x]'(by omega)) := List.getElem?_eq_getElem _
    generalize xs[x]'(by omega) = b at hx
    have hex : es[x]? = some (gEnt P w b) := by rw [at' x, hx]; rfl
    have more : b.1 ≠ k → ∃ i, rest = (List.range' i (es.size - i)).filter (fun i => (es[i]?.map (·.hash)) == some (gHash P w k)) ∧ i ≤ es.size ∧ ∀ (j : Nat) x, j < i → xs[j]? = some x → x.1 ≠ k := fun e => ⟨x + 1, by rw [hrest]; congr 2; omega, hlt, fun j y hjx hj => by
      by_cases c1 : j < i
      · exact hno j y c1 hj
      · by_cases c2 : j < x
        · intro z
          have := hskip j (by omega) c2
          rw [has j y hj z] at this
          exact absurd this (by decide)
        · have : j = x := by omega
          subst this
          rw [hx] at hj
          cases hj
          exact e⟩
    rw [hex]
    try dsimp only
    have hh : ((gEnt P w b).hash == gHash P w k) = true := by
      have := hpx
      rw [hex] at this
      simpa using this
    rw [if_pos hh]
    refine wpAny_bind (wpAny_dictEpoch ho hd (wpAny_bind ((his b (List.mem_of_getElem? hx)).eq hu a (wpAny_bind (wpAny_dictEpoch ho hd ?_)))))
    try dsimp only
    rw [if_neg (by simp)]
    by_cases e : b.1 = k
    · rw [decide_eq_true e, if_pos rfl]
      refine wpAny_bind (wpAny_rule (wpAny_pure (wpAny_pure ?_)))
      rw [← gIdx_some hn hx e]
      exact hQ
    · rw [decide_eq_false e, if_neg (by decide)]
      exact wpAny_bind (wpAny_rule (wpAny_pure ⟨rfl, rfl, more e⟩))
  · rintro b s' ⟨rfl, rfl, i, hr, hi, hno⟩
    refine wpAny_pure ?_
    rw [← gIdx_none (xs := xs) (k := k) fun j x hj e => ?_]
    · exact hQ
    · by_cases c1 : j < i
      · exact hno j x c1 hj e
      · have hjl : j < es.size := by rw [sz]; exact (List.getElem?_eq_some_iff.mp hj).1
        exact List.filter_eq_nil_iff.mp hr.symm j (List.mem_range'_1.mpr ⟨by omega, by omega⟩) (has j x hj e)
theorem g_find {d : Addr} {o : Obj} {es : Array DictEntry} {ep : Nat} {xs : List (KD × Value × Value)} {k : KD} {v : Value} {Q : Option Nat → Shared → Prop} (hu : A.units < cLine) (a : GIs P w s.heap k v) (ho : s.heap.get? d = some o) (hd : o.data = .dict es ep)
    (he : es.toList = xs.map (gEnt P w)) (his : ∀ x ∈ xs, GIs P w s.heap x.1 x.2.1) (hn : (xs.map (·.1)).Nodup) (hQ : Q (gIdx xs k) s) : wpAny (model P w) A (dictFind d v (gHash P w k)) Q E s := by
  have at' : ∀ j : Nat, es[j]? = (xs[j]?).map (gEnt P w) := fun j => by rw [← Array.getElem?_toList, he, List.getElem?_map]
  have sz : es.size = xs.length := by rw [← Array.length_toList, he, List.length_map]
  have key : ∀ (j : Nat) x, xs[j]? = some x → x.1 = k → ((es[j]?.map (·.hash)) == some (gHash P w k)) = true := fun j x hj e => by
    rw [at' j, hj]
    show (some (gHash P w x.1) == some (gHash P w k)) = true
    rw [e]
    simp
  have mem : ∀ e ∈ es, ∃ x ∈ xs, e = gEnt P w x := fun e hin => by
    obtain ⟨x, hx, z⟩ := List.mem_map.mp (show e ∈ xs.map (gEnt P w) from he ▸ Array.mem_toList_iff.mpr hin)
    exact ⟨x, hx, z.symm⟩
  have nostr : ∀ z t, v ≠ .str z t := fun z t e => by
    rw [e] at a
    cases k with
    | non => cases a
    | int i => obtain ⟨_, q⟩ := a; cases q
    | tup ks => obtain ⟨_, q, _⟩ := a; cases q
  have anyF : ¬ (es.any fun e => e.key == v && e.hash != gHash P w k) = true := by
    rw [← Array.any_toList, List.any_eq_true]
    rintro ⟨e, hin, hc⟩
    obtain ⟨x, hx, rfl⟩ := mem e (Array.mem_toList_iff.mp hin)
    rw [Bool.and_eq_true] at hc
    have e1 : x.2.1 = v := eq_of_beq hc.1
    have e2 := his x hx
    rw [e1] at e2
    have e3 := e2.inj a
    have e4 : (gHash P w x.1 != gHash P w k) = true := hc.2
    rw [e3] at e4
    simp at e4
  have st : ∀ u ∈ (placesWithHash es.size (fun i => es[i]?.map (·.hash)) (gHash P w k)).filterMap (fun i => es[i]?.map (·.key)), ∃ k', GIs P w s.heap k' u := fun u hu' => by
    obtain ⟨i, _, hi⟩ := List.mem_filterMap.mp hu'
    rw [at' i] at hi
    cases e : xs[i]? with
    | none => rw [e] at hi; cases hi
    | some x =>
      rw [e] at hi
      have e2 : x.2.1 = u := by simpa [gEnt] using hi
      exact ⟨x.1, e2 ▸ his x (List.mem_of_getElem? e)⟩
  have look : ∀ (x : Nat) (b : KD × Value × Value) {R : Bool → Shared → Prop}, xs[x]? = some b → R (decide (b.1 = k)) s → wpAny (model P w) A (eqBool b.2.1 v) R E s := fun x b R hx r => (his b (List.mem_of_getElem? hx)).eq hu a r
  have noneQ : (∀ (j : Nat) x, xs[j]? = some x → x.1 ≠ k) → Q none s := fun h => by rw [← gIdx_none h]; exact hQ
  have someQ : ∀ (j : Nat) x, xs[j]? = some x → x.1 = k → Q (some j) s := fun j x hj e => by rw [← gIdx_some hn hj e]; exact hQ
  unfold dictFind
  try with_reducible refine wpAny_holding ?_
  refine wpAny_bind (wpAny_dictEntries ho hd ?_)
  have vc : v = .none ∨ (∃ i t, v = .int i t) ∨ ∃ p, v = .ref p := by
    cases k with
    | non => exact .inl a
    | int i => exact .inr (.inl ⟨i, a⟩)
    | tup ks => exact .inr (.inr ⟨a.choose, a.choose_spec.1⟩)
  by_cases hv : (v :: (placesWithHash es.size (fun i => es[i]?.map (·.hash)) (gHash P w k)).filterMap (fun i => es[i]?.map (·.key))).all carriedByValue = true
  · rcases vc with rfl | ⟨i, t, rfl⟩ | ⟨p, rfl⟩
    · dsimp only
      rw [if_pos hv]
      exact g_plain hu a ho hd at' sz his hn hQ
    · dsimp only
      rw [if_pos hv]
      exact g_plain hu a ho hd at' sz his hn hQ
    · exact absurd hv (by simp [carriedByValue])
  · rcases vc with rfl | ⟨i, t, rfl⟩ | ⟨p, rfl⟩ <;> dsimp only <;> rw [if_neg hv] <;> (try rw [if_neg anyF]) <;> refine wpAny_ite_split (fun _ => ?_) (fun _ => ?_) <;> (first | refine wpAny_bind (wpAny_pure ?_) | refine wpAny_bind (g_tell a st ?_)) <;> (
      rw [if_neg (by simp)]
      refine wpAny_bind (g_loop at' sz hn (fun i b hit R' hx y n => ?_) (fun h => wpAny_pure (noneQ h)) fun j x hj e => ⟨wpAny_pure (someQ j x hj e), wpAny_pure (someQ j x hj e)⟩)
      have hex : es[i]? = some (gEnt P w b) := by rw [at' i, hx]; rfl
      rw [hex]
      dsimp only
      by_cases hh : ((gEnt P w b).hash == gHash P w k) = true
      · rw [if_pos hh]
        refine wpAny_bind (wpAny_dictEpoch ho hd (wpAny_bind (look i b hx (wpAny_bind (wpAny_dictEpoch ho hd ?_)))))
        rw [if_neg (by simp)]
        by_cases e : b.1 = k
        · obtain ⟨rfl, y1, y2⟩ := y e
          rw [decide_eq_true e, if_pos rfl, if_neg (by decide)]
          refine wpAny_bind (wpAny_rule ?_)
          split
          · exact wpAny_pure y1
          · exact wpAny_pure y2
        · rw [decide_eq_false e, if_neg (by decide)]
          refine wpAny_bind (wpAny_rule ?_)
          rw [if_neg (by simp)]
          exact wpAny_pure (n e)
      · rw [if_neg hh]
        exact wpAny_pure (n fun e => hh (by
          show (gHash P w b.1 == gHash P w k) = true
          rw [e]
          simp)))
end
end L2
set_option maxHeartbeats 4000000
namespace L2
open PySem PySem.Spec PySem.W PyProof.Rows
section
variable {α β : Type}
def vG (kvs : List (KD × α × β)) (k : KD) : Option β := (kvs.find? fun e => decide (e.1 = k)).map (·.2.2)
def pG (kvs : List (KD × α × β)) (k : KD) (key : α) (v : β) : List (KD × α × β) := if (vG kvs k).isSome = true then kvs.map (fun e => if e.1 = k then (e.1, e.2.1, v) else e) else kvs ++ [(k, key, v)]
theorem vG_some {kvs : List (KD × α × β)} {k : KD} {i : Nat} {e : KD × α × β} (hn : (kvs.map (·.1)).Nodup) (h : kvs[i]? = some e) (he : e.1 = k) : vG kvs k = some e.2.2 := by
  unfold vG
  induction kvs generalizing i with
  | nil => cases h
  | cons x r ih =>
    rw [List.map_cons, List.nodup_cons] at hn
    rw [List.find?_cons]
    cases i with
    | zero => cases h; rw [decide_eq_true he]; rfl
    | succ i =>
      have h' : r[i]? = some e := by simpa using h
      have hx : ¬ x.1 = k := fun z => hn.1 (by rw [z, ← he]; exact List.mem_map.mpr ⟨e, List.mem_of_getElem? h', rfl⟩)
      rw [decide_eq_false hx]
      exact ih hn.2 h'
theorem vG_none {kvs : List (KD × α × β)} {k : KD} (h : ∀ e ∈ kvs, e.1 ≠ k) : vG kvs k = none := by
  unfold vG
  rw [List.find?_eq_none.mpr fun e he => by rw [decide_eq_true_eq]; exact h e he]
  rfl
theorem vG_no {kvs : List (KD × α × β)} {k : KD} (h : vG kvs k = none) : ∀ e ∈ kvs, e.1 ≠ k := fun e he z => by
  unfold vG at h
  rw [Option.map_eq_none_iff, List.find?_eq_none] at h
  exact h e he (decide_eq_true z)
theorem vG_put (kvs : List (KD × α × β)) (k k' : KD) (key : α) (v : β) : vG (pG kvs k key v) k' = if k' = k then some v else vG kvs k' := by
  unfold pG
  by_cases hs : (vG kvs k).isSome = true
  · rw [if_pos hs]
    obtain ⟨u, hu⟩ := Option.isSome_iff_exists.mp hs
    clear hs
    unfold vG at *
    induction kvs with
    | nil => simp at hu
    | cons x r ih =>
      rw [List.map_cons, List.find?_cons]
      rw [List.find?_cons] at hu ⊢
      by_cases hx : x.1 = k
      · rw [if_pos hx]
        by_cases hk : k' = k
        · subst hk
          rw [if_pos rfl]
          simp [hx]
        · rw [if_neg hk]
          have : ¬ x.1 = k' := fun z => hk (z.symm.trans hx)
          simp only [this, decide_false]
          clear hu ih
          induction r with
          | nil => rfl
          | cons y r ih2 =>
            rw [List.map_cons, List.find?_cons, List.find?_cons]
            by_cases hy : y.1 = k
            · have hy' : ¬ y.1 = k' := fun z => hk (z.symm.trans hy)
              rw [if_pos hy]
              simp only [hy', decide_false]
              exact ih2
            · rw [if_neg hy]
              by_cases hy' : y.1 = k'
              · simp [hy']
              · simp only [hy', decide_false]
                exact ih2
      · rw [if_neg hx]
        simp only [hx, decide_false] at hu
        by_cases hx' : x.1 = k'
        · have : ¬ k' = k := fun z => hx (hx'.trans z)
          rw [if_neg this]
          simp [hx']
        · simp only [hx', decide_false]
          exact ih hu
  · rw [if_neg hs]
    have hno := vG_no (kvs := kvs) (k := k) (by cases e : vG kvs k with
      | none => rfl
      | some u => rw [e] at hs; exact absurd rfl hs)
    unfold vG
    rw [List.find?_append]
    by_cases hk : k' = k
    · subst hk
      rw [if_pos rfl, List.find?_eq_none.mpr fun e he => by rw [decide_eq_true_eq]; exact hno e he]
      simp
    · rw [if_neg hk]
      cases e : List.find? (fun e => decide (e.1 = k')) kvs with
      | some x => rfl
      | none =>
        have : ¬ k = k' := fun z => hk z.symm
        simp [this]
theorem pG_keys (kvs : List (KD × α × β)) (k : KD) (key : α) (v : β) : (pG kvs k key v).map (·.1) = if (vG kvs k).isSome = true then kvs.map (·.1) else kvs.map (·.1) ++ [k] := by
  unfold pG
  split
  · rw [List.map_map]
    refine List.map_congr_left fun e _ => ?_
    show (if e.1 = k then (e.1, e.2.1, v) else e).1 = e.1
    split <;> rfl
  · rw [List.map_append]
    rfl
theorem pG_len (kvs : List (KD × α × β)) (k : KD) (key : α) (v : β) : (pG kvs k key v).length ≤ kvs.length + 1 := by
  unfold pG
  split
  · rw [List.length_map]; omega
  · rw [List.length_append, List.length_singleton]; exact Nat.le_refl _
theorem pG_nodup {kvs : List (KD × α × β)} {k : KD} {key : α} {v : β} (h : (kvs.map (·.1)).Nodup) : ((pG kvs k key v).map (·.1)).Nodup := by
  rw [pG_keys]
  split
  · exact h
  · rename_i hs
    refine nd_add h fun hm => ?_
    obtain ⟨e, he, rfl⟩ := List.mem_map.mp hm
    exact vG_no (kvs := kvs) (k := e.1) (by cases e' : vG kvs e.1 with
      | none => rfl
      | some u => rw [e'] at hs; exact absurd rfl hs) e he rfl
end
section
variable {P : Program} {w : World} {A : Around} {E : Value → Shared → Prop} {s : Shared}
def GDict (P : Program) (w : World) (h : Heap) (d : Addr) (xs : List (KD × Value × Value)) : Prop :=
  ∃ o es ep, h.get? d = some o ∧ o.ExactDict ∧ o.data = .dict es ep ∧ es.toList = xs.map (gEnt P w) ∧ (∀ x ∈ xs, GIs P w h x.1 x.2.1) ∧ (xs.map (·.1)).Nodup
theorem GDict.typeIs {d : Addr} {xs : List (KD × Value × Value)} (g : GDict P w s.heap d xs) : s.TypeIs (.ref d) "dict" := let ⟨o, _, _, ho, hc, _⟩ := g; ⟨o, ho, hc.1⟩
theorem gIdx_get {xs : List (KD × Value × Value)} {k : KD} {j : Nat} (h : gIdx xs k = some j) : ∃ x, xs[j]? = some x ∧ x.1 = k := by
  unfold gIdx at h
  rw [List.findIdx?_eq_some_iff_getElem] at h
  obtain ⟨hj, h1, _⟩ := h
  exact ⟨xs[j], List.getElem?_eq_getElem hj, by simpa using h1⟩
theorem gIdx_no {xs : List (KD × Value × Value)} {k : KD} (h : gIdx xs k = none) : ∀ e ∈ xs, e.1 ≠ k := fun e he => by
  unfold gIdx at h
  rw [List.findIdx?_eq_none_iff] at h
  simpa using h e he
theorem gds_get {d : Addr} {xs : List (KD × Value × Value)} {k : KD} {v : Value} {Q : Option Value → Shared → Prop} (hu : A.units < cLine) (a : GIs P w s.heap k v) (g : GDict P w s.heap d xs) (h : Q (vG xs k) { s with toks := s.toks + gDraws P w k }) : wpAny (model P w) A (dictGet d v) Q E s := by
  obtain ⟨o, es, ep, ho, _, hd, he, his, hn⟩ := g
  unfold dictGet
  try with_reducible refine wpAny_holding ?_
  refine wpAny_bind (a.hash hu (wpAny_bind (g_find (s := { s with toks := s.toks + gDraws P w k }) hu a ho hd he his hn ?_)))
  cases e : gIdx xs k with
  | none =>
    rw [vG_none (gIdx_no e)] at h
    exact wpAny_pure h
  | some j =>
    obtain ⟨x, hx, ex⟩ := gIdx_get e
    rw [vG_some hn hx ex] at h
    refine wpAny_bind (wpAny_dictEntries (s := { s with toks := s.toks + gDraws P w k }) ho hd ?_)
    rw [← Array.getElem?_toList, he, List.getElem?_map, hx]
    exact wpAny_pure h
theorem modify_at {xs : List (KD × Value × Value)} {k : KD} {v : Value} {j : Nat} {x : KD × Value × Value} (hn : (xs.map (·.1)).Nodup) (hx : xs[j]? = some x) (ex : x.1 = k) :
    (xs.map (gEnt P w)).modify j (fun e => { e with val := v }) = (xs.map fun e => if e.1 = k then (e.1, e.2.1, v) else e).map (gEnt P w) := by
  apply List.ext_getElem?
  intro i
  rw [List.getElem?_modify, List.getElem?_map, List.getElem?_map, List.getElem?_map]
  cases hi : xs[i]? with
  | none => simp
  | some y =>
    by_cases e : j = i
    · subst e
      rw [hx] at hi
      cases hi
      simp [ex, gEnt]
    · have hy : ¬ y.1 = k := fun z => e ((List.getElem?_inj (by rw [List.length_map]; exact (List.getElem?_eq_some_iff.mp hx).1) hn).mp (by rw [List.getElem?_map, List.getElem?_map, hx, hi]; simp [ex, z]))
      simp [e, hy]
theorem gds_keep {h h' : Heap} {d : Addr} {o : Obj} {es : Array DictEntry} {ep : Nat} (ho : h.get? d = some o) (hc : o.ExactDict) (hs : Heap.SameBut d h h') {k : KD} {v : Value} (a : GIs P w h k v) : GIs P w h' k v := a.ext fun b o' hb hcl => (hs.2 b (fun z => by
  rw [z, ho] at hb
  cases hb
  rw [hc.1] at hcl
  exact absurd hcl (by decide))).trans hb
theorem gds_set {d : Addr} {xs : List (KD × Value × Value)} {k : KD} {v val : Value} {Q : Unit → Shared → Prop} (hu : A.units < cLine) (a : GIs P w s.heap k v) (g : GDict P w s.heap d xs) (hsz : xs.length ≤ sizeLine)
    (hQ : ∀ h', GDict P w h' d (pG xs k v val) → Heap.SameBut d s.heap h' → Q () { s with heap := h', toks := s.toks + gDraws P w k }) : wpAny (model P w) A (dictSet d v val) Q E s := by
  obtain ⟨o, es, ep, ho, hc, hd, he, his, hn⟩ := g
  have sz : es.size = xs.length := by rw [← Array.length_toList, he, List.length_map]
  have keep : ∀ h', Heap.SameBut d s.heap h' → ∀ x ∈ pG xs k v val, GIs P w h' x.1 x.2.1 := fun h' hs x hx => by
    unfold pG at hx
    split at hx
    · obtain ⟨y, hy, rfl⟩ := List.mem_map.mp hx
      have := gds_keep (es := es) (ep := ep) ho hc hs (his y hy)
      split <;> exact this
    · rcases List.mem_append.mp hx with hx | hx
      · exact gds_keep (es := es) (ep := ep) ho hc hs (his x hx)
      · rw [List.mem_singleton.mp hx]
        exact gds_keep (es := es) (ep := ep) ho hc hs a
  unfold dictSet
  try with_reducible refine wpAny_holding ?_
  refine wpAny_bind (a.hash hu ?_)
  unfold dictSetHashed
  try with_reducible refine wpAny_holding ?_
  refine wpAny_bind (g_find (s := { s with toks := s.toks + gDraws P w k }) hu a ho hd he his hn ?_)
  cases e : gIdx xs k with
  | none =>
    have hv := vG_none (gIdx_no e)
    refine wpAny_bind (wpAny_rule (wpAny_updateDictKeys (hz := by omega) (s := { s with toks := s.toks + gDraws P w k }) ho hd (hQ _ ⟨_, _, ep + 1, Heap.get?_update_self _ ho (Obj.isFreed_of_dict (Obj.data_mapDictKeys hd _)), hc.mapDictKeys _, Obj.data_mapDictKeys hd _, ?_, keep _ (Heap.SameBut.update ..), pG_nodup hn⟩ (Heap.SameBut.update ..))))
    unfold pG
    rw [hv, if_neg (by decide)]
    simp [he, gEnt]
  | some j =>
    obtain ⟨x, hx, ex⟩ := gIdx_get e
    have hv := vG_some hn hx ex
    refine wpAny_bind (wpAny_rule (wpAny_bind (wpAny_updateDict (s := { s with toks := s.toks + gDraws P w k }) ho hd (wpAny_point (hQ _ ⟨_, _, ep, Heap.get?_update_self _ ho (Obj.isFreed_of_dict (Obj.data_mapDict hd _)), hc.mapDict _, Obj.data_mapDict hd _, ?_, keep _ (Heap.SameBut.update ..), pG_nodup hn⟩ (Heap.SameBut.update ..))))))
    unfold pG
    rw [hv, if_pos (show (some x.2.2).isSome = true from rfl)]
    have := modify_at (P := P) (w := w) (v := val) hn hx ex
    rw [← he] at this
    obtain ⟨l⟩ := es
    simpa using this
end
end L2
set_option maxHeartbeats 4000000
namespace L2
open PySem PySem.Spec PySem.W PyProof.Rows
abbrev GP (H : Hp) : KD × V × V → KD × Value × Value → Prop := fun p q => p.1 = q.1 ∧ GK H p.1 p.2.1 ∧ RelV p.2.1 q.2.1 ∧ RelV p.2.2 q.2.2
section
variable {X : Cx} {pins : List (Addr × Obj)} {σ : St} {H : Hp} {s : Shared} {a : Addr} {y v : V} {u r : Value} {k : KD} {kvs : List (KD × V × V)} {A : Around} {E : Value → Shared → Prop}
theorem GK.is (I : Inv X pins σ H s) (g : GK H k y) (ry : RelV y u) : GIs X.prog X.w s.heap k u := by
  cases k with
  | non => cases g; exact ry
  | int i => cases g; exact ry
  | tup ks =>
    obtain ⟨b, rfl, hb⟩ := g
    exact ⟨b, ry, key_of I.hok hb⟩
theorem gp_mem {F : KD × V × V → KD × Value × Value → Prop} : ∀ {l : List (KD × V × V)} {m : List (KD × Value × Value)}, Paired F l m → ∀ x ∈ m, ∃ p ∈ l, F p x
  | _, _, .nil, x, h => nomatch h
  | _, _, .cons f t, x, h => by
    rcases List.mem_cons.mp h with rfl | h
    · exact ⟨_, List.mem_cons_self, f⟩
    · obtain ⟨p, hp, q⟩ := gp_mem t x h
      exact ⟨p, List.mem_cons_of_mem _ hp, q⟩
theorem gp_val : ∀ {l : List (KD × V × V)} {m : List (KD × Value × Value)}, Paired (GP H) l m → RelO (vG l k) (vG m k)
  | _, _, .nil => trivial
  | _, _, .cons (a := p) (b := q) f t => by
    have ih := gp_val t
    unfold vG at ih ⊢
    rw [List.find?_cons, List.find?_cons, ← f.1]
    by_cases e : p.1 = k
    · rw [decide_eq_true e]; exact f.2.2.2
    · rw [decide_eq_false e]; exact ih
theorem gp_map (rv : RelV v r) : ∀ {l : List (KD × V × V)} {m : List (KD × Value × Value)}, Paired (GP H) l m → Paired (GP H) (l.map fun e => if e.1 = k then (e.1, e.2.1, v) else e) (m.map fun e => if e.1 = k then (e.1, e.2.1, r) else e)
  | _, _, .nil => .nil
  | _, _, .cons (a := p) (b := q) f t => by
    refine .cons ?_ (gp_map rv t)
    show GP H (if p.1 = k then (p.1, p.2.1, v) else p) (if q.1 = k then (q.1, q.2.1, r) else q)
    rw [← f.1]
    split
    · exact ⟨rfl, f.2.1, f.2.2.1, rv⟩
    · exact f
theorem gp_put {l : List (KD × V × V)} {m : List (KD × Value × Value)} (t : Paired (GP H) l m) (g : GK H k y) (ry : RelV y u) (rv : RelV v r) : Paired (GP H) (pG l k y v) (pG m k u r) := by
  have e : (vG l k).isSome = (vG m k).isSome := (gp_val t).isSome_eq
  unfold pG
  rw [e]
  split
  · exact gp_map rv t
  · exact Paired.snoc t ⟨rfl, g, ry, rv⟩
theorem gp_len : ∀ {l : List (KD × V × V)} {m : List (KD × Value × Value)}, Paired (GP H) l m → l.length = m.length
  | _, _, .nil => rfl
  | _, _, .cons _ t => by rw [List.length_cons, List.length_cons, gp_len t]
theorem gd_rd (I : Inv X pins σ H s) (e : Rd H a (.dG kvs)) : kvs.length ≤ sizeLine ∧ (a == sysModules) = false ∧ ∃ xs, Paired (GP H) kvs xs ∧ GDict X.prog X.w s.heap a xs := by
  obtain ⟨z, y, xs, r, o, es, ep, h1, h2, h3, h4, h5⟩ := (show ObjOk X.prog X.w H s.heap a (.dG kvs) from e.ok I.hok)
  refine ⟨z, y, xs, r, o, es, ep, h1, h2, h3, h4, fun x hx => ?_, h5⟩
  obtain ⟨p, hp, f⟩ := gp_mem r x hx
  rw [← f.1]
  exact f.2.1.is I f.2.2.1
theorem gd_setItem {Q : Unit → Shared → Prop} (hu : A.units + 1 < cLine) (I : Inv X pins σ H s) (e : H a = some (.dG kvs)) (g : GK H k y) (hl : kvs.length < sizeLine) (ry : RelV y u) (rv : RelV v r) (h : ∀ s', Inv X pins σ (upd H a (.dG (pG kvs k y v))) s' → Q () s') :
    wpAny (model X.prog X.w) A (setItem (.ref a) u r) Q E s := by
  obtain ⟨z, hd, xs, rel, dd⟩ := gd_rd I (.inl e)
  unfold setItem
  try with_reducible refine wpAny_holding ?_
  refine wpAny_bind (wpAny_sequenceKey dd.typeIs (by decide) (wpAny_bind (wpAny_callSpecial?_slot (name := Str.ofString "__setitem__") dd.typeIs F.slot_dict_setitem (wpAny_call_entry F.slot_dict_setitem dd.typeIs F.entry_dict_setitem ?_ (F.args_dict_setitem_3 _ _ _)))))
  show wpAny (model X.prog X.w) _ (Builtin.Dict.notOrdered "__setitem__" ⟨[.ref a, u, r], []⟩ >>= _) _ _ s
  refine wpAny_bind (wpAny_notOrdered_dict dd.typeIs ?_)
  show wpAny (model X.prog X.w) _ (dictSet a u r >>= _) _ _ s
  refine wpAny_bind (gds_set (show A.in1.units < cLine from hu) (g.is I ry) dd (by rw [← gp_len rel]; exact z) fun h' dd' hs' => wpAny_pure ⟨Value.none, rfl, wpAny_pure (h _ ?_)⟩)
  obtain ⟨q, es, ep, hq, h2, h3, h4, _, h5⟩ := dd'
  have hlen := pG_len kvs k y v
  refine d_write I (by rw [e]; exact True.intro) hs' ⟨q, hq⟩ ⟨by omega, hd, _, Paired.mapP (gp_put rel g ry rv) fun p q z => ⟨z.1, z.2.1.stay fun b xs hb => ?_, z.2.2⟩, q, es, ep, hq, h2, h3, h4, h5⟩
  rw [upd_ne (ne_of hb e (fun z => nomatch z))]
  exact hb
end
def sDPutG (td ty tv : TE) : TS := fun D σ H => tv σ H fun v H1 => td σ H1 fun x H2 => ty σ H2 fun y H3 => ∃ a kvs k, x = .ref a ∧ H3 a = some (.dG kvs) ∧ GK H3 k y ∧ kvs.length < sizeLine ∧ D.nx σ (upd H3 a (.dG (pG kvs k y v)))
section
variable {X : Cx} {o i e value : Expr} {pos pos' tpos : Pos} {td ty tv : TE}
theorem ps_dputG (hu : X.A.units + 1 < cLine) (ho : PE X o td) (hi : PE X i ty) (hv : PE X value tv) (hs : swapsWith value (some (.Subscript o i pos')) pos.line X.env = pure false) :
    PS X (.Assign [.Subscript o i pos'] value pos) (sDPutG td ty tv) := by
  intro pins s σ H D I h
  refine wpAny_Assign_Subscript (thn (hv pins s σ H _ I h) fun r s1 ⟨v, H1, I1, rv, q1⟩ => thn (ho pins s1 σ H1 _ I1 q1) fun u s2 ⟨x, H2, I2, rx, q2⟩ => thn (hi pins s2 σ H2 _ I2 q2) fun iv s3 ⟨y, H3, I3, ry, a, kvs, k, ex, e, g, hl, q3⟩ => ?_) hs
  subst ex
  obtain rfl : u = Value.ref a := rx
  exact gd_setItem hu I3 e g hl ry rv fun s4 I4 => ⟨σ, _, I4, q3⟩
def tDctG : TE := fun _ H Q => ∀ p H', H p = none → Same H H' → H' p = some (.dG []) → Q (.ref p) H'
theorem dg_empty {P : Program} {w : World} {H : Hp} (h : Heap) (hb : sysModules < h.objs.size) : ObjOk P w H (h.push { cls := .type "dict", data := .dict #[] }) h.objs.size (.dG []) :=
  ⟨Nat.zero_le _, beq_eq_false_iff_ne.mpr (Ne.symm (Nat.ne_of_lt hb)), [], .nil, _, #[], 0, Heap.get?_push_size _ rfl, ⟨rfl, rfl, rfl⟩, rfl, rfl, List.nodup_nil⟩
theorem pe_dctG : PE X (.Dict [] [] pos) tDctG := fun pins s σ H Q I h =>
  wpAny_Dict_empty ⟨.ref s.heap.objs.size, _, I.laid (a := s.heap.objs.size) (o := .dG []) (t' := s.toks) (fun _ _ q => Heap.get?_push_of_some _ q) (Nat.le_refl _) (dg_empty s.heap I.big), rfl, h _ _ (I.hok.fresh (Nat.le_refl _)) (Same.new (I.hok.fresh (Nat.le_refl _))) upd_same⟩
end
end L2
set_option maxHeartbeats 4000000
namespace L2
open PySem PySem.Spec PySem.W PyProof.Rows
section
variable {prog : Program} {w : World} {A : Around} {E : Value → Shared → Prop}
end
section
variable {P : Program} {w : World} {A : Around}
end
section
variable {X : Cx} {pins : List (Addr × Obj)} {σ : St} {H : Hp} {s : Shared}
end
end L2
set_option maxHeartbeats 4000000
namespace L2
open PySem PySem.Spec PySem.W PyProof.Rows
section
variable {P : Program} {w : World} {A : Around} {E : Value → Shared → Prop} {s : Shared}
theorem gm_get2 {d : Addr} {v dflt : Value} (hd : (d == sysModules) = false) : MeetsIn P w (Builtin.«dict.get» ⟨[.ref d, v, dflt], []⟩) (fun A R s => A.in1.units < cLine ∧ ∃ k xs, GIs P w s.heap k v ∧ GDict P w s.heap d xs ∧ R (.ok (.ret ((vG xs k).getD dflt))) { s with toks := s.toks + gDraws P w k }) :=
  .of_wp fun A R s ⟨hu, k, xs, a, g, h⟩ => by
    show wpAny (model P w) _ (dictGet d v >>= _) _ _ s
    refine wpAny_bind (gds_get hu a g ?_)
    cases e : vG xs k with
    | some u => rw [e] at h; exact wpAny_pure ⟨u, rfl, h⟩
    | none =>
      rw [e] at h
      show wpAny (model P w) _ (Builtin.Dict.missed d v >>= _) _ _ _
      exact wpAny_bind (wpAny_missed_other hd (wpAny_pure ⟨dflt, rfl, h⟩))
theorem gds_setdef {d : Addr} {xs : List (KD × Value × Value)} {k : KD} {v val : Value} {Q : Value → Shared → Prop} (hu : A.units < cLine) (a : GIs P w s.heap k v) (g : GDict P w s.heap d xs) (hsz : xs.length ≤ sizeLine)
    (h1 : ∀ u, vG xs k = some u → Q u { s with toks := s.toks + gDraws P w k })
    (h2 : vG xs k = none → ∀ h', GDict P w h' d (pG xs k v val) → Heap.SameBut d s.heap h' → Q val { s with heap := h', toks := s.toks + gDraws P w k }) : wpAny (model P w) A (dictSetDefault d v val) Q E s := by
  obtain ⟨o, es, ep, ho, hc, hd, he, his, hn⟩ := g
  have sz : es.size = xs.length := by rw [← Array.length_toList, he, List.length_map]
  unfold dictSetDefault
  try with_reducible refine wpAny_holding ?_
  refine wpAny_bind (a.hash hu (wpAny_bind (g_find (s := { s with toks := s.toks + gDraws P w k }) hu a ho hd he his hn ?_)))
  cases e : gIdx xs k with
  | none =>
    have hv := vG_none (gIdx_no e)
    refine wpAny_bind (wpAny_rule (wpAny_bind (wpAny_updateDictKeys (hz := by omega) (s := { s with toks := s.toks + gDraws P w k }) ho hd (wpAny_pure (h2 hv _ ⟨_, _, ep + 1, Heap.get?_update_self _ ho (Obj.isFreed_of_dict (Obj.data_mapDictKeys hd _)), hc.mapDictKeys _, Obj.data_mapDictKeys hd _, ?_, fun x hx => ?_, pG_nodup hn⟩ (Heap.SameBut.update ..))))))
    · unfold pG
      rw [hv, if_neg (by decide)]
      simp [he, gEnt]
    · unfold pG at hx
      rw [hv, if_neg (by decide)] at hx
      rcases List.mem_append.mp hx with hx | hx
      · exact gds_keep (es := es) (ep := ep) ho hc (Heap.SameBut.update ..) (his x hx)
      · rw [List.mem_singleton.mp hx]
        exact gds_keep (es := es) (ep := ep) ho hc (Heap.SameBut.update ..) a
  | some j =>
    obtain ⟨x, hx, ex⟩ := gIdx_get e
    have hv := vG_some hn hx ex
    refine wpAny_bind (wpAny_dictEntries (s := { s with toks := s.toks + gDraws P w k }) ho hd ?_)
    rw [← Array.getElem?_toList, he, List.getElem?_map, hx]
    exact wpAny_bind (wpAny_rule (wpAny_pure (h1 _ hv)))
theorem gm_setdef {d : Addr} {v dflt : Value} (hd : (d == sysModules) = false) : MeetsIn P w (Builtin.«dict.setdefault» ⟨[.ref d, v, dflt], []⟩) (fun A R s => A.in1.units < cLine ∧ ∃ k xs, GIs P w s.heap k v ∧ GDict P w s.heap d xs ∧ xs.length ≤ sizeLine ∧
      (∀ u, vG xs k = some u → R (.ok (.ret u)) { s with toks := s.toks + gDraws P w k }) ∧ (vG xs k = none → ∀ h', GDict P w h' d (pG xs k v dflt) → Heap.SameBut d s.heap h' → R (.ok (.ret dflt)) { s with heap := h', toks := s.toks + gDraws P w k })) :=
  .of_wp fun A R s ⟨hu, k, xs, a, g, hz, h1, h2⟩ => by
    unfold Builtin.«dict.setdefault»
    refine wpAny_bind ?_
    unfold Builtin.Dict.keyAndDefault
    refine wpAny_bind (wpAny_notOrdered_dict g.typeIs (wpAny_pure ?_))
    show wpAny (model P w) _ (if (d == sysModules) = true then _ else (dictSetDefault d v dflt >>= _)) _ _ s
    rw [if_neg (by rw [hd]; decide)]
    exact wpAny_bind (gds_setdef hu a g hz (fun u hv => wpAny_pure ⟨u, rfl, h1 u hv⟩) fun hv h' g' hs' => wpAny_pure ⟨dflt, rfl, h2 hv h' g' hs'⟩)
end
theorem getD_rel {a : Option V} {b : Option Value} {x : V} {u : Value} (h : RelO a b) (r : RelV x u) : RelV (a.getD x) (b.getD u) := by
  cases a <;> cases b <;> first | exact h | exact r | exact h.elim
section
variable {X : Cx}
def rGet2 : V → List V → Hp → VK → Prop := fun x vs H Q => ∃ a kvs k y d, x = .ref a ∧ vs = [y, d] ∧ H a = some (.dG kvs) ∧ GK H k y ∧ Q ((vG kvs k).getD d) H
def rSetDef : V → List V → Hp → VK → Prop := fun x vs H Q => ∃ a kvs k y d, x = .ref a ∧ vs = [y, d] ∧ H a = some (.dG kvs) ∧ GK H k y ∧ kvs.length < sizeLine ∧ (∀ u, vG kvs k = some u → Q u H) ∧ (vG kvs k = none → Q d (upd H a (.dG (pG kvs k y d))))
theorem mt_get2G (hu : X.A.units + 1 < cLine) : MtM X "dict.get" rGet2 := by
  intro pins s σ H x xs v us Q I rx rv h
  obtain ⟨a, kvs, k, y, d, rfl, rfl, ha, g, q⟩ := h
  obtain ⟨u, u2, rfl, ru, ru2⟩ := rv.two
  cases rx
  obtain ⟨z, hd, ys, rel, dd⟩ := gd_rd I (.inl ha)
  exact call_meetsIn F.slot_dict_get dd.typeIs F.entry_dict_get (F.args_dict_get_3 _ _ _) (gm_get2 hd) ⟨hu, k, ys, g.is I ru, dd, ⟨_, H, I.tok _, getD_rel (gp_val rel) ru2, q⟩⟩
theorem mt_setdefG (hu : X.A.units + 1 < cLine) : MtM X "dict.setdefault" rSetDef := by
  intro pins s σ H x xs v us Q I rx rv h
  obtain ⟨a, kvs, k, y, d, rfl, rfl, ha, g, hl, q1, q2⟩ := h
  obtain ⟨u, u2, rfl, ru, ru2⟩ := rv.two
  cases rx
  obtain ⟨z, hd, ys, rel, dd⟩ := gd_rd I (.inl ha)
  have eo := gp_val (k := k) rel
  refine call_meetsIn F.slot_dict_setdefault dd.typeIs F.entry_dict_setdefault (F.args_dict_setdefault_3 _ _ _) (gm_setdef hd) ⟨hu, k, ys, g.is I ru, dd, by rw [← gp_len rel]; exact z, fun w' hw => ?_, fun hw h' dd' hs' => ?_⟩
  · rw [hw] at eo
    cases e : vG kvs k with
    | none => rw [e] at eo; exact eo.elim
    | some v => rw [e] at eo; exact ⟨v, H, I.tok _, eo, q1 v e⟩
  · rw [hw] at eo
    cases e : vG kvs k with
    | some v => rw [e] at eo; exact eo.elim
    | none =>
      obtain ⟨q, es, ep, hq, h2, h3, h4, _, h5⟩ := dd'
      have hlen := pG_len kvs k y d
      refine ⟨d, upd H a (.dG (pG kvs k y d)), d_write I (by rw [ha]; exact True.intro) hs' ⟨q, hq⟩ ⟨by omega, hd, _, Paired.mapP (gp_put rel g ru ru2) fun p q z => ⟨z.1, z.2.1.stay fun b xs hb => ?_, z.2.2⟩, q, es, ep, hq, h2, h3, h4, h5⟩, ru2, q2 e⟩
      rw [upd_ne (ne_of hb ha (fun z => nomatch z))]
      exact hb
end
end L2
set_option maxHeartbeats 4000000
namespace L2
open PySem PySem.Spec PySem.W PyProof.Rows
section
variable {X : Cx}
end
theorem perm_ix {js : List Nat} {ix : List Nat} (h : ix.Perm (List.range js.length)) : (ix.map fun i => js.getD i 0).Perm js := by
  have := h.map fun i => js.getD i 0
  refine this.trans (.of_eq ?_)
  apply List.ext_getElem?
  intro i
  rw [List.getElem?_map]
  by_cases hi : i < js.length
  · rw [List.getElem?_range hi, List.getElem?_eq_getElem hi]
    show some (js.getD i 0) = _
    rw [List.getD_eq_getElem?_getD, List.getElem?_eq_getElem hi]; rfl
  · rw [List.getElem?_eq_none (by simpa using hi), List.getElem?_eq_none (by omega)]; rfl
theorem depth_le : ∀ {ds : List PyData} {k : Nat}, (∀ d ∈ ds, d.depth ≤ k) → PyData.depthAll ds ≤ k
  | [], _, _ => Nat.zero_le _
  | d :: ds, k, h => by
    have a := h d List.mem_cons_self
    have b := depth_le (ds := ds) fun x hx => h x (List.mem_cons_of_mem _ hx)
    show max d.depth (PyData.depthAll ds) ≤ k
    omega
end L2
set_option maxHeartbeats 4000000
namespace L2
open PySem PySem.Spec PySem.W PyProof.Rows
section
variable {P : Program} {w : World} {fs : List Addr} {H H1 : Hp} {h h1 h2 : Heap}
theorem Un.later (u : Un fs [] H H1 h h1) (k : ∀ b o, b < h.objs.size → h1.get? b = some o → h2.get? b = some o) : Un fs [] H H1 h h2 where
  keep := fun b o q n hb hx => k b o (Heap.lt_size q) (u.keep b o q n hb hx)
  slot := fun b o q n hb hx => let ⟨sl, e⟩ := u.slot b o q n hb hx; ⟨sl, k b _ (Heap.lt_size q) e⟩
  free := u.free
  there := fun b o q hx => let ⟨o', e⟩ := u.there b o q hx; ⟨o', k b o' (Heap.lt_size q) e⟩
  tups := u.tups
  frzs := u.frzs
  tbls := u.tbls
theorem HOk.other {a : Addr} (x : HOk P w H h) (k : ∀ b u, b ≠ a → h.get? b = some u → h2.get? b = some u) (hn : H a = none) : HOk P w H h2 := fun b o e => by
  have ne : ∀ {c u}, H c = some u → c ≠ a := fun q z => by rw [z, hn] at q; cases q
  refine (x b o e).stay (fun c u hc q => k c u ?_ q) (fun _ q => q) fun _ _ q => q
  rcases hc with rfl | hc
  · exact ne e
  · exact ne hc
theorem HOk.adopt {a : Addr} {o : HO} (x : HOk P w H h) (hn : H a = none) (new : ObjOk P w (upd H a o) h a o) : HOk P w (upd H a o) h := fun b u e => by
  by_cases hb : b = a
  · subst hb; rw [upd_same] at e; cases e; exact new
  · rw [upd_ne hb] at e
    refine (x b u e).stay (fun _ _ _ q => q) (fun c q => ?_) fun c xs q => ?_
    · rw [upd_ne (fun z => by rw [z, hn] at q; cases q)]; exact q
    · rw [upd_ne (fun z => by rw [z, hn] at q; cases q)]; exact q
theorem Un.adopt {a : Addr} {o : HO} (u : Un fs [] H H1 h h1) (ha : h.objs.size ≤ a) (hn : H1 a = none) : Un fs [] H (upd H1 a o) h h1 where
  keep := u.keep
  slot := u.slot
  free := fun b ob q n hx => by
    rw [upd_ne (Nat.ne_of_lt (Nat.lt_of_lt_of_le (Heap.lt_size q) ha))]
    exact u.free b ob q n hx
  there := u.there
  tups := fun b xs q => by
    have := u.tups b xs q
    rw [upd_ne (fun z => by rw [z, hn] at this; cases this)]; exact this
  frzs := fun b ob v q => by
    have := u.frzs b ob v q
    rw [upd_ne (fun z => by rw [z, hn] at this; cases this)]; exact this
  tbls := fun b ps q => by
    obtain ⟨m, this⟩ := u.tbls b ps q
    exact ⟨m, by rw [upd_ne (fun z => by rw [z, hn] at this; cases this)]; exact this⟩
end
def rSortK (K : PySem.W.Frag) (sp : Sp) : List V → Hp → VK → Prop := fun xs H Q => ∃ p ys ds t, xs = [.ref p] ∧ SqL K H p ys ∧ ds.length = ys.length ∧ KeysAre ds t ∧ ys.length ≤ 2000 ∧
  (∀ (m : Nat) y d H' (Q' : VK), ys[m]? = some y → ds[m]? = some d → Same H H' → (∀ H'' kv, Same H' H'' → DV K H'' kv d → Q' kv H'') → sp [y] H' Q' E0) ∧
  ∀ q H' ix, H q = none → Same H H' → SortIx ds ix → H' q = some (.lst (ix.map fun i => ys.getD i .non)) → Q (.ref q) H'
section
variable {X : Cx} {pins : List (Addr × Obj)} {σ : St} {H : Hp} {s : Shared} {k : Nat} {fa : Addr} {fd : FuncData} {ps : List Str} {sp : Sp}
structure KSt (X : Cx) (H : Hp) (s : Shared) (a kS : Addr) (e1 : Nat) (Hm : Hp) (s' : Shared) (ks : List Value) (kvs : List V) (ds : List PyData) : Prop where
  un : Un (frs X.stack) [] H Hm s.heap s'.heap
  hok : HOk X.prog X.w Hm s'.heap
  os : s'.os = s.os
  bare : AllBare s'.gens
  same : Same H Hm
  fa' : Hm a = none
  fk : Hm kS = none
  ga : s'.heap.get? a = some (seqObj "list" #[] e1)
  gk : ∃ e, s'.heap.get? kS = some (seqObj "list" ks.toArray e)
  vals : Vals kvs ks
  dv : DVs X.K Hm kvs ds
theorem dvs_snoc {K : PySem.W.Frag} {H : Hp} {x : V} {d : PyData} (h : DV K H x d) : ∀ {xs : List V} {ds : List PyData}, DVs K H xs ds → DVs K H (xs ++ [x]) (ds ++ [d])
  | _, _, .nil => .cons h .nil
  | _, _, .cons a t => .cons a (dvs_snoc h t)
theorem key_loop {A' : Around} {a kS : Addr} {e1 : Nat} {E : Value → Shared → Prop} {R : Shared → Prop} (hcall : ∀ (s' : Shared) (Hm : Hp) (x : Value) (y : V) (Q : VK), Env0 X.prog X.w X.K X.mg X.base A' X.stack s' Hm → Un (frs X.stack) [] H Hm s.heap s'.heap → Same H Hm → RelV y x → sp [y] Hm Q E0 → codeAny (model X.prog X.w) A' (.call (.ref fa) ⟨[x], []⟩) (CR CX0 X.stack X.prog X.w Hm s' Q E0) s') (hfr : A'.frames = X.A.frames) (I : Inv X pins σ H s) (ha : s.heap.objs.size ≤ a) (hk : s.heap.objs.size ≤ kS) (hak : a ≠ kS) (nfa : a ∉ frs X.stack) (nfk : kS ∉ frs X.stack)
    {body : Value → PUnit → Sem (ForInStep PUnit)} (hbody : ∀ x (s' : Shared) (R' : ForInStep PUnit → Shared → Prop), wpAny (model X.prog X.w) A' (call (.ref fa) [x]) (fun kv s2 => wpAny (model X.prog X.w) A' (Builtin.List.listUpdate (.ref kS) (·.push kv)) (fun _ s3 => R' (.yield ⟨⟩) s3) E s2) (fun _ _ => False) s' → wpAny (model X.prog X.w) A' (body x ⟨⟩) R' E s') :
    ∀ (r : List Value) (ry : List V) (rd : List PyData) (ks : List Value) (kvs : List V) (dd : List PyData) (Hm : Hp) (s' : Shared), Vals ry r → rd.length = ry.length →
      (∀ (m : Nat) y d H' (Q' : VK), ry[m]? = some y → rd[m]? = some d → Same H H' → (∀ H'' kv, Same H' H'' → DV X.K H'' kv d → Q' kv H'') → sp [y] H' Q' E0) →
      ks.length + r.length ≤ 2000 → KSt X H s a kS e1 Hm s' ks kvs dd →
      (∀ Hn s'' ks' kvs', KSt X H s a kS e1 Hn s'' ks' kvs' (dd ++ rd) → ks'.length = ks.length + r.length → R s'') → wpAny (model X.prog X.w) A' (forIn r PUnit.unit body) (fun _ s'' => R s'') E s'
  | [], ry, rd, ks, kvs, dd, Hm, s', rv, hl, hsp, hz, st, fin => by
    cases rv
    rw [List.length_nil] at hl
    rw [List.length_eq_zero_iff.mp hl] at fin
    rw [List.forIn_nil]
    refine wpAny_pure (fin Hm s' ks kvs ?_ rfl)
    rw [List.append_nil]
    exact st
  | x :: r, _, [], ks, kvs, dd, Hm, s', .cons _ _, hl, hsp, hz, st, fin => absurd hl (by simp)
  | x :: r, _, d :: rd, ks, kvs, dd, Hm, s', .cons (a := y) (l₁ := ry) r1 rv, hl, hsp, hz, st, fin => by
    rw [List.forIn_cons]
    have I' : Inv X pins σ Hm s' := I.call' st.os st.un st.hok st.bare (fun b z => absurd z (by simp))
    have e0 := I'.env0
    obtain ⟨ek, gk⟩ := st.gk
    refine wpAny_bind (hbody x s' _ ?_)
    refine wpAny_call (codeAny_mono (hcall s' Hm x y (fun kv H2 => Same Hm H2 ∧ DV X.K H2 kv d) ⟨hfr.trans e0.frames, e0.mod, e0.bs, e0.bsz, e0.funs, e0.frf, e0.hok, e0.bare⟩ st.un st.same r1 (hsp 0 y d Hm _ rfl rfl st.same fun H2 kv a1 a2 => ⟨a1, a2⟩)) fun res s2 hq => ?_)
    cases res with
    | error e => exact hq.elim
    | ok fl =>
      cases fl with
      | next => exact hq.elim
      | brk => exact hq.elim
      | cont => exact hq.elim
      | ret u =>
        obtain ⟨v, H2, os2, bare2, un2, hok2, rel, same2, dv2⟩ := hq
        have gk2 := un2.keep kS _ gk st.fk nfk (by simp)
        have ga2 := un2.keep a _ st.ga st.fa' nfa (by simp)
        have fk2 := un2.free kS _ gk st.fk (by simp)
        have fa2 := un2.free a _ st.ga st.fa' (by simp)
        have hz' : ks.length + (r.length + 1) ≤ 2000 := hz
        have z64 : 2000 ≤ sizeLine := Nat.le_of_lt (small2000 (by decide))
        refine listUpdate_at gk2 rfl ?_ (by rw [List.size_toArray]; omega) (by rw [Array.size_push, List.size_toArray]; omega)
        obtain ⟨c2, g2⟩ : ∃ c2, (s2.heap.update kS (Obj.mapSeq (·.push u))).get? kS = some (seqObj "list" ((ks ++ [u]).toArray) c2) := by
          have ea : ks.toArray.push u = (ks ++ [u]).toArray := by simp
          exact ⟨_, by rw [← ea]; exact get?_update_seq gk2 (·.push u)⟩
        have sb := Heap.SameBut.update s2.heap kS (Obj.mapSeq (·.push u))
        refine key_loop hcall hfr I ha hk hak nfa nfk hbody r ry rd (ks ++ [u]) (kvs ++ [v]) (dd ++ [d]) H2 _ rv (by simpa using hl) (fun m y' d' H' Q' h1 h2 h3 h4 => hsp (m + 1) y' d' H' Q' (by simpa using h1) (by simpa using h2) h3 h4) (by rw [List.length_append, List.length_singleton]; omega) ⟨?_, ?_, os2.trans st.os, bare2, st.same.trans same2, fa2, fk2, (sb.2 a hak).trans ga2, ⟨c2, g2⟩, ?_, ?_⟩ fun Hn s'' ks' kvs' st' hl' => fin Hn s'' ks' kvs' ?_ ?_
        · exact (st.un.trans un2).later fun b o hb' e => (sb.2 b (Nat.ne_of_lt (Nat.lt_of_lt_of_le hb' hk))).trans e
        · exact hok2.other (fun b u' hb' e => (sb.2 b hb').trans e) fk2
        · exact st.vals.append (.cons rel .nil)
        · exact dvs_snoc dv2 (st.dv.same same2)
        · rw [List.append_assoc] at st'
          exact st'
        · rw [hl', List.length_append, List.length_singleton, List.length_cons]
          omega
theorem key_tail {A' : Around} {a kS : Addr} {e1 : Nat} {E : Value → Shared → Prop} {P : PySem.Fin → Shared → Prop} {Hn : Hp} {s' : Shared} {ks : List Value} {kvs : List V} {ds : List PyData} {st : SortSt} {out : List Value} {ov : List V} (hk : s.heap.objs.size ≤ kS) (ha : s.heap.objs.size ≤ a) (hak : a ≠ kS) (S : KSt X H s a kS e1 Hn s' ks kvs ds) (hz : ks.length ≤ 2000) (ho : out.length ≤ 2000) (hout : (arrOf st).map (·.2) = out.toArray) (hf : failedOf st = none) (rov : Vals ov out)
    (fin : ∀ s2 H2, Un (frs X.stack) [] H H2 s.heap s2.heap → HOk X.prog X.w H2 s2.heap → s2.os = s.os → AllBare s2.gens → Same H H2 → H2 a = some (.lst ov) → P (.done (.ret .none)) s2) : wpAny (model X.prog X.w) A' (ksk_tail a false e1 (.ref kS) st) P E s' := by
  obtain ⟨ek, gk⟩ := S.gk
  have z64 : 2000 ≤ sizeLine := Nat.le_of_lt (small2000 (by decide))
  unfold ksk_tail
  try dsimp only
  rw [hout]
  have sb := Heap.SameBut.update s'.heap kS (Obj.mapSeq fun _ => (#[] : Array Value))
  have ga1 := (sb.2 a hak).trans S.ga
  refine wpAny_bind (listUpdate_at gk rfl (wpAny_bind (wpAny_letGo (wpAny_bind (seqEpoch_at ga1 rfl (wpAny_bind (listUpdate_at ga1 rfl ?_ (Nat.zero_le _) (by show out.toArray.size ≤ _; rw [List.size_toArray]; omega))))))) (by rw [List.size_toArray]; omega) (Nat.zero_le _))
  rw [hf]
  simp only [bne_self_eq_false, Bool.false_eq_true, if_false]
  have sb2 := Heap.SameBut.update (s'.heap.update kS (Obj.mapSeq fun _ => (#[] : Array Value))) a (Obj.mapSeq fun _ => out.toArray)
  obtain ⟨c2, g2⟩ : ∃ c2, ((s'.heap.update kS (Obj.mapSeq fun _ => (#[] : Array Value))).update a (Obj.mapSeq fun _ => out.toArray)).get? a = some (seqObj "list" out.toArray c2) := ⟨_, get?_update_seq ga1 fun _ => out.toArray⟩
  refine wpAny_pure (fin _ (upd Hn a (.lst ov)) ?_ ?_ S.os S.bare (S.same.trans (Same.new S.fa')) upd_same)
  · refine (S.un.later fun b o hb e => ?_).adopt ha S.fa'
    have h1 : b ≠ kS := Nat.ne_of_lt (Nat.lt_of_lt_of_le hb hk)
    have h2 : b ≠ a := Nat.ne_of_lt (Nat.lt_of_lt_of_le hb ha)
    exact (sb2.2 b h2).trans ((sb.2 b h1).trans e)
  · refine HOk.adopt ((S.hok.other (fun b u hb e => (sb.2 b hb).trans e) S.fk).other (fun b u hb e => (sb2.2 b hb).trans e) S.fa') S.fa' ⟨?_, out, c2, rov, g2⟩
    rw [rov.length]
    omega
theorem sorted_keyC {Q : VK} {us : List Value} {xs : List V} (hcall : ∀ (s' : Shared) (Hm : Hp) (x : Value) (y : V) (Q : VK), Env0 X.prog X.w X.K X.mg X.base X.A.in1.in1 X.stack s' Hm → Un (frs X.stack) [] H Hm s.heap s'.heap → Same H Hm → RelV y x → sp [y] Hm Q E0 → codeAny (model X.prog X.w) X.A.in1.in1 (.call (.ref fa) ⟨[x], []⟩) (CR CX0 X.stack X.prog X.w Hm s' Q E0) s') (hu : X.A.units + 3 + 61 < cLine) (I : Inv X pins σ H s) (rx : Vals xs us) (hh : rSortK X.K sp xs H Q) :
    wpAny (model X.prog X.w) X.A (call (.builtin "sorted") us [(Str.ofString "key", .ref fa)]) (EP X pins σ Q) X.xe s := by
  obtain ⟨p, ys, ds, t, rfl, hq, hdl, hk, h64, hsp, q⟩ := hh
  obtain ⟨u, rfl, ru⟩ := vals1 rx
  cases ru
  obtain ⟨vs, rv, pl, hz⟩ := I.list hq
  have hl := rv.length
  have zl : vs.length ≤ sizeLine := by omega
  refine call_function_entry_kw kind_sorted plain_sorted entry_sorted (ksk_s1 _ _) ?_
  unfold Builtin.«sorted»
  refine wpAny_bind (m := checkCount "sorted" 1 1 _) (wpAny_pure (wpAny_bind (collect_list pl.isList (wpAny_bind (wpAny_newList ?_ zl)) zl)))
  have hsz : ((s.heap.push (seqObj "list" #[] 0)).update s.heap.objs.size (Obj.mapSeq (· ++ vs.toArray))).objs.size = s.heap.objs.size + 1 := (Heap.size_update _ _ _).trans (size_push' _ _)
  have x1 : Ext s.heap (((s.heap.push (seqObj "list" #[] 0)).update s.heap.objs.size (Obj.mapSeq (· ++ vs.toArray))).push (seqObj "list" vs.toArray 0)) := ((Ext.push _ _).upd (Nat.le_refl _)).trans (.push _ _)
  have o1 : (((s.heap.push (seqObj "list" #[] 0)).update s.heap.objs.size (Obj.mapSeq (· ++ vs.toArray))).push (seqObj "list" vs.toArray 0)).get? (s.heap.objs.size + 1) = some (seqObj "list" vs.toArray 0) := hsz ▸ Heap.get?_push_size _ rfl
  show wpAny (model X.prog X.w) _ _ _ _ { s with heap := ((s.heap.push (seqObj "list" #[] 0)).update s.heap.objs.size (Obj.mapSeq (· ++ vs.toArray))).push (seqObj "list" vs.toArray 0) }
  rw [hsz]
  generalize ((s.heap.push (seqObj "list" #[] 0)).update s.heap.objs.size (Obj.mapSeq (· ++ vs.toArray))).push (seqObj "list" vs.toArray 0) = h1 at x1 o1 ⊢
  have ha : s.heap.objs.size ≤ s.heap.objs.size + 1 := Nat.le_succ _
  generalize s.heap.objs.size + 1 = a at ha o1 ⊢
  refine wpAny_bind (wpAny_holding (wpAny_call_entry_kw slot_list_sort ⟨_, o1, rfl⟩ entry_list_sort ?_ (ksk_l1 _ _)))
  show wpAny (model X.prog X.w) X.A.in1.in1 (Builtin.«list.sort» ⟨[.ref a], [(Str.ofString "key", .ref fa)]⟩) _ _ _
  rw [ksk_t1]
  unfold ksk_tree
  obtain ⟨e1, o2⟩ : ∃ e1, (h1.update a (Obj.mapSeq fun _ => (#[] : Array Value))).get? a = some (seqObj "list" #[] e1) := ⟨_, get?_update_seq o1 fun _ => #[]⟩
  have x2 : Ext s.heap (h1.update a (Obj.mapSeq fun _ => (#[] : Array Value))) := x1.upd ha
  refine wpAny_bind (listItems_at o1 rfl (wpAny_bind (listUpdate_at o1 rfl (wpAny_bind (seqEpoch_at o2 rfl (wpAny_bind (wpAny_newTuple (wpAny_bind (wpAny_newList (wpAny_holding ?_) (Nat.zero_le _))) zl)))) (by rw [List.size_toArray]; exact zl) (Nat.zero_le _))))
  have hkS : s.heap.objs.size ≤ ((h1.update a (Obj.mapSeq fun _ => (#[] : Array Value))).push (seqObj "tuple" vs.toArray 0)).objs.size := by
    rw [size_push', Heap.size_update]
    have : a < h1.objs.size := Heap.lt_size o1
    omega
  have hak : a ≠ ((h1.update a (Obj.mapSeq fun _ => (#[] : Array Value))).push (seqObj "tuple" vs.toArray 0)).objs.size := by
    rw [size_push', Heap.size_update]
    have : a < h1.objs.size := Heap.lt_size o1
    omega
  have o3 : (((h1.update a (Obj.mapSeq fun _ => (#[] : Array Value))).push (seqObj "tuple" vs.toArray 0)).push (seqObj "list" #[] 0)).get? a = some (seqObj "list" #[] e1) := Heap.get?_push_of_some _ (Heap.get?_push_of_some _ o2)
  have ok3 : (((h1.update a (Obj.mapSeq fun _ => (#[] : Array Value))).push (seqObj "tuple" vs.toArray 0)).push (seqObj "list" #[] 0)).get? ((h1.update a (Obj.mapSeq fun _ => (#[] : Array Value))).push (seqObj "tuple" vs.toArray 0)).objs.size = some (seqObj "list" #[] 0) := Heap.get?_push_size _ rfl
  have x3 : Ext s.heap (((h1.update a (Obj.mapSeq fun _ => (#[] : Array Value))).push (seqObj "tuple" vs.toArray 0)).push (seqObj "list" #[] 0)) := (x2.trans (.push _ _)).trans (.push _ _)
  show wpAny (model X.prog X.w) X.A.in1.in1 (ksk_rest a (.ref fa) false vs.toArray e1 (.ref ((h1.update a (Obj.mapSeq fun _ => (#[] : Array Value))).push (seqObj "tuple" vs.toArray 0)).objs.size)) _ _ { s with heap := ((h1.update a (Obj.mapSeq fun _ => (#[] : Array Value))).push (seqObj "tuple" vs.toArray 0)).push (seqObj "list" #[] 0) }
  generalize ((h1.update a (Obj.mapSeq fun _ => (#[] : Array Value))).push (seqObj "tuple" vs.toArray 0)).objs.size = kS at hkS hak ok3 ⊢
  generalize ((h1.update a (Obj.mapSeq fun _ => (#[] : Array Value))).push (seqObj "tuple" vs.toArray 0)).push (seqObj "list" #[] 0) = h3 at o3 ok3 x3 ⊢
  have nst : ∀ b, s.heap.objs.size ≤ b → b ∉ frs X.stack := fun b hb' hm => by
    rcases List.mem_cons.mp (I.stkSub b hm) with z | z
    · exact absurd (Nat.lt_of_lt_of_le I.lt hb') (by rw [z]; exact Nat.lt_irrefl _)
    · exact I.nofs hb' z
  have S0 : KSt X H s a kS e1 H { s with heap := h3 } [] [] [] := ⟨Un.kept x3, I.hok.kept x3, rfl, I.bare, Same.refl H, I.hok.fresh ha, I.hok.fresh hkS, o3, ⟨0, ok3⟩, .nil, .nil⟩
  unfold ksk_rest
  refine wpAny_bind (wpAny_rule ?_)
  first
    | rw [List.forIn_toArray]
    | (rw [← Array.forIn_toList]; simp only [List.toList_toArray])
  refine wpAny_bind (key_loop (R := fun s'' => wpAny (model X.prog X.w) X.A.in1.in1 (do let keys ← Builtin.List.listItems (.ref kS); ksk_end a false vs.toArray e1 (.ref kS) keys) _ _ s'') hcall rfl I ha hkS hak (nst a ha) (nst kS hkS) (fun x s' R' hx => ?_) vs ys ds [] [] [] H _ rv hdl hsp (by rw [List.length_nil]; omega) S0 fun Hn s'' ks kvs S hks => ?_)
  · refine wpAny_bind (wpAny_attempt (wpAny_mono hx (fun kv s2 h2 => ?_) fun _ _ z => z.elim))
    exact wpAny_bind (wpAny_mono h2 (fun _ s3 h3 => wpAny_pure h3) fun _ _ z => z)
  · rw [List.nil_append] at S
    rw [List.length_nil, Nat.zero_add] at hks
    obtain ⟨ek, gk⟩ := S.gk
    have hkl : ks.length = ds.length := by rw [hks, hdl, hl]
    have I' : Inv X pins σ Hn s'' := I.call' S.os S.un S.hok S.bare (fun b z => absurd z (by simp))
    obtain ⟨as, ra⟩ := S.dv.reads I' S.vals
    have W := swo_of hk.one
    refine wpAny_bind (listItems_at gk rfl ?_)
    have fin : ∀ (pm : Array Nat), Arr vs.length (ltK ds) pm → ∀ st : SortSt, (arrOf st).map (·.2) = List.toArray (pm.toList.map fun i => vs.getD i Value.none) → failedOf st = none → wpAny (model X.prog X.w) X.A.in1.in1 (ksk_tail a false e1 (.ref kS) st) (fun fin s' => ∃ v, fin = PySem.Fin.done (.ret v) ∧ wpAny (model X.prog X.w) X.A.in1 (ret (Value.ref a)) (fun fin s' => ∃ v, fin = .done (.ret v) ∧ EP X pins σ Q v s') X.xe s') X.xe s'' := fun pm ar st ho hf => by
      have hix : ∀ i ∈ pm.toList, i < ys.length := fun i hi => by
        have := (ar.1.toList.mem_iff).mp hi
        simp at this
        omega
      have hpl : pm.size = vs.length := by rw [ar.1.size_eq]; simp
      refine key_tail hkS ha hak S (by omega) (by rw [List.length_map, Array.length_toList, hpl]; omega) ho hf (vals_getD rv _ hix) fun s2 H2 un hok os bare same e2 => ?_
      refine ⟨_, rfl, wpAny_pure ⟨_, rfl, .ref a, H2, I.call' os un hok bare (fun b z => absurd z (by simp)), rfl, q a H2 pm.toList (I.hok.fresh ha) same (sortIx_of (by rw [← hkl, hks]; exact ar)) e2⟩⟩
    unfold ksk_end
    try dsimp only
    rw [if_neg (by decide)]
    by_cases h2 : vs.toArray.size < 2
    · rw [if_pos h2, if_pos h2]
      have h2' : vs.length < 2 := by simpa using h2
      refine wpAny_bind (wpAny_pure ?_)
      rw [StateT.run_pure]
      refine wpAny_bind (wpAny_pure ?_)
      refine fin _ (arr_small W h2') _ ?_ rfl
      show ((ks.toArray.zip vs.toArray).map (·.2)) = _
      apply Array.toList_inj.mp
      rw [Array.toList_map, Array.toList_zip]
      have e1 : List.map (·.2) (ks.zip vs) = vs := List.map_snd_zip (by omega)
      have e2 : (List.toArray (List.range vs.length)).toList.map (fun i => vs.getD i Value.none) = vs := by
        apply List.ext_getElem?
        intro i
        by_cases hi : i < vs.length
        · simp [hi]
        · simp [hi]
      show List.map (·.2) (ks.zip vs) = (List.toArray (List.range vs.length)).toList.map (fun i => vs.getD i Value.none)
      rw [e1, e2]
    · rw [if_neg h2, if_neg h2]
      have h2' : ¬ vs.length < 2 := by simpa using h2
      obtain ⟨κ, hkk, hqq⟩ := answers_of (prog := X.prog) (w := X.w) (A := X.A.in1.in1) ra hk (by omega) (by show X.A.units + 1 + 1 + 60 < cLine; omega)
      refine wpAny_bind (wpAny_mono (hkk (fun k s' => k = κ ∧ s' = s'') ⟨rfl, rfl⟩) ?_ fun _ _ z => z.elim)
      rintro k' s' ⟨rfl, rfl⟩
      rw [if_neg (by decide)]
      refine wpAny_bind (wpAny_mono (sort_run (E := X.xe) (R := fun st s3 => s3 = s' ∧ ∃ pm, Arr vs.length (ltK ds) pm ∧ (arrOf st).map (·.2) = List.toArray (pm.toList.map fun i => vs.getD i Value.none) ∧ failedOf st = none) W hks h2' hqq fun st pm a1 a2 a3 => ⟨rfl, pm, a1, a2, a3⟩) ?_ fun _ _ z => z)
      rintro ⟨⟨⟩, st⟩ s3 ⟨rfl, pm, ar, eo, hf⟩
      exact fin pm ar st eo hf
theorem sorted_key {Q : VK} {us : List Value} {xs : List V} (F : FnOk X.prog X.w X.K X.mg X.base CX0 k fa fd ps sp) (hr : Room k X.A.in1.in1) (hb : Binds X.K fd ps []) (hps : ps.length = 1) (hu : X.A.units + 3 + 61 < cLine) (I : Inv X pins σ H s) (rx : Vals xs us) (hh : rSortK X.K sp xs H Q) :
    wpAny (model X.prog X.w) X.A (call (.builtin "sorted") us [(Str.ofString "key", .ref fa)]) (EP X pins σ Q) X.xe s :=
  sorted_keyC (fun s' Hm x y Q e0 _ _ r1 hsp => F.run X.A.in1.in1 X.stack s' Hm ⟨[x], []⟩ [x] [y] Q E0 hr e0 (by
    have := hb s' [x] (e0.mod.kin.keeps fun b o e => (e0.bs b o e).1) (by rw [hps]; rfl)
    simpa using this) (.cons r1 .nil) hsp) hu I rx hh
theorem Room.in2 {k : Nat} {A : Around} (r : Room (k + 1) A) : Room k A.in1.in1 :=
  ⟨r.hd, by have := r.dp; show A.depth + 3 * k + 5 < _; omega, by have := r.un; show A.units + 1 + 1 + 16 * k + 200 < _; omega⟩
theorem pe_sortK {x y : Str} {e : Expr} {p yp kp pos : Pos} {t : TA} (F : FnOk X.prog X.w X.K X.mg X.base CX0 k fa fd ps sp) (hr : Room (k + 1) X.A) (hg : Gl X x) (hm : X.mg x = none) (hv : bootBuiltins x = some (.builtin "sorted")) (hgf : Gl X y) (hmf : X.mg y = some (.ref fa)) (hb : Binds X.K fd ps []) (hps : ps.length = 1) (ha : PA X [e] t) (hn : x ≠ "__name__" := by decide) (hdb : (x == ("__debug__" : Str)) = false := by decide) (hdf : (y == ("__debug__" : Str)) = false := by decide)
    (he : starEach [e] X.env = (false, eval e X.env) :: starEach [] X.env := by rfl) : PE X (.Call (.Name x p) [e] [⟨some "key", .Name y yp, kp⟩] pos) (tCB (rSortK X.K sp) t) := by
  intro pins s σ H Q I h
  refine wpAny_Call_Name_kw (ld_blt I hg hm hv ?_ hn hdb)
  refine callWith_kw (thn (ha pos pins s σ H _ I h) fun us s1 ⟨vs, H1, I1, r1, q1⟩ => kws_cons (ld_glob I1 hgf hmf (kws_nil ?_) hdf)) (by rw [he]; rfl) (by rw [he]; rfl)
  exact sorted_key F hr.in2 hb hps (by have := hr.un; omega) I1 r1 q1
end
end L2
set_option maxHeartbeats 4000000
namespace L2
open PySem PySem.Spec PySem.W PyProof.Rows
section
variable {X : Cx} {K : PySem.W.Frag}
end
section
variable {wd : Nat → Str} {L : List Lf} {H H' : Hp} {v : V} {k : Nat}
end
section
variable {wd : Nat → Str} {L : List Lf} {H H' : Hp} {vs : List V} {js : List Nat}
end
theorem sks_self : ∀ {ds : List PyData}, (∀ d ∈ ds, sk d d = true) → sks ds ds = true
  | [], _ => rfl
  | d :: ds, h => by
    rw [sks, h d List.mem_cons_self, sks_self fun x hx => h x (List.mem_cons_of_mem _ hx)]
    rfl
theorem list_selfS {ds : List PyData} (h : ∀ d ∈ ds, sk d d = true) : PyData.eqv (.list ds) (.list ds) = true := by
  show PyData.eqvAll ds ds = true
  exact (sks_eq ds ds (sks_self h)).mpr rfl
end L2
set_option maxHeartbeats 4000000
namespace Rga
def after (b a : Nat) : List Nat → List Nat
  | [] => []
  | x :: xs => if x = b then x :: a :: xs else x :: after b a xs
abbrev Pl := Nat × Option Nat
def ins (p : Pl) (row : List Nat) : List Nat := match p.2 with
  | none => p.1 :: row
  | some b => after b p.1 row
def rowR : List Pl → List Nat
  | [] => []
  | p :: qs => ins p (rowR qs)
def nms (qs : List Pl) : List Nat := qs.map (·.1)
def WF : List Pl → Prop
  | [] => True
  | p :: qs => p.1 ∉ nms qs ∧ (∀ b, p.2 = some b → b ∈ nms qs) ∧ WF qs
def rk (qs : List Pl) (k : Option Nat) : List Nat := (qs.filter fun p => decide (p.2 = k)).map (·.1)
inductive Dfs (f : Option Nat → List Nat) : List Nat → List Nat → Prop
  | nil : Dfs f [] []
  | cons {x : Nat} {st out : List Nat} : Dfs f (f (some x) ++ st) out → Dfs f (x :: st) (x :: out)
theorem after_perm {b a : Nat} : ∀ {row : List Nat}, b ∈ row → (after b a row).Perm (a :: row)
  | x :: xs, h => by
    unfold after
    by_cases e : x = b
    · rw [if_pos e]; exact .swap _ _ _
    · rw [if_neg e]
      rcases List.mem_cons.mp h with z | z
      · exact absurd z.symm e
      · exact ((after_perm z).cons x).trans (.swap _ _ _)
theorem row_perm : ∀ {qs : List Pl}, WF qs → (rowR qs).Perm (nms qs)
  | [], _ => .refl _
  | (a, none) :: qs, h => (row_perm h.2.2).cons a
  | (a, some b) :: qs, h => (after_perm ((row_perm h.2.2).mem_iff.mpr (h.2.1 b rfl))).trans ((row_perm h.2.2).cons a)
theorem wf_nodup : ∀ {qs : List Pl}, WF qs → (nms qs).Nodup
  | [], _ => List.nodup_nil
  | _ :: _, h => List.nodup_cons.mpr ⟨h.1, wf_nodup h.2.2⟩
theorem row_nodup {qs : List Pl} (h : WF qs) : (rowR qs).Nodup := (row_perm h).nodup_iff.mpr (wf_nodup h)
theorem rk_cons (p : Pl) (qs : List Pl) (k : Option Nat) : rk (p :: qs) k = if p.2 = k then p.1 :: rk qs k else rk qs k := by
  unfold rk
  by_cases e : p.2 = k
  · rw [if_pos e, List.filter_cons_of_pos (by simpa using e)]; rfl
  · rw [if_neg e, List.filter_cons_of_neg (by simpa using e)]
theorem rk_none {qs : List Pl} (h : WF qs) {a : Nat} (ha : a ∉ nms qs) : rk qs (some a) = [] := by
  induction qs with
  | nil => rfl
  | cons p qs ih =>
    have ha' : a ∉ nms qs := fun z => ha (List.mem_cons_of_mem _ z)
    rw [rk_cons, if_neg (fun e => ha' (h.2.1 a e)), ih h.2.2 ha']
theorem dfs_other {f g : Option Nat → List Nat} : ∀ {st out : List Nat}, Dfs f st out → (∀ x ∈ out, g (some x) = f (some x)) → Dfs g st out
  | _, _, .nil, _ => .nil
  | _, _, .cons (x := x) d, h => .cons (by
    rw [h x List.mem_cons_self]
    exact dfs_other d fun y hy => h y (List.mem_cons_of_mem _ hy))
theorem dfs_after {f g : Option Nat → List Nat} {a b : Nat} (hg : ∀ x, x ≠ b → g (some x) = f (some x)) (hb : g (some b) = a :: f (some b)) (ha : g (some a) = []) :
    ∀ {st out : List Nat}, Dfs f st out → out.Nodup → Dfs g st (after b a out)
  | _, _, .nil, _ => .nil
  | _, _, .cons (x := x) (st := st) (out := out) d, hn => by
    have hx := List.nodup_cons.mp hn
    unfold after
    by_cases e : x = b
    · rw [if_pos e]
      subst e
      refine .cons ?_
      rw [hb]
      refine .cons ?_
      rw [ha]
      exact dfs_other d fun y hy => hg y fun z => hx.1 (z ▸ hy)
    · rw [if_neg e]
      refine .cons ?_
      rw [hg x e]
      exact dfs_after hg hb ha d hx.2
theorem dfs_row : ∀ {qs : List Pl}, WF qs → Dfs (rk qs) (rk qs none) (rowR qs)
  | [], _ => .nil
  | (a, none) :: qs, h => by
    have ih := dfs_row h.2.2
    have hs : ∀ x, rk ((a, none) :: qs) (some x) = rk qs (some x) := fun x => by rw [rk_cons, if_neg (fun z => by cases z)]
    rw [rk_cons, if_pos rfl]
    refine .cons ?_
    rw [hs a, rk_none h.2.2 h.1]
    exact dfs_other ih fun x _ => hs x
  | (a, some b) :: qs, h => by
    have ih := dfs_row h.2.2
    have hab : a ≠ b := fun z => h.1 (z ▸ h.2.1 b rfl)
    rw [rk_cons, if_neg (fun z => by cases z)]
    refine dfs_after (f := rk qs) (g := rk ((a, some b) :: qs)) ?_ ?_ ?_ ih (row_nodup h.2.2)
    · intro x hx
      rw [rk_cons, if_neg (fun z => hx (Option.some.inj z).symm)]
    · rw [rk_cons, if_pos rfl]
    · rw [rk_cons, if_neg (fun z => hab (Option.some.inj z).symm), rk_none h.2.2 h.1]
theorem Dfs.nil_inv {f : Option Nat → List Nat} {out : List Nat} (d : Dfs f [] out) : out = [] := by cases d; rfl
theorem Dfs.cons_inv {f : Option Nat → List Nat} {x : Nat} {st out : List Nat} (d : Dfs f (x :: st) out) : ∃ out', out = x :: out' ∧ Dfs f (f (some x) ++ st) out' := by
  cases d with
  | cons d => exact ⟨_, rfl, d⟩
end Rga
namespace L2
open PySem PySem.Spec PySem.W PyProof.Rows
end L2
set_option maxHeartbeats 4000000
namespace L2
open PySem PySem.Spec PySem.W PyProof.Rows
def Tups (H H' : Hp) : Prop := ∀ b xs, H b = some (.tup xs) → H' b = some (.tup xs)
section
variable {H H1 H' : Hp}
theorem Same.tups (s : Same H H') : Tups H H' := fun b xs e => s b _ e
theorem Tups.trans (a : Tups H H1) (b : Tups H1 H') : Tups H H' := fun c xs e => b c xs (a c xs e)
theorem Tups.wr {a : Addr} {o o' : HO} (e : H a = some o) (ho : ∀ ys, o ≠ .tup ys) : Tups H (upd H a o') := fun b xs q => by rw [upd_ne (tup_ne q e ho)]; exact q
theorem Tups.wl {a : Addr} {xs : List V} {o' : HO} (e : H a = some (.lst xs)) : Tups H (upd H a o') := Tups.wr e fun ys z => by cases z
theorem Tups.wd {a : Addr} {kvs : List (KD × V × V)} {o' : HO} (e : H a = some (.dG kvs)) : Tups H (upd H a o') := Tups.wr e fun ys z => by cases z
mutual
theorem DT.tups (t : Tups H H') : ∀ {x : V} {d : PyData}, DT H x d → DT H' x d
  | _, _, .non => .non
  | _, _, .bl b => .bl b
  | _, _, .int i => .int i
  | _, _, .str z => .str z
  | _, _, .tup e h => .tup (t _ _ e) (DTs.tups t h)
theorem DTs.tups (t : Tups H H') : ∀ {x : List V} {d : List PyData}, DTs H x d → DTs H' x d
  | _, _, .nil => .nil
  | _, _, .cons a b => .cons (DT.tups t a) (DTs.tups t b)
end
theorem GK.tups {k : KD} {v : V} (g : GK H k v) (t : Tups H H') : GK H' k v := g.stay t
end
def AN (P : V → Nat → Prop) (vs : List V) (js : List Nat) : Prop := vs.length = js.length ∧ ∀ (m : Nat) v i, vs[m]? = some v → js[m]? = some i → P v i
section
variable {P P' : V → Nat → Prop} {vs us : List V} {js ks : List Nat}
theorem AN.imp (h : AN P vs js) (f : ∀ v i, P v i → P' v i) : AN P' vs js := ⟨h.1, fun m v i e1 e2 => f _ _ (h.2 m v i e1 e2)⟩
theorem AN.nil : AN P [] [] := ⟨rfl, fun m v i z => by cases z⟩
theorem AN.app (h : AN P vs js) (g : AN P us ks) : AN P (vs ++ us) (js ++ ks) := by
  refine ⟨by rw [List.length_append, List.length_append, h.1, g.1], fun m v i e1 e2 => ?_⟩
  by_cases hm : m < vs.length
  · rw [List.getElem?_append_left hm] at e1
    rw [List.getElem?_append_left (by rw [← h.1]; exact hm)] at e2
    exact h.2 m v i e1 e2
  · rw [List.getElem?_append_right (by omega)] at e1
    rw [List.getElem?_append_right (by rw [← h.1]; omega), ← h.1] at e2
    exact g.2 _ v i e1 e2
theorem AN.one {v : V} {i : Nat} (h : P v i) : AN P [v] [i] := ⟨rfl, fun m v' i' e1 e2 => by
  cases m with
  | zero => cases e1; cases e2; exact h
  | succ m => cases e1⟩
theorem AN.snoc {v : V} {i : Nat} (h : AN P vs js) (hv : P v i) : AN P (vs ++ [v]) (js ++ [i]) := h.app (.one hv)
theorem AN.ix (h : AN P vs js) (ix : List Nat) (hix : ∀ i ∈ ix, i < vs.length) : AN P (ix.map fun i => vs.getD i .non) (ix.map fun i => js.getD i 0) := by
  refine ⟨by rw [List.length_map, List.length_map], fun m v i e1 e2 => ?_⟩
  rw [List.getElem?_map] at e1 e2
  cases e : ix[m]? with
  | none => rw [e] at e1; cases e1
  | some k =>
    rw [e] at e1 e2
    have hk := hix k (List.mem_of_getElem? e)
    have hk' : k < js.length := by rw [← h.1]; exact hk
    refine h.2 k v i ?_ ?_
    · rw [← Option.some.inj e1, List.getElem?_eq_getElem hk]
      show some vs[k] = some (vs.getD k .non)
      rw [List.getD_eq_getElem?_getD, List.getElem?_eq_getElem hk]; rfl
    · rw [← Option.some.inj e2, List.getElem?_eq_getElem hk']
      show some js[k] = some (js.getD k 0)
      rw [List.getD_eq_getElem?_getD, List.getElem?_eq_getElem hk']; rfl
theorem AN.at {m : Nat} {v : V} (h : AN P vs js) (e : vs[m]? = some v) : ∃ i, js[m]? = some i ∧ P v i := by
  have hm : m < js.length := by rw [← h.1]; exact (List.getElem?_eq_some_iff.mp e).1
  exact ⟨js[m], List.getElem?_eq_getElem hm, h.2 m v _ e (List.getElem?_eq_getElem hm)⟩
theorem AN.last {i : Nat} (h : AN P vs (js ++ [i])) : ∃ us x, vs = us ++ [x] ∧ AN P us js ∧ P x i := by
  have hl := h.1
  rw [List.length_append, List.length_singleton] at hl
  rcases List.eq_nil_or_concat vs with z | ⟨us, x, z⟩
  · rw [z] at hl; exact absurd hl (by simp)
  · rw [List.concat_eq_append] at z
    subst z
    have hu : us.length = js.length := by rw [List.length_append, List.length_singleton] at hl; omega
    refine ⟨us, x, rfl, ⟨hu, fun m v i e1 e2 => h.2 m v i ?_ ?_⟩, h.2 us.length x i (by simp) (by rw [hu]; simp)⟩
    · rw [List.getElem?_append_left (List.getElem?_eq_some_iff.mp e1).1]; exact e1
    · rw [List.getElem?_append_left (List.getElem?_eq_some_iff.mp e2).1]; exact e2
theorem AN.dts {H : Hp} {D : Nat → PyData} (hD : ∀ v i, P v i → DT H v (D i)) : ∀ {vs : List V} {js : List Nat}, AN P vs js → DTs H vs (js.map D)
  | [], [], _ => .nil
  | [], _ :: _, h => absurd h.1 (by simp)
  | _ :: _, [], h => absurd h.1 (by simp)
  | v :: vs, j :: js, h => .cons (hD _ _ (h.2 0 v j rfl rfl)) (AN.dts hD ⟨by have := h.1; simpa using this, fun m v i e1 e2 => h.2 (m + 1) v i (by simpa using e1) (by simpa using e2)⟩)
end
def kd (nk : Nat → List Key) : Option Nat → KD
  | none => .non
  | some i => .tup (nk i)
def NM (nk : Nat → List Key) (H : Hp) (v : V) (i : Nat) : Prop := GK H (.tup (nk i)) v
def PL (nk : Nat → List Key) (bh : Nat → Option Nat) (D : Nat → PyData) (H : Hp) (v : V) (k : Nat) : Prop := ∃ b vn vb vk, v = .ref b ∧ H b = some (.tup [vn, vb, vk]) ∧ NM nk H vn k ∧ GK H (kd nk (bh k)) vb ∧ DT H vk (D k)
section
variable {nk : Nat → List Key} {bh : Nat → Option Nat} {D : Nat → PyData} {H H' H0 : Hp} {v : V} {k : Nat}
theorem NM.tups (h : NM nk H v k) (t : Tups H H') : NM nk H' v k := GK.tups h t
theorem PL.tups (h : PL nk bh D H v k) (t : Tups H H') : PL nk bh D H' v k := by
  obtain ⟨b, vn, vb, vk, e, h1, h2, h3, h4⟩ := h
  exact ⟨b, vn, vb, vk, e, t _ _ h1, h2.tups t, h3.tups t, h4.tups t⟩
structure PLW (nk : Nat → List Key) (bh : Nat → Option Nat) (D : Nat → PyData) (ms : List Nat) (t : Nat) : Prop where
  few : ms.length ≤ 2000
  up : ms.Pairwise fun a b => ltD (D a) (D b) = true
  inj : ∀ i ∈ ms, ∀ j ∈ ms, nk i = nk j → i = j
  wf : Rga.WF (ms.reverse.map fun k => (k, bh k))
  keys : KeysAre (ms.map D) t
def kids (bh : Nat → Option Nat) (ms : List Nat) (k : Option Nat) : List Nat := ms.filter fun m => decide (bh m = k)
theorem kids_snoc (bh : Nat → Option Nat) (ms : List Nat) (m : Nat) (k : Option Nat) : kids bh (ms ++ [m]) k = if bh m = k then kids bh ms k ++ [m] else kids bh ms k := by
  unfold kids
  rw [List.filter_append]
  by_cases e : bh m = k
  · rw [if_pos e, List.filter_cons_of_pos (by simpa using e)]; rfl
  · rw [if_neg e, List.filter_cons_of_neg (by simpa using e), List.filter_nil, List.append_nil]
theorem kids_rk (bh : Nat → Option Nat) (ms : List Nat) (k : Option Nat) : Rga.rk (ms.reverse.map fun m => (m, bh m)) k = (kids bh ms k).reverse := by
  unfold Rga.rk kids
  rw [List.filter_map, List.map_map, ← List.filter_reverse]
  show List.map (fun x => x) _ = _
  rw [List.map_id']
  rfl
structure FD (nk : Nat → List Key) (bh : Nat → Option Nat) (all ms : List Nat) (H0 H : Hp) (dq : Addr) (kvs : List (KD × V × V)) : Prop where
  has : H dq = some (.dG kvs)
  new : H0 dq = none
  each : ∀ k : Option Nat, (∀ i, k = some i → i ∈ all) → (vG kvs (kd nk k) = none ∧ kids bh ms k = []) ∨ ∃ q vs, vG kvs (kd nk k) = some (.ref q) ∧ H q = some (.lst vs) ∧ AN (NM nk H) vs (kids bh ms k) ∧ H0 q = none
  inj : ∀ k k' q, vG kvs k = some (.ref q) → vG kvs k' = some (.ref q) → k = k'
  live : ∀ k q, vG kvs k = some (.ref q) → ∃ xs, H q = some (.lst xs)
theorem FD.same {all ms : List Nat} {dq : Addr} {kvs : List (KD × V × V)} (h : FD nk bh all ms H0 H dq kvs) (s : Same H H') : FD nk bh all ms H0 H' dq kvs where
  has := s _ _ h.has
  new := h.new
  each := fun k hk => by
    rcases h.each k hk with z | ⟨q, vs, h1, h2, h3, h4⟩
    · exact .inl z
    · exact .inr ⟨q, vs, h1, s _ _ h2, h3.imp fun v i g => g.tups s.tups, h4⟩
  inj := h.inj
  live := fun k q e => let ⟨xs, z⟩ := h.live k q e; ⟨xs, s _ _ z⟩
theorem kd_inj {all : List Nat} (hi : ∀ i ∈ all, ∀ j ∈ all, nk i = nk j → i = j) {k k' : Option Nat} (h1 : ∀ i, k = some i → i ∈ all) (h2 : ∀ i, k' = some i → i ∈ all) (e : kd nk k = kd nk k') : k = k' := by
  cases k with
  | none => cases k' with
    | none => rfl
    | some j => cases e
  | some i => cases k' with
    | none => cases e
    | some j => rw [hi i (h1 i rfl) j (h2 j rfl) (KD.tup.inj e)]
theorem FD.old {all ms : List Nat} {dq q : Addr} {kvs : List (KD × V × V)} {m : Nat} {vn : V} {vs : List V} (h : FD nk bh all ms H0 H dq kvs) (hi : ∀ i ∈ all, ∀ j ∈ all, nk i = nk j → i = j) (hm : ∀ i, bh m = some i → i ∈ all)
    (e : vG kvs (kd nk (bh m)) = some (.ref q)) (eq : H q = some (.lst vs)) (hv : NM nk H vn m) : FD nk bh all (ms ++ [m]) H0 (upd H q (.lst (vs ++ [vn]))) dq kvs where
  has := by rw [upd_ne (fun z => by rw [← z, h.has] at eq; cases eq)]; exact h.has
  new := h.new
  inj := h.inj
  live := fun k q' e' => by
    by_cases z : q' = q
    · subst z; exact ⟨_, upd_same⟩
    · obtain ⟨xs, y⟩ := h.live k q' e'
      exact ⟨xs, by rw [upd_ne z]; exact y⟩
  each := fun k hk => by
    have tw : Tups H (upd H q (.lst (vs ++ [vn]))) := Tups.wl eq
    rw [kids_snoc]
    by_cases ek : bh m = k
    · subst ek
      rw [if_pos rfl]
      rcases h.each _ hk with ⟨z, _⟩ | ⟨q', vs', h1, h2, h3, h4⟩
      · rw [z] at e; cases e
      · rw [e] at h1
        cases h1
        rw [eq] at h2
        cases h2
        exact .inr ⟨q, _, e, upd_same, (h3.snoc hv).imp fun v i g => g.tups tw, h4⟩
    · rw [if_neg ek]
      rcases h.each k hk with z | ⟨q', vs', h1, h2, h3, h4⟩
      · exact .inl z
      · refine .inr ⟨q', vs', h1, ?_, h3.imp fun v i g => g.tups tw, h4⟩
        have nq : q' ≠ q := fun z => ek (kd_inj hi hm hk (h.inj _ _ q e (by rw [← z]; exact h1)))
        rw [upd_ne nq]
        exact h2
theorem FD.first {all ms : List Nat} {dq q : Addr} {kvs : List (KD × V × V)} {m : Nat} {vn vk : V} (h : FD nk bh all ms H0 H dq kvs) (hi : ∀ i ∈ all, ∀ j ∈ all, nk i = nk j → i = j) (hm : ∀ i, bh m = some i → i ∈ all)
    (e : vG kvs (kd nk (bh m)) = none) (hq0 : H0 q = none) (eq : H q = some (.lst [])) (hqn : ∀ k, vG kvs k ≠ some (.ref q)) (hv : NM nk H vn m) : FD nk bh all (ms ++ [m]) H0 (upd (upd H dq (.dG (pG kvs (kd nk (bh m)) vk (.ref q)))) q (.lst [vn])) dq (pG kvs (kd nk (bh m)) vk (.ref q)) where
  has := by rw [upd_ne (fun z => by rw [← z, h.has] at eq; cases eq), upd_same]
  new := h.new
  inj := fun k k' q' h1 h2 => by
    rw [vG_put] at h1 h2
    by_cases e1 : k = kd nk (bh m)
    · by_cases e2 : k' = kd nk (bh m)
      · rw [e1, e2]
      · rw [if_pos e1] at h1
        rw [if_neg e2] at h2
        cases h1
        exact absurd h2 (hqn k')
    · rw [if_neg e1] at h1
      by_cases e2 : k' = kd nk (bh m)
      · rw [if_pos e2] at h2
        cases h2
        exact absurd h1 (hqn k)
      · rw [if_neg e2] at h2
        exact h.inj _ _ _ h1 h2
  live := fun k q' e' => by
    by_cases z : q' = q
    · subst z; exact ⟨_, upd_same⟩
    · rw [vG_put] at e'
      by_cases ek : k = kd nk (bh m)
      · rw [if_pos ek] at e'
        cases e'
        exact absurd rfl z
      · rw [if_neg ek] at e'
        obtain ⟨xs, y⟩ := h.live k q' e'
        have n2 : q' ≠ dq := fun z => by rw [z, h.has] at y; cases y
        exact ⟨xs, by rw [upd_ne z, upd_ne n2]; exact y⟩
  each := fun k hk => by
    have nq : q ≠ dq := fun z => by rw [z, h.has] at eq; cases eq
    have t1 : Tups H (upd H dq (.dG (pG kvs (kd nk (bh m)) vk (.ref q)))) := Tups.wd h.has
    have eq1 : (upd H dq (.dG (pG kvs (kd nk (bh m)) vk (.ref q)))) q = some (.lst []) := by rw [upd_ne nq]; exact eq
    have tw := t1.trans (Tups.wl (o' := .lst [vn]) eq1)
    rw [kids_snoc, vG_put]
    by_cases ek : bh m = k
    · subst ek
      rw [if_pos rfl, if_pos rfl]
      rcases h.each _ hk with ⟨_, z⟩ | ⟨q', vs', h1, _⟩
      · rw [z]
        exact .inr ⟨q, [vn], rfl, upd_same, .one (hv.tups tw), hq0⟩
      · rw [e] at h1; cases h1
    · rw [if_neg ek, if_neg (fun z => ek (kd_inj hi hm hk z.symm))]
      rcases h.each k hk with z | ⟨q', vs', h1, h2, h3, h4⟩
      · exact .inl z
      · refine .inr ⟨q', vs', h1, ?_, h3.imp fun v i g => g.tups tw, h4⟩
        have n1 : q' ≠ q := fun z => hqn _ (z ▸ h1)
        have n2 : q' ≠ dq := fun z => by rw [z, h.has] at h2; cases h2
        rw [upd_ne n1, upd_ne n2]
        exact h2
theorem FD.get {all ms : List Nat} {dq z : Addr} {kvs : List (KD × V × V)} (h : FD nk bh all ms H0 H dq kvs) (ez : H z = some (.lst [])) (k : Option Nat) (hk : ∀ i, k = some i → i ∈ all) : ∃ a vs, (vG kvs (kd nk k)).getD (.ref z) = .ref a ∧ H a = some (.lst vs) ∧ AN (NM nk H) vs (kids bh ms k) := by
  rcases h.each k hk with ⟨h1, h2⟩ | ⟨q, vs, h1, h2, h3, _⟩
  · exact ⟨z, [], by rw [h1]; rfl, ez, by rw [h2]; exact .nil⟩
  · exact ⟨q, vs, by rw [h1]; rfl, h2, h3⟩
end
end L2
namespace Rga
theorem dfs_len {f : Option Nat → List Nat} : ∀ {st out : List Nat}, Dfs f st out → st.length ≤ out.length
  | _, _, .nil => Nat.le_refl _
  | _, _, .cons (x := x) d => by
    have := dfs_len d
    rw [List.length_append] at this
    rw [List.length_cons, List.length_cons]
    omega
def qsOf (bh : Nat → Option Nat) (ms : List Nat) : List Pl := ms.reverse.map fun k => (k, bh k)
theorem nms_qs (bh : Nat → Option Nat) (ms : List Nat) : nms (qsOf bh ms) = ms.reverse := by
  unfold nms qsOf
  rw [List.map_map]
  show List.map (fun x => x) _ = _
  rw [List.map_id']
theorem row_mem {bh : Nat → Option Nat} {ms : List Nat} (w : WF (qsOf bh ms)) {x : Nat} (h : x ∈ rowR (qsOf bh ms)) : x ∈ ms := by
  have := (row_perm w).mem_iff.mp h
  rw [nms_qs] at this
  exact List.mem_reverse.mp this
theorem row_len {bh : Nat → Option Nat} {ms : List Nat} (w : WF (qsOf bh ms)) : (rowR (qsOf bh ms)).length = ms.length := by
  rw [(row_perm w).length_eq, nms_qs, List.length_reverse]
end Rga
set_option maxHeartbeats 4000000
namespace L2
open PySem PySem.Spec PySem.W PyProof.Rows
def del (H : Hp) (p : Addr) : Hp := fun b => if b = p then none else H b
theorem del_at {H : Hp} {p : Addr} : del H p p = none := if_pos rfl
theorem del_ne {H : Hp} {p b : Addr} (h : b ≠ p) : del H p b = H b := if_neg h
theorem del_free {H : Hp} {p b : Addr} (h : H b = none) : del H p b = none := by
  by_cases e : b = p
  · subst e; exact del_at
  · rw [del_ne e]; exact h
theorem del_same {H : Hp} {p : Addr} : Same (del H p) H := fun b u q => by
  by_cases e : b = p
  · subst e; rw [del_at] at q; cases q
  · rw [del_ne e] at q; exact q
theorem Same.cut {H0 H : Hp} {p : Addr} (s : Same H0 H) (h : H0 p = none) : Same H0 (del H p) := fun b u q => by
  rw [del_ne (ne_of_none q h)]
  exact s b u q
theorem Tups.cut {H H' : Hp} {p : Addr} {xs : List V} (e : H p = some (.lst xs)) (s : Same (del H p) H') : Tups H H' := fun b ys q => s _ _ (by rw [del_ne (tup_ne q e fun zs z => by cases z)]; exact q)
def IsT (z : Str) : Prop := ∀ c ∈ z.cps.toList, c ≤ 122
theorem isT_ok {z : Str} (h : IsT z) : PyData.strOk z = true := by
  unfold PyData.strOk
  rw [← Array.all_toList, List.all_eq_true]
  intro c hc
  have := h c hc
  exact decide_eq_true (by omega)
theorem isT_app {x y : Str} (hx : IsT x) (hy : IsT y) : IsT (x ++ y) := fun c hc => by
  have e : (x ++ y).cps.toList = x.cps.toList ++ y.cps.toList := by
    show (x.cps ++ y.cps).toList = _
    simp
  rw [e] at hc
  rcases List.mem_append.mp hc with q | q
  · exact hx c q
  · exact hy c q
theorem isT_sjoin {sep : Str} (hs : IsT sep) : ∀ {ys : List Str}, (∀ y ∈ ys, IsT y) → IsT (Str.join sep ys)
  | [], _ => fun _ z => nomatch z
  | [x], h => h x (by simp)
  | x :: y :: r, h => by
    show IsT (x ++ sep ++ Str.join sep (y :: r))
    exact isT_app (isT_app (h x (by simp)) hs) (isT_sjoin hs fun z hz => h z (List.mem_cons_of_mem _ hz))
theorem isT_join {sep : Str} (hs : IsT sep) {ys : List Str} (h : ∀ y ∈ ys, IsT y) : IsT (Txt.join sep ys) := by
  show IsT (Builtin.Str.glued sep ys)
  rw [StrLaws.glued_eq_join]
  exact isT_sjoin hs h
theorem atI_mem {α : Type} {xs : List α} {i : Int} {v : α} (h : atI xs i = some v) : v ∈ xs := by
  unfold atI at h
  cases e : ixN xs.length i with
  | none => rw [e] at h; cases h
  | some j => rw [e] at h; exact List.mem_of_getElem? h
theorem isT_one {c : Nat} (h : c ≤ 122) : IsT ⟨#[c]⟩ := fun d hd => by
  have : d = c := by simpa using hd
  omega
end L2
set_option maxHeartbeats 4000000
namespace Rga
def insN (row : List Nat) (r a : Nat) : List Nat := row.take r ++ a :: row.drop r
theorem after_at {a b : Nat} : ∀ {row : List Nat} {i : Nat}, row.Nodup → row[i]? = some b → after b a row = insN row (i + 1) a
  | [], _, _, h => by cases h
  | x :: xs, 0, _, h => by
    cases h
    unfold after
    rw [if_pos rfl]
    rfl
  | x :: xs, i + 1, hn, h => by
    have h : xs[i]? = some b := by simpa using h
    have hx := List.nodup_cons.mp hn
    have nb : ¬ x = b := fun z => hx.1 (by rw [z]; exact List.mem_of_getElem? h)
    unfold after
    rw [if_neg nb, after_at hx.2 h]
    rfl
def bhAt (row : List Nat) : Nat → Option Nat
  | 0 => none
  | r + 1 => row[r]?
theorem ins_at {row : List Nat} (hn : row.Nodup) {r : Nat} (hr : r ≤ row.length) (a : Nat) : ins (a, bhAt row r) row = insN row r a := by
  cases r with
  | zero => rfl
  | succ r =>
    have h : row[r]? = some row[r] := List.getElem?_eq_getElem hr
    show (match row[r]? with | none => a :: row | some b => after b a row) = _
    rw [h]
    exact after_at hn h
theorem ins_perm (row : List Nat) (r a : Nat) : (insN row r a).Perm (a :: row) := by
  unfold insN
  refine List.perm_middle.trans ?_
  rw [List.take_append_drop]
theorem wf_range {bh : Nat → Option Nat} : ∀ {n : Nat}, (∀ i, i < n → ∀ b, bh i = some b → b < i) → WF (qsOf bh (List.range n))
  | 0, _ => trivial
  | n + 1, h => by
    have e : qsOf bh (List.range (n + 1)) = (n, bh n) :: qsOf bh (List.range n) := by
      unfold qsOf
      rw [List.range_succ, List.reverse_append]
      rfl
    rw [e]
    refine ⟨?_, fun b hb => ?_, wf_range fun i hi => h i (by omega)⟩
    · rw [nms_qs, List.mem_reverse, List.mem_range]
      exact Nat.lt_irrefl n
    · rw [nms_qs, List.mem_reverse, List.mem_range]
      exact h n (by omega) b hb
theorem row_next (bh : Nat → Option Nat) (n : Nat) : rowR (qsOf bh (List.range (n + 1))) = ins (n, bh n) (rowR (qsOf bh (List.range n))) := by
  have e : qsOf bh (List.range (n + 1)) = (n, bh n) :: qsOf bh (List.range n) := by
    unfold qsOf
    rw [List.range_succ, List.reverse_append]
    rfl
  rw [e]
  rfl
theorem qs_congr {bh bh' : Nat → Option Nat} {n : Nat} (h : ∀ i, i < n → bh i = bh' i) : qsOf bh (List.range n) = qsOf bh' (List.range n) := by
  unfold qsOf
  refine List.map_congr_left fun i hi => ?_
  rw [h i (List.mem_range.mp (List.mem_reverse.mp hi))]
end Rga
namespace L2
open PySem PySem.Spec PySem.W PyProof.Rows Rga
section
variable {P : V → Nat → Prop} {vs : List V} {js : List Nat}
theorem AN.take (h : AN P vs js) (r : Nat) : AN P (vs.take r) (js.take r) := by
  refine ⟨by rw [List.length_take, List.length_take, h.1], fun m v i e1 e2 => ?_⟩
  rw [List.getElem?_take] at e1 e2
  by_cases hm : m < r
  · rw [if_pos hm] at e1 e2; exact h.2 m v i e1 e2
  · rw [if_neg hm] at e1; cases e1
theorem AN.drop (h : AN P vs js) (r : Nat) : AN P (vs.drop r) (js.drop r) := by
  refine ⟨by rw [List.length_drop, List.length_drop, h.1], fun m v i e1 e2 => ?_⟩
  rw [List.getElem?_drop] at e1 e2
  exact h.2 _ v i e1 e2
theorem AN.ins (h : AN P vs js) (r : Nat) {v : V} {i : Nat} (hv : P v i) : AN P (insV vs r v) (insN js r i) := (h.take r).app ((AN.one hv).app (h.drop r))
end
theorem PL.congr {nk nk' : Nat → List Key} {bh bh' : Nat → Option Nat} {D D' : Nat → PyData} {H : Hp} {v : V} {k : Nat} (h : PL nk bh D H v k) (e1 : nk k = nk' k) (e2 : bh k = bh' k) (e3 : kd nk (bh k) = kd nk' (bh k)) (e4 : D k = D' k) : PL nk' bh' D' H v k := by
  obtain ⟨b, vn, vb, vk, e, h1, h2, h3, h4⟩ := h
  exact ⟨b, vn, vb, vk, e, h1, by unfold NM; rw [← e1]; exact h2, by rw [← e2, ← e3]; exact h3, by rw [← e4]; exact h4⟩
theorem NM.congr {nk nk' : Nat → List Key} {H : Hp} {v : V} {k : Nat} (h : NM nk H v k) (e : nk k = nk' k) : NM nk' H v k := by
  unfold NM
  rw [← e]
  exact h
def numOf (p0 p1 i : Nat) : Nat := 1 + (p0 + (1 + p1) * (i + 2)) % 67
theorem no67 : ∀ a, a < 66 → ∀ d, d < 67 → 0 < d → (1 + a) * d % 67 ≠ 0 := by decide +kernel
theorem num_lt {p0 p1 i j : Nat} (h1 : p1 < 66) (hj : j < 62) (hij : i < j) : numOf p0 p1 i ≠ numOf p0 p1 j := fun e => by
  unfold numOf at e
  have h := no67 p1 h1 (j - i) (by omega) (by omega)
  have hm : (1 + p1) * (j + 2) = (1 + p1) * (i + 2) + (1 + p1) * (j - i) := by rw [← Nat.mul_add]; congr 1; omega
  rw [hm] at e
  generalize (1 + p1) * (i + 2) = x at e
  generalize (1 + p1) * (j - i) = y at e h
  omega
theorem num_inj {p0 p1 i j : Nat} (h1 : p1 < 66) (hi : i < 62) (hj : j < 62) (e : numOf p0 p1 i = numOf p0 p1 j) : i = j := by
  rcases Nat.lt_trichotomy i j with h | h | h
  · exact absurd e (num_lt h1 hj h)
  · exact h
  · exact absurd e.symm (num_lt h1 hi h)
def nkOf (p2 : Nat) (w : Str) (num e : Nat) : List Key := [.inr w, .inl (num : Int)] ++ (if p2 = 0 then [] else [.inl (e : Int)])
theorem nkOf_num {p2 : Nat} {w w' : Str} {n n' e e' : Nat} (h : nkOf p2 w n e = nkOf p2 w' n' e') : n = n' := by
  unfold nkOf at h
  injection h with _ h
  injection h with h _
  injection h with h
  omega
def Up3 (a b c a' b' c' : Nat) : Prop := a < a' ∨ (a = a' ∧ (b < b' ∨ (b = b' ∧ c < c')))
def rkD (p2 a b c : Nat) : PyData := if p2 = 0 then .tuple [.int (a : Int), .int ((b : Int) * 100000 + (c : Int))] else .tuple [.int (a : Int), .int (b : Int), .int (c : Int)]
theorem ltD_int2 {x y : Int} {r r' : List PyData} (h : x < y) : ltDs (.int x :: r) (.int y :: r') = true := by
  rw [ltDs, if_neg (fun z => by
    have := (sk_eq _ _ rfl).mp z
    injection this with this
    omega)]
  exact decide_eq_true h
theorem ltD_int3 {x : Int} {r r' : List PyData} (h : ltDs r r' = true) : ltDs (.int x :: r) (.int x :: r') = true := by
  rw [ltDs, if_pos ((sk_eq _ _ rfl).mpr rfl)]
  exact h
theorem rk_up {p2 a b c a' b' c' : Nat} (u : Up3 a b c a' b' c') (hc : c < 100000) (hc' : c' < 100000) : ltD (rkD p2 a b c) (rkD p2 a' b' c') = true := by
  unfold rkD
  by_cases hp : p2 = 0
  · rw [if_pos hp, if_pos hp, ltD]
    rcases u with h | ⟨rfl, h⟩
    · exact ltD_int2 (by omega)
    · exact ltD_int3 (ltD_int2 (by rcases h with h | ⟨rfl, h⟩ <;> omega))
  · rw [if_neg hp, if_neg hp, ltD]
    rcases u with h | ⟨rfl, h⟩
    · exact ltD_int2 (by omega)
    · rcases h with h | ⟨rfl, h⟩
      · exact ltD_int3 (ltD_int2 (by omega))
      · exact ltD_int3 (ltD_int3 (ltD_int2 (by omega)))
theorem up3_trans {a b c a' b' c' x y z : Nat} (h : Up3 a b c a' b' c') (g : Up3 a' b' c' x y z) : Up3 a b c x y z := by
  unfold Up3 at *
  omega
def RkD (d : PyData) : Prop := (∃ a b : Int, d = .tuple [.int a, .int b]) ∨ ∃ a b c : Int, d = .tuple [.int a, .int b, .int c]
theorem rkD_rk (p2 a b c : Nat) : RkD (rkD p2 a b c) := by
  unfold rkD
  by_cases hp : p2 = 0
  · rw [if_pos hp]; exact .inl ⟨_, _, rfl⟩
  · rw [if_neg hp]; exact .inr ⟨_, _, _, rfl⟩
theorem rk_keys {ds : List PyData} (h : ∀ d ∈ ds, RkD d) : KeysAre ds 2 := by
  refine ⟨lays_all fun d hd => ?_, fun d hd => ?_, fun x hx y hy => ?_, fun d hd => ?_⟩
  · rcases h d hd with ⟨_, _, rfl⟩ | ⟨_, _, _, rfl⟩ <;> rfl
  · rcases h d hd with ⟨_, _, rfl⟩ | ⟨_, _, _, rfl⟩ <;> trivial
  · rcases h x hx with ⟨_, _, rfl⟩ | ⟨_, _, _, rfl⟩ <;> rcases h y hy with ⟨_, _, rfl⟩ | ⟨_, _, _, rfl⟩ <;> rfl
  · rcases h d hd with ⟨_, _, rfl⟩ | ⟨_, _, _, rfl⟩ <;> exact (by decide : 1 ≤ 60)
abbrev Dr := List Key × Option Nat × Nat × Nat × Nat
def d0 : Dr := ([], none, 0, 0, 0)
def nkT (TS : List Dr) (i : Nat) : List Key := (TS.getD i d0).1
def bhT (TS : List Dr) (i : Nat) : Option Nat := (TS.getD i d0).2.1
def dT (p2 : Nat) (TS : List Dr) (i : Nat) : PyData := rkD p2 (TS.getD i d0).2.2.1 (TS.getD i d0).2.2.2.1 (TS.getD i d0).2.2.2.2
theorem ts_old {TS : List Dr} {t : Dr} {i : Nat} (h : i < TS.length) : (TS ++ [t]).getD i d0 = TS.getD i d0 := by
  rw [List.getD_eq_getElem?_getD, List.getD_eq_getElem?_getD, List.getElem?_append_left h]
theorem ts_new (TS : List Dr) (t : Dr) : (TS ++ [t]).getD TS.length d0 = t := by
  rw [List.getD_eq_getElem?_getD, List.getElem?_append_right (Nat.le_refl _), Nat.sub_self]
  rfl
structure TOk (p0 p1 p2 : Nat) (TS : List Dr) : Prop where
  name : ∀ i, i < TS.length → ∃ w, ∃ e : Nat, nkT TS i = nkOf p2 w (numOf p0 p1 i) e ∧ IsT w
  back : ∀ i, i < TS.length → ∀ b, bhT TS i = some b → b < i
  small : ∀ i, i < TS.length → (TS.getD i d0).2.2.2.2 < 100000
  hand : ∀ i, i < TS.length → (TS.getD i d0).2.2.2.1 ≤ 5
  up : ∀ i j, i < j → j < TS.length → Up3 (TS.getD i d0).2.2.1 (TS.getD i d0).2.2.2.1 (TS.getD i d0).2.2.2.2 (TS.getD j d0).2.2.1 (TS.getD j d0).2.2.2.1 (TS.getD j d0).2.2.2.2
theorem TOk.snoc {p0 p1 p2 : Nat} {TS : List Dr} {w : Str} {e a b c : Nat} {k : Option Nat} (h : TOk p0 p1 p2 TS) (hw : IsT w) (hk : ∀ b, k = some b → b < TS.length) (hc : c < 100000) (hb5 : b ≤ 5)
    (hu : ∀ i, i < TS.length → Up3 (TS.getD i d0).2.2.1 (TS.getD i d0).2.2.2.1 (TS.getD i d0).2.2.2.2 a b c) : TOk p0 p1 p2 (TS ++ [(nkOf p2 w (numOf p0 p1 TS.length) e, k, a, b, c)]) := by
  have hl : (TS ++ [(nkOf p2 w (numOf p0 p1 TS.length) e, k, a, b, c)]).length = TS.length + 1 := by rw [List.length_append]; rfl
  refine ⟨fun i hi => ?_, fun i hi b' hb => ?_, fun i hi => ?_, fun i hi => ?_, fun i j hij hj => ?_⟩
  · rw [hl] at hi
    by_cases z : i < TS.length
    · unfold nkT
      rw [ts_old z]
      exact h.name i z
    · obtain rfl : i = TS.length := by omega
      unfold nkT
      rw [ts_new]
      exact ⟨w, e, rfl, hw⟩
  · rw [hl] at hi
    unfold bhT at hb
    by_cases z : i < TS.length
    · rw [ts_old z] at hb
      exact h.back i z b' hb
    · obtain rfl : i = TS.length := by omega
      rw [ts_new] at hb
      exact hk b' hb
  · rw [hl] at hi
    by_cases z : i < TS.length
    · rw [ts_old z]; exact h.small i z
    · obtain rfl : i = TS.length := by omega
      rw [ts_new]; exact hc
  · rw [hl] at hi
    by_cases z : i < TS.length
    · rw [ts_old z]; exact h.hand i z
    · obtain rfl : i = TS.length := by omega
      rw [ts_new]; exact hb5
  · rw [hl] at hj
    by_cases z : j < TS.length
    · rw [ts_old z, ts_old (by omega)]; exact h.up i j hij z
    · obtain rfl : j = TS.length := by omega
      rw [ts_new, ts_old hij]; exact hu i hij
theorem TOk.plw {p0 p1 p2 : Nat} {TS : List Dr} (h : TOk p0 p1 p2 TS) (hl : TS.length ≤ 60) (hp : p1 < 66) : PLW (nkT TS) (bhT TS) (dT p2 TS) (List.range TS.length) 2 where
  few := by rw [List.length_range]; omega
  up := by
    rw [List.pairwise_iff_getElem]
    intro i j hi hj hij
    rw [List.length_range] at hi hj
    rw [List.getElem_range, List.getElem_range]
    exact rk_up (h.up i j hij hj) (h.small i hi) (h.small j hj)
  inj := fun i hi j hj e => by
    have hi := List.mem_range.mp hi
    have hj := List.mem_range.mp hj
    obtain ⟨w, x, e1, _⟩ := h.name i hi
    obtain ⟨w', x', e2, _⟩ := h.name j hj
    rw [e1, e2] at e
    exact num_inj hp (by omega) (by omega) (nkOf_num e)
  wf := wf_range h.back
  keys := rk_keys fun d hd => by
    obtain ⟨i, _, rfl⟩ := List.mem_map.mp hd
    exact rkD_rk _ _ _ _
end L2
set_option maxHeartbeats 4000000
namespace L2
open PySem PySem.Spec PySem.W PyProof.Rows
def GtAt (A : Around) (s : Shared) (x y : Value) (b : Bool) : Prop := ∀ (prog : Program) (w : World) (E : Value → Shared → Prop) (Q : Value → Shared → Prop), Q (.bool b) s → wpAny (model prog w) A (richCompare .Gt x y) Q E s
open SeqAt in
theorem tuple_gtAt (l b : Addr) (us vs : Array Value) (n n2 : Nat) (dd dd2 : Option Addr) (sl sl2 : Array (Option Value)) (e : Nat → Bool) (c : Bool) :
    Meets (Builtin.«tuple.__gt__» ⟨[.ref l, .ref b], []⟩)
      (fun A R s => s.heap.get? l = some { cls := .type "tuple", dict := dd, data := .seq us n, slots := sl } ∧ s.heap.get? b = some { cls := .type "tuple", dict := dd2, data := .seq vs n2, slots := sl2 } ∧
        (∀ j (h1 : j < us.size) (h2 : j < vs.size), EqAt A.in1 s us[j] vs[j] (e j)) ∧
        (∀ i (h1 : i < us.size) (h2 : i < vs.size), (∀ j, j < i → e j = true) → e i = false → GtAt A.in1 s us[i] vs[i] c) ∧
        ((∀ j, j < min us.size vs.size → e j = true) → c = decide (vs.size < us.size)) ∧ R (.ok (.ret (.bool c))) s) :=
  .of_wp fun prog w A R s h => by
    obtain ⟨hp, g, d, tk, os⟩ := s
    obtain ⟨hl, hb, he, hlt, hall, h⟩ := h
    have f2 := AutoSeq1.sub_tuple_tuple
    have hZ : (us.toList.zip vs.toList).length = min us.size vs.size := by simp
    wp_walk using wpAny_loadPart' hl, wpAny_loadPart' hb, wpAny_forIn_list _ (fun rest b s' => b.1 = none ∧ s' = ⟨hp, g, d, tk, os⟩ ∧ ∃ i, rest = (us.toList.zip vs.toList).drop i ∧ ∀ j, j < i → e j = true) _
    case turn =>
      rintro ⟨y, x⟩ rest b s' ⟨hb', rfl, i, hz, hi⟩
      have hlt' : i < (us.toList.zip vs.toList).length := by
        rcases Nat.lt_or_ge i (us.toList.zip vs.toList).length with h' | h'
        · exact h'
        · rw [List.drop_of_length_le h'] at hz; cases hz
      have h1 : i < us.size := by omega
      have h2 : i < vs.size := by omega
      rw [List.drop_eq_getElem_cons hlt'] at hz
      injection hz with hyx hrest
      have hy : y = us[i] := by have := congrArg Prod.fst hyx; simpa using this
      have hx : x = vs[i] := by have := congrArg Prod.snd hyx; simpa using this
      subst hy hx
      refine wpAny_bind (he i h1 h2 prog w _ _ ?_)
      cases hy : e i with
      | true =>
        wp_walk
        exact ⟨rfl, rfl, i + 1, hrest, fun j hj => by
          by_cases z : j = i
          · rw [z]; exact hy
          · exact hi j (by omega)⟩
      | false =>
        have q := hlt i h1 h2 hi hy
        dsimp only
        rw [if_pos (by rfl)]
        refine wpAny_bind (wpAny_rule (wpAny_bind (q prog w _ _ ?_)))
        exact wpAny_bind (wpAny_pure (wpAny_pure (wpAny_pure ⟨_, rfl, h⟩)))
    case fin =>
      rintro ⟨b1, b2⟩ s' ⟨hb', rfl, i, hz, hi⟩
      simp only at hb'
      subst hb'
      have hge : min us.size vs.size ≤ i := by
        rcases Nat.lt_or_ge i (us.toList.zip vs.toList).length with h' | h'
        · rw [List.drop_eq_getElem_cons h'] at hz; cases hz
        · omega
      have := hall fun j hj => hi j (by omega)
      wp_walk
      exact ⟨_, rfl, by rw [this] at h; simpa [Builtin.Tuple.tupleCompareSizes] using h⟩
    case h =>
      exact ⟨rfl, rfl, 0, rfl, fun j hj => absurd hj (Nat.not_lt_zero _)⟩
theorem GtAt.tuples {A : Around} {s : Shared} {l b : Addr} {us vs : Array Value} {e : Nat → Bool} {c : Bool} (hl : s.heap.IsTuple l us) (hb : s.heap.IsTuple b vs) (hu : A.units < cLine)
    (he : ∀ j (h1 : j < us.size) (h2 : j < vs.size), SeqAt.EqAt A.in1 s us[j] vs[j] (e j)) (hlt : ∀ i (h1 : i < us.size) (h2 : i < vs.size), (∀ j, j < i → e j = true) → e i = false → GtAt A.in1 s us[i] vs[i] c)
    (hall : (∀ j, j < min us.size vs.size → e j = true) → c = decide (vs.size < us.size)) : GtAt A s (.ref l) (.ref b) c := fun prog w E Q h => by
  obtain ⟨⟨cls, dd, data, sl⟩, ho, hc, n, hd⟩ := id hl
  obtain ⟨⟨cls2, dd2, data2, sl2⟩, ho2, hc2, n2, hd2⟩ := id hb
  simp only at hc hd hc2 hd2
  subst hc hd hc2 hd2
  exact richCompare_meets_room (op := .Gt) ⟨_, ho, rfl⟩ ⟨_, ho2, rfl⟩ F.slot_tuple_gt F.entry_tuple_gt (F.args_tuple_gt_2 _ _) (tuple_gtAt l b us vs n n2 dd dd2 sl sl2 e c)
    ⟨ho, ho2, he, hlt, hall, show Value.bool c ≠ Value.notImplemented ∧ Q (.bool c) s from ⟨(fun x => nomatch x), h⟩⟩ hu
theorem GtAt.ints {A : Around} {s : Shared} (i j : Int) (t u : Tok) : GtAt A s (.int i t) (.int j u) (decide (j < i)) := fun prog w E Q h =>
  richCompare_gives (op := .Gt) (typeIs_int s _ t) (typeIs_int s _ u) F.slot_int_gt F.entry_int_gt (F.args_int_gt_2 _ _) (gives_int_gt _ _ t u) (fun x => nomatch x) h
def IntT (d : PyData) : Prop := ∃ ns : List Int, d = .tuple (ns.map PyData.int)
theorem intT_at {ns : List Int} {i : Nat} (h : i < (ns.map PyData.int).length) : ∃ k, (ns.map PyData.int).getD i .none = .int k := by
  rw [List.length_map] at h
  exact ⟨ns[i], by rw [List.getD_eq_getElem?_getD, List.getElem?_map, List.getElem?_eq_getElem h]; rfl⟩
theorem ints_lay : ∀ ns : List Int, PyData.canLayAll0 (ns.map PyData.int) = true
  | [] => rfl
  | n :: ns => by
    show (true && PyData.canLayAll0 (ns.map PyData.int)) = true
    rw [ints_lay ns]; rfl
theorem ints_deep : ∀ ns : List Int, PyData.depthAll (ns.map PyData.int) = 0
  | [] => rfl
  | n :: ns => by
    show max 0 (PyData.depthAll (ns.map PyData.int)) = 0
    rw [ints_deep ns]; rfl
theorem ints_sk : ∀ ns ms : List Int, sks (ns.map PyData.int) (ms.map PyData.int) = true
  | [], _ => rfl
  | _ :: _, [] => rfl
  | n :: ns, m :: ms => by
    show (true && sks (ns.map PyData.int) (ms.map PyData.int)) = true
    rw [ints_sk ns ms]; rfl
open SeqAt in
theorem pairEq_symm : ∀ (ns ms : List Int) (j : Nat), pairEq (ns.map PyData.int) (ms.map PyData.int) j = pairEq (ms.map PyData.int) (ns.map PyData.int) j := fun ns ms j => by
  unfold pairEq
  have sd : ∀ a b : PyData, (∃ x, a = .int x) ∨ a = .none → (∃ x, b = .int x) ∨ b = .none → PyData.eqv a b = PyData.eqv b a := fun a b ha hb => by
    rcases ha with ⟨x, rfl⟩ | rfl <;> rcases hb with ⟨y, rfl⟩ | rfl
    · by_cases e : x = y
      · rw [e]
      · have h1 : PyData.eqv (.int x) (.int y) = false := by
          cases q : PyData.eqv (.int x) (.int y) with
          | false => rfl
          | true => have := (sk_eq _ _ rfl).mp q; injection this with this; exact absurd this e
        have h2 : PyData.eqv (.int y) (.int x) = false := by
          cases q : PyData.eqv (.int y) (.int x) with
          | false => rfl
          | true => have := (sk_eq _ _ rfl).mp q; injection this with this; exact absurd this.symm e
        rw [h1, h2]
    · rfl
    · rfl
    · rfl
  have kind : ∀ l : List Int, (∃ x, (l.map PyData.int).getD j .none = .int x) ∨ (l.map PyData.int).getD j .none = .none := fun l => by
    by_cases h : j < (l.map PyData.int).length
    · exact .inl (intT_at h)
    · exact .inr (by rw [List.getD_eq_getElem?_getD, List.getElem?_eq_none (by omega)]; rfl)
  exact sd _ _ (kind ns) (kind ms)
open SeqAt in
theorem gt_reads {A : Around} {s : Shared} {a b : Value} {as bs : List Addr} {ns ms : List Int} (ra : Reads s.heap a (.tuple (ns.map PyData.int)) as) (rb : Reads s.heap b (.tuple (ms.map PyData.int)) bs) (hu : A.units + 2 < cLine) :
    GtAt A s a b (ltD (.tuple (ms.map PyData.int)) (.tuple (ns.map PyData.int))) := by
  cases ra with
  | tuple h1 h2 h3 h4 =>
    cases rb with
    | tuple k1 k2 k3 k4 =>
      rename_i l o us m b' o' vs m'
      have lx := ReadsAll.length _ _ _ h4
      have ly := ReadsAll.length _ _ _ k4
      rw [Array.length_toList] at lx ly
      rw [ltD]
      have eq' : ∀ j (g1 : j < us.size) (g2 : j < vs.size), EqAt A.in1 s us[j] vs[j] (pairEq (ms.map PyData.int) (ns.map PyData.int) j) := fun j g1 g2 => by
        obtain ⟨p1, r1⟩ := reads_at (i := j) (by rw [Array.length_toList]; exact g1) h4
        obtain ⟨p2, r2⟩ := reads_at (i := j) (by rw [Array.length_toList]; exact g2) k4
        have dj := depth_at (ns.map PyData.int) j (by omega)
        rw [ints_deep] at dj
        have := eqAt_reads ((ns.map PyData.int).getD j .none) ((ms.map PyData.int).getD j .none) A.in1 s _ _ _ _ r1 r2 (lays_at (ints_lay ns) (by omega)) (lays_at (ints_lay ms) (by omega)) (by show A.units + 1 + _ < cLine; omega)
        simp only [Array.getElem_toList] at this
        rw [← pairEq_symm]
        exact this
      refine GtAt.tuples ⟨_, h1, h2, _, h3⟩ ⟨_, k1, k2, _, k3⟩ (by omega) eq' (fun i g1 g2 hj hf => ?_) fun hj => ?_
      · obtain ⟨p1, r1⟩ := reads_at (i := i) (by rw [Array.length_toList]; exact g1) h4
        obtain ⟨p2, r2⟩ := reads_at (i := i) (by rw [Array.length_toList]; exact g2) k4
        rw [ltDs_at _ _ i (by omega) (by omega) hj hf]
        obtain ⟨x, ex⟩ := intT_at (ns := ns) (i := i) (by omega)
        obtain ⟨y, ey⟩ := intT_at (ns := ms) (i := i) (by omega)
        rw [ex] at r1 ⊢
        rw [ey] at r2 ⊢
        simp only [Array.getElem_toList] at r1 r2
        generalize us[i] = u0 at r1 ⊢
        generalize vs[i] = v0 at r2 ⊢
        cases r1
        cases r2
        exact GtAt.ints _ _ _ _
      · rw [ltDs_all _ _ fun j h => hj j (by omega), lx, ly]
section
variable {prog : Program} {w : World} {A : Around} {R : Result → Shared → Prop} {I : Addr} {fp wr : List Addr} {n : Nat} {P : Nat → Value → Prop} {St : Nat → Heap → Prop} {G : Heap → Prop}
theorem max_turns (W : Walks prog w A.in1 I fp wr n P St) (bt : Nat → Nat → Bool) (S : Addr) (hSf : S ∉ fp) (hG : ∀ h h', G h → (∀ b o, b ∉ wr → b ≠ S → h.get? b = some o → h'.get? b = some o) → G h') (hcmp : ∀ i j vi vj s, G s.heap → P i vi → P j vj → GtAt A.in1 s vi vj (bt i j)) :
    ∀ (k j : Nat) (s : Shared) (vb : Value) (c : Nat), n - (j + 1) = k → j + 1 ≤ n → St (j + 1) s.heap → G s.heap → P (argBest bt j) vb →
    s.heap.get? S = some { cls := .type "list", dict := none, data := .seq #[vb, vb] c, slots := #[] } →
    (∀ v h' tk, P (argBest bt (n - 1)) v → (∀ b o, b ∉ wr → b ≠ S → s.heap.get? b = some o → h'.get? b = some o) → R (.ok (.ret v)) { s with heap := h', toks := tk }) →
    codeAny (model prog w) A (.builtin "max.loop" ⟨[.ref I, .none, .ref S], []⟩) R s := by
  have hSw : S ∉ wr := fun h => hSf (W.sub _ h)
  have hname : (toString "max" ++ toString ".loop" : String) = "max.loop" := by decide
  intro k
  induction k with
  | zero =>
    intro j s vb c hk hj hst hg hPb hS hR
    have hin : j + 1 = n := by omega
    refine codeAny_builtin F.entry_max_loop ?_
    rw [Around.under_plainId F.plain_max_loop _]
    show wpAny _ A.in1 (seqItems? (.ref S) >>= _) _ _ s
    refine wpAny_bind (wpAny_seqItems hS rfl ?_)
    show wpAny _ A.in1 (tryCatch (pyNext (.ref I)) _ >>= _) _ _ s
    refine wpAny_bind (wpAny_tryCatch (W.done s _ _ (hin ▸ hst) fun h' tk hk' => ?_))
    have hS' := hk' S _ hSw hS
    show wpAny _ A.in1 (updateSeq S (fun _ => #[]) >>= _) _ _ _
    refine wpAny_bind ?_
    refine wpAny_updateSeq hS' rfl (wpAny_bind (wpAny_letGo (wpAny_pure ?_)))
    refine hR vb _ tk (by rw [← hin]; exact hPb) fun b o hbw hbS e => (Heap.get?_update_other _ _ (Ne.symm hbS)).trans (hk' b o hbw e)
  | succ k ih =>
    intro j s vb c hk hj hst hg hPb hS hR
    have hlt : j + 1 < n := by omega
    refine codeAny_builtin F.entry_max_loop ?_
    rw [Around.under_plainId F.plain_max_loop _]
    show wpAny _ A.in1 (seqItems? (.ref S) >>= _) _ _ s
    refine wpAny_bind (wpAny_seqItems hS rfl ?_)
    show wpAny _ A.in1 (tryCatch (pyNext (.ref I)) _ >>= _) _ _ s
    refine wpAny_bind (wpAny_tryCatch (W.item (j + 1) s _ _ hlt hst fun v h' tk hP hst' hk' => ?_))
    have hS' := hk' S _ hSw hS
    have hg' : G h' := hG _ _ hg fun b o hb _ e => hk' b o hb e
    show wpAny _ A.in1 (tryCatch (holding [v, v] (richCompare .Gt v vb >>= _)) _ >>= _) _ _ _
    refine wpAny_bind (wpAny_tryCatch (wpAny_holding (wpAny_bind (hcmp (j + 1) (argBest bt j) v vb { s with heap := h', toks := tk } hg' hP hPb prog w _ _ ?_))))
    refine wpAny_bind (wpAny_holding (wpAny_truthy_bool ?_))
    refine wpAny_bind (wpAny_letGo (wpAny_pure ?_))
    cases hb : bt (j + 1) (argBest bt j) with
    | true =>
      simp only [if_true]
      refine wpAny_bind ?_
      refine wpAny_updateSeq hS' rfl (wpAny_bind (wpAny_letGo ?_))
      rw [hname]
      refine wpAny_pure ⟨plainId_quiet F.plain_max_loop _, ih (j + 1) _ v _ (by omega) hlt (W.frame _ _ _ hst' fun b hbf o e => ?_) (hG _ _ hg' fun b o _ hbS e => (Heap.get?_update_other _ _ (Ne.symm hbS)).trans e) (by simp only [argBest, hb, if_true]; exact hP) (Heap.get?_update_self _ hS' rfl)
        fun v' h'' tk'' hP' hk'' => ?_⟩
      · exact (Heap.get?_update_other _ _ (fun h : S = b => hSf (by rw [h]; exact hbf))).trans e
      · exact hR v' h'' tk'' hP' fun b o hbw hbS e => hk'' b o hbw hbS ((Heap.get?_update_other _ _ (Ne.symm hbS)).trans (hk' b o hbw e))
    | false =>
      simp only [Bool.false_eq_true, if_false]
      refine wpAny_bind (wpAny_letGo ?_)
      rw [hname]
      refine wpAny_pure ⟨plainId_quiet F.plain_max_loop _, ih (j + 1) _ vb c (by omega) hlt hst' hg' (by simp only [argBest, hb, Bool.false_eq_true, if_false]; exact hPb) hS' fun v' h'' tk'' hP' hk'' => ?_⟩
      exact hR v' h'' tk'' hP' fun b o hbw hbS e => hk'' b o hbw hbS (hk' b o hbw e)
theorem max_first (W : Walks prog w A.in1 I fp wr n P St) (bt : Nat → Nat → Bool) (S : Addr) (hSf : S ∉ fp) (hG : ∀ h h', G h → (∀ b o, b ∉ wr → b ≠ S → h.get? b = some o → h'.get? b = some o) → G h') (hcmp : ∀ i j vi vj s, G s.heap → P i vi → P j vj → GtAt A.in1 s vi vj (bt i j)) (hn : 0 < n) {s : Shared} {c : Nat} (hst : St 0 s.heap) (hg : G s.heap)
    (hS : s.heap.get? S = some { cls := .type "list", dict := none, data := .seq #[] c, slots := #[] })
    (hR : ∀ v h' tk, P (argBest bt (n - 1)) v → (∀ b o, b ∉ wr → b ≠ S → s.heap.get? b = some o → h'.get? b = some o) → R (.ok (.ret v)) { s with heap := h', toks := tk }) :
    codeAny (model prog w) A (.builtin "max.loop" ⟨[.ref I, .none, .ref S], []⟩) R s := by
  have hSw : S ∉ wr := fun h => hSf (W.sub _ h)
  have hname : (toString "max" ++ toString ".loop" : String) = "max.loop" := by decide
  refine codeAny_builtin F.entry_max_loop ?_
  rw [Around.under_plainId F.plain_max_loop _]
  show wpAny _ A.in1 (seqItems? (.ref S) >>= _) _ _ s
  refine wpAny_bind (wpAny_seqItems hS rfl ?_)
  show wpAny _ A.in1 (tryCatch (pyNext (.ref I)) _ >>= _) _ _ s
  refine wpAny_bind (wpAny_tryCatch (W.item 0 s _ _ hn hst fun v h' tk hP hst' hk' => ?_))
  have hS' := hk' S _ hSw hS
  have hg' : G h' := hG _ _ hg fun b o hb _ e => hk' b o hb e
  show wpAny _ A.in1 (updateSeq S (fun _ => #[v, v]) >>= _) _ _ _
  refine wpAny_bind ?_
  refine wpAny_updateSeq hS' rfl ?_
  rw [hname]
  refine wpAny_pure ⟨plainId_quiet F.plain_max_loop _, max_turns W bt S hSf hG hcmp _ 0 _ v _ rfl hn (W.frame _ _ _ hst' fun b hbf o e => ?_) (hG _ _ hg' fun b o _ hbS e => (Heap.get?_update_other _ _ (Ne.symm hbS)).trans e) hP (Heap.get?_update_self _ hS' rfl) fun v' h'' tk'' hP' hk'' => ?_⟩
  · exact (Heap.get?_update_other _ _ (fun h : S = b => hSf (by rw [h]; exact hbf))).trans e
  · exact hR v' h'' tk'' hP' fun b o hbw hbS e => hk'' b o hbw hbS ((Heap.get?_update_other _ _ (Ne.symm hbS)).trans (hk' b o hbw e))
end
theorem best_all {bt : Nat → Nat → Bool} (irr : ∀ i, bt i i = false) (tr : ∀ i j k, bt i j = true → bt j k = true → bt i k = true) : ∀ k j, j ≤ k → bt j (argBest bt k) = false
  | 0, j, h => by
    obtain rfl : j = 0 := by omega
    exact irr 0
  | k + 1, j, h => by
    unfold argBest
    cases hb : bt (k + 1) (argBest bt k) with
    | true =>
      rw [if_pos rfl]
      by_cases z : j = k + 1
      · rw [z]; exact irr _
      · have := best_all irr tr k j (by omega)
        cases q : bt j (k + 1) with
        | false => rfl
        | true => rw [tr _ _ _ q hb] at this; cases this
    | false =>
      rw [if_neg (by decide)]
      by_cases z : j = k + 1
      · rw [z]; exact hb
      · exact best_all irr tr k j (by omega)
theorem best_le (bt : Nat → Nat → Bool) : ∀ k, argBest bt k ≤ k
  | 0 => Nat.le_refl _
  | k + 1 => by
    unfold argBest
    have := best_le bt k
    split <;> omega
def rMaxT (K : PySem.W.Frag) : List V → Hp → VK → Prop := fun xs H Q => ∃ p ys, ∃ nss : List (List Int), xs = [.ref p] ∧ SqL K H p ys ∧ DVs K H ys (nss.map fun ns => .tuple (ns.map PyData.int)) ∧ 0 < ys.length ∧
  ∀ (m : Nat) v ns, ys[m]? = some v → nss[m]? = some ns → (∀ ks ∈ nss, ltD (.tuple (ns.map PyData.int)) (.tuple (ks.map PyData.int)) = false) → Q v H
section
variable {X : Cx}
theorem call_maxT (hc : X.calm = true) (hu : X.A.units + 3 + 61 < cLine) : CallR X (.builtin "max") (rMaxT X.K) := by
  intro pins s σ H xs us Q I r h
  obtain ⟨p, ys, nss, rfl, hq, hd, hn, q⟩ := h
  obtain ⟨u, rfl, ru⟩ := vals1 r
  cases ru
  obtain ⟨its, rv, pl, hz⟩ := I.list hq
  have hl := rv.length
  have hdl := dvs_length hd
  rw [List.length_map] at hdl
  obtain ⟨as, ra⟩ := hd.reads I rv
  have hh := I.ok.hd hc
  have hil := pl.isList
  have hlt : p < s.heap.objs.size := by obtain ⟨_, e, _⟩ := hil; exact Heap.lt_size e
  have hname : (toString "max" ++ toString ".loop" : String) = "max.loop" := by decide
  let D : Nat → PyData := fun i => .tuple ((nss.getD i []).map PyData.int)
  have look : ∀ (h' : Heap), Ext s.heap h' → ∀ i v, its.toArray[i]? = some v → ∃ bs, Reads h' v (D i) bs := fun h' x i v e => by
    rw [List.getElem?_toArray] at e
    obtain ⟨hi, e⟩ := List.getElem?_eq_some_iff.mp e
    obtain ⟨bs, z⟩ := reads_at hi (readsA_ext x ra)
    have ed : (nss.map fun ns => PyData.tuple (ns.map PyData.int)).getD i .none = D i := by
      rw [List.getD_eq_getElem?_getD, List.getElem?_map, List.getElem?_eq_getElem (by omega : i < nss.length)]
      show _ = PyData.tuple ((nss.getD i []).map PyData.int)
      rw [List.getD_eq_getElem?_getD, List.getElem?_eq_getElem (by omega : i < nss.length)]
      rfl
    rw [e, ed] at z
    exact ⟨bs, z⟩
  refine call_function_tree F.kind_max F.plain_max F.entry_max (F.args_max1 _) ?_
  show wpAny _ X.A.in1 (Builtin.Builtins.bindParams "max" ["key", "default"] 0 ⟨[], []⟩ >>= _) _ _ s
  refine wpAny_bind (wpAny_of_eq (show Builtin.Builtins.bindParams "max" ["key", "default"] 0 ⟨[], []⟩ = pure [none, none] from rfl) ?_)
  refine wpAny_bind (wpAny_pure ?_)
  refine wpAny_bind (wpAny_pyIter_list hil (wpAny_bind (wpAny_newObj_type ?_)))
  rw [hname]
  have e0 : ∀ b o, s.heap.get? b = some o → b ≠ s.heap.objs.size ∧ b ≠ (s.heap.push { cls := .type "list_iterator", data := .fields #[.ref p, .int 0 0] }).objs.size := fun b o e => by
    have := Heap.lt_size e
    have hz' : (s.heap.push { cls := .type "list_iterator", data := .fields #[.ref p, .int 0 0] }).objs.size = s.heap.objs.size + 1 := Heap.size_push ..
    rw [hz']
    exact ⟨Nat.ne_of_lt this, Nat.ne_of_lt (Nat.lt_succ_of_lt this)⟩
  have hSf : (s.heap.push { cls := .type "list_iterator", data := .fields #[.ref p, .int 0 0] }).objs.size ∉ [s.heap.objs.size, p] := fun hm => by
    have hz' : (s.heap.push { cls := .type "list_iterator", data := .fields #[.ref p, .int 0 0] }).objs.size = s.heap.objs.size + 1 := Heap.size_push ..
    rw [hz'] at hm
    rcases List.mem_cons.mp hm with z | z
    · exact absurd z (Nat.succ_ne_self _)
    · rw [← List.mem_singleton.mp z] at hlt
      exact absurd hlt (Nat.not_lt.mpr (Nat.le_succ _))
  have x2 : Ext s.heap ((s.heap.push { cls := .type "list_iterator", data := .fields #[.ref p, .int 0 0] }).push { cls := .type "list", data := .seq #[] }) := (Ext.push _ _).trans (.push _ _)
  have W := Walks.list (prog := X.prog) (w := X.w) (A := X.A.in1) hh s.heap.objs.size p (Nat.ne_of_lt hlt) its.toArray
  have hsz : its.toArray.size = its.length := List.size_toArray ..
  have irr : ∀ i, ltD (D i) (D i) = false := fun i => ltD_irr _
  refine wpAny_pure ⟨plainId_quiet F.plain_max_loop _, max_first (G := fun h' => Ext s.heap h') W (fun i j => ltD (D j) (D i)) _ hSf (fun h h' g k b o e => k b o (by simpa using (e0 b o e).1) (e0 b o e).2 (g b o e)) (fun i j vi vj s' g hi hj => ?_) (by omega)
    ⟨⟨_, Heap.get?_push_of_some _ (Heap.get?_push_size _ rfl), rfl, rfl⟩, (hil.push _).push _⟩ x2 (Heap.get?_push_size _ rfl) fun v h' tk hP hk => ?_⟩
  · obtain ⟨b1, r1⟩ := look _ g i vi hi
    obtain ⟨b2, r2⟩ := look _ g j vj hj
    exact gt_reads r1 r2 (by show X.A.units + 1 + 2 < cLine; omega)
  · have x3 : Ext s.heap h' := fun b o e => hk b o (by simpa using (e0 b o e).1) (e0 b o e).2 (x2 b o e)
    have ba := best_all irr (fun i j k h1 h2 => ltD_tr _ _ _ (by rw [sk]; exact ints_sk _ _) (by rw [sk]; exact ints_sk _ _) (by rw [sk]; exact ints_sk _ _) h2 h1) (its.toArray.size - 1) (bt := fun i j => ltD (D j) (D i))
    have bl := best_le (fun i j => ltD (D j) (D i)) (its.toArray.size - 1)
    have hP : its.toArray[argBest (fun i j => ltD (D j) (D i)) (its.toArray.size - 1)]? = some v := hP
    generalize argBest (fun i j => ltD (D j) (D i)) (its.toArray.size - 1) = m at ba bl hP
    rw [List.getElem?_toArray] at hP
    have hm : m < ys.length := by omega
    obtain ⟨u', hu', ru'⟩ := rv.get (i := m) (x := ys[m]) (List.getElem?_eq_getElem hm)
    rw [hP] at hu'
    cases hu'
    refine ⟨ys[m], H, I.kept x3, ru', q m _ (nss.getD m []) (List.getElem?_eq_getElem hm) (by rw [List.getD_eq_getElem?_getD, List.getElem?_eq_getElem (by omega : m < nss.length)]; rfl) fun ks hks => ?_⟩
    obtain ⟨j, hj, ej⟩ := List.mem_iff_getElem.mp hks
    have := ba j (by omega)
    show ltD (D m) _ = false
    have ek : D j = .tuple (ks.map PyData.int) := by
      show PyData.tuple ((nss.getD j []).map PyData.int) = _
      rw [List.getD_eq_getElem?_getD, List.getElem?_eq_getElem hj, ej]
      rfl
    rw [← ek]
    exact this
end
end L2
set_option maxHeartbeats 4000000
namespace L2
open PySem PySem.Spec PySem.W PyProof.Rows
def codO (c : Addr) (q : Str) : HO := .ext fun h => h.CodeRec (.ref c) q
def Tb (ln cl : Nat) (q : Str) (P : Addr) (H : Hp) : Prop := H P = some (.tbl #[]) ∨ ∃ c, H P = some (.tbl #[rawInt ln, rawInt cl, .ref c]) ∧ H c = some (codO c q)
theorem Tb.same {ln cl : Nat} {q : Str} {P : Addr} {H H' : Hp} (t : Tb ln cl q P H) (s : Same H H') : Tb ln cl q P H' := by
  rcases t with t | ⟨c, t, u⟩
  · exact .inl (s _ _ t)
  · exact .inr ⟨c, s _ _ t, s _ _ u⟩
theorem Tb.tbl {ln cl : Nat} {q : Str} {P : Addr} {H : Hp} (t : Tb ln cl q P H) : ∃ ps, H P = some (.tbl ps) := by
  rcases t with t | ⟨c, t, u⟩
  · exact ⟨_, t⟩
  · exact ⟨_, t⟩
theorem Tb.keep {ln cl : Nat} {q : Str} {P : Addr} {H H' : Hp} (t : Tb ln cl q P H) (k : ∀ b u, H b = some u → ((∃ ps, u = .tbl ps) ∨ ∃ φ, u = .ext φ) → H' b = some u) : Tb ln cl q P H' := by
  rcases t with t | ⟨c, t, u⟩
  · exact .inl (k _ _ t (.inl ⟨_, rfl⟩))
  · exact .inr ⟨c, k _ _ t (.inl ⟨_, rfl⟩), k _ _ u (.inr ⟨_, rfl⟩)⟩
theorem Tb.cut {ln cl : Nat} {q : Str} {P a : Addr} {H H' : Hp} {o : HO} (t : Tb ln cl q P H) (e : H a = some o) (h1 : ∀ ps, o ≠ .tbl ps) (h2 : ∀ φ, o ≠ .ext φ) (s : Same (del H a) H') : Tb ln cl q P H' :=
  t.keep fun b u e' hu => s _ _ (by
    rw [del_ne (fun z => ?_)]
    · exact e'
    · subst z
      rw [e] at e'
      cases e'
      rcases hu with ⟨ps, z⟩ | ⟨φ, z⟩
      · exact h1 _ z
      · exact h2 _ z)
theorem codO_ok {P : Program} {w : World} {H : Hp} {h : Heap} {c : Addr} {q : Str} (r : h.CodeRec (.ref c) q) : ObjOk P w H h c (codO c q) := by
  have st : ∀ h1 h2 : Heap, h1.CodeRec (.ref c) q → (∀ o, h1.get? c = some o → h2.get? c = some o) → h2.CodeRec (.ref c) q := by
    rintro h1 h2 ⟨c', oc, vs, tq, e, ho, r⟩ k
    cases e
    exact ⟨_, _, _, _, rfl, k _ ho, r⟩
  obtain ⟨c', oc, vs, tq, e, ho, r'⟩ := id r
  cases e
  exact ⟨r, ⟨_, ho⟩, st⟩
def tabP (K : PySem.W.Frag) (x : Str) : Addr := match tabIn K x with
  | some (_, P) => P
  | none => 0
def tabC (K : PySem.W.Frag) (x : Str) : Addr := match tabIn K x with
  | some (c, _) => c
  | none => 0
section
variable {X : Cx} {pins : List (Addr × Obj)} {σ : St} {H : Hp} {s : Shared}
theorem Inv.nstk (I : Inv X pins σ H s) {b : Addr} (hb : s.heap.objs.size ≤ b) : b ∉ frs X.stack := fun hm => by
  rcases List.mem_cons.mp (I.stkSub b hm) with z | z
  · exact absurd (Nat.lt_of_lt_of_le I.lt hb) (by rw [z]; exact Nat.lt_irrefl _)
  · exact I.nofs hb z
theorem Inv.tabbed {P c' : Addr} {q : Str} {h' : Heap} {tk : Nat} {more : Array Value} (I : Inv X pins σ H s) (hP : H P = some (.tbl #[])) (hx : ∀ b o, b ≠ P → s.heap.get? b = some o → h'.get? b = some o) (hc : s.heap.objs.size ≤ c') (hr : h'.CodeRec (.ref c') q) (ht : h'.get? P = some (tabObj more)) :
    Inv X pins σ (upd (upd H P (.tbl more)) c' (codO c' q)) { s with heap := h', toks := tk } := by
  have fc : H c' = none := I.hok.fresh hc
  have lP : P < s.heap.objs.size := I.hok.lt hP
  have nPc : P ≠ c' := Nat.ne_of_lt (Nat.lt_of_lt_of_le lP hc)
  have oth : ∀ b, b ≠ P → b ≠ c' → (upd (upd H P (.tbl more)) c' (codO c' q)) b = H b := fun b h1 h2 => by rw [upd_ne h2, upd_ne h1]
  have nt : ∀ {b u}, H b = some u → (∀ ps, u ≠ .tbl ps) → b ≠ P ∧ b ≠ c' := fun {b u} e hu => ⟨fun z => by
    subst z
    rw [e] at hP
    exact hu _ (Option.some.inj hP), fun z => by
    subst z
    rw [e] at fc
    cases fc⟩
  refine I.un ⟨fun b o e n _ _ => hx b o (fun z => by subst z; rw [n] at hP; cases hP) e, fun b o e n _ _ => ⟨o.slots, hx b o (fun z => by subst z; rw [n] at hP; cases hP) e⟩, fun b o e n _ => ?_, fun b o e _ => ?_, fun b xs e => ?_, fun b o u e => ?_, fun b ps e => ?_⟩ fun b u e => ?_
  · rw [oth b (fun z => by subst z; rw [n] at hP; cases hP) (Nat.ne_of_lt (Nat.lt_of_lt_of_le (Heap.lt_size e) hc))]; exact n
  · by_cases z : b = P
    · subst z; exact ⟨_, ht⟩
    · exact ⟨o, hx b o z e⟩
  · obtain ⟨n1, n2⟩ := nt e fun ps z => by cases z
    rw [oth b n1 n2]; exact e
  · obtain ⟨n1, n2⟩ := nt e fun ps z => by cases z
    rw [oth b n1 n2]; exact e
  · by_cases z : b = P
    · subst z
      rw [hP] at e
      cases e
      exact ⟨more, by rw [upd_ne nPc, upd_same]; simp⟩
    · refine ⟨#[], ?_⟩
      rw [oth b z (fun y => by subst y; rw [fc] at e; cases e), e]
      simp
  · by_cases zc : b = c'
    · subst zc
      rw [upd_same] at e
      cases e
      exact codO_ok hr
    · rw [upd_ne zc] at e
      by_cases z : b = P
      · subst z
        rw [upd_same] at e
        cases e
        exact ht
      · rw [upd_ne z] at e
        refine (I.hok b u e).stay (fun d v hd g => hx d v ?_ g) (fun d g => ?_) fun d xs g => ?_
        · rcases hd with hd | hd
          · rw [hd]; exact z
          · exact (nt hd fun ps y => by cases y).1
        · obtain ⟨n1, n2⟩ := nt g fun ps y => by cases y
          rw [oth d n1 n2]; exact g
        · obtain ⟨n1, n2⟩ := nt g fun ps y => by cases y
          rw [oth d n1 n2]; exact g
theorem ev_lam {Q : Value → Shared → Prop} {c P : Addr} {params : Arguments} {body : Expr} {scope : Scope} {lpos : Pos} (I : Inv X pins σ H s) (hcode : X.env.code = .ref c) (hC : codeHdIn X.K c P = true) (hB : X.base.BuiltinsAt X.mg P) (hT : Tb lpos.line lpos.col (X.env.qual ++ "<lambda>") P H)
    (hdef : defaultsOf params X.env = ([], [])) (hcl : closureFor scope X.env = pure [])
    (h : ∀ f c' ctv pm s' H', Inv X pins σ H' s' → Tb lpos.line lpos.col (X.env.qual ++ "<lambda>") P H' → H' c' = some (codO c' (X.env.qual ++ "<lambda>")) → Same (del H P) (del H' P) → H' f = none → f ∉ frs X.stack → s'.heap.get? f = some (kla_obj "<lambda>" (X.env.qual ++ "<lambda>") params body scope [] pm c' ctv) → Q (.ref f) s') :
    wpAny (model X.prog X.w) X.A (eval (.Lambda params body scope lpos) X.env) Q X.xe s := by
  have hgm : s.heap.Ns mainGlobals X.mg := I.mod.glob.keeps I.bk
  have C : CodeHd s.heap c P := codeHd_of_K I.kIn hC
  have hb : s.heap.BuiltinsAt X.mg P := hB.keeps I.bk
  have hgP : mainGlobals ≠ P := fun z => by
    obtain ⟨o, es, ep, e, _⟩ := I.mod.glob
    obtain ⟨ps, t⟩ := hT.tbl
    rw [← z, (I.bs _ _ e).2] at t
    cases t
  refine kla_eval hdef ?_
  rcases hT with hT | ⟨c', hT, hc'⟩
  · have hP : s.heap.get? P = some (tabObj #[]) := I.hok P _ hT
    refine kla_makeFunction hcl I.ok.glob hgm hcode C hP trivial rfl hgP hb fun c' ctv h' tk hx hge hlt hrec htb => ?_
    have lP : P < s.heap.objs.size := I.hok.lt hT
    have nPc : P ≠ c' := Nat.ne_of_lt (Nat.lt_of_lt_of_le lP hge)
    have szs : s.heap.objs.size ≤ h'.objs.size := Nat.le_of_lt (Nat.lt_of_le_of_lt hge hlt)
    have e0 : (#[] : Array Value) ++ #[rawInt lpos.line, rawInt lpos.col, .ref c'] = #[rawInt lpos.line, rawInt lpos.col, .ref c'] := by simp
    rw [e0] at htb
    have nfc : h'.objs.size ≠ c' := Nat.ne_of_gt hlt
    have nfP : h'.objs.size ≠ P := Nat.ne_of_gt (Nat.lt_of_lt_of_le lP szs)
    refine h _ c' ctv _ _ _ (Inv.tabbed (q := X.env.qual ++ "<lambda>") (more := #[rawInt lpos.line, rawInt lpos.col, .ref c']) I hT (fun b o nb e => Heap.get?_push_of_some _ (hx b o nb e)) hge ?_ (Heap.get?_push_of_some _ htb)) (.inr ⟨c', by rw [upd_ne nPc, upd_same], upd_same⟩) upd_same (fun b u e => ?_) ?_ (I.nstk szs) (Heap.get?_push_size _ rfl)
    · obtain ⟨c2, oc, vs, tq, e, ho, r⟩ := hrec
      exact ⟨c2, oc, vs, tq, e, Heap.get?_push_of_some _ ho, r⟩
    · by_cases z : b = P
      · subst z; rw [del_at] at e; cases e
      · rw [del_ne z] at e ⊢
        rw [upd_ne (fun y => by subst y; rw [I.hok.fresh hge] at e; cases e), upd_ne z]
        exact e
    · rw [upd_ne nfc, upd_ne nfP]
      exact I.hok.fresh szs
  · have hP : s.heap.get? P = some (tabObj #[rawInt lpos.line, rawInt lpos.col, .ref c']) := I.hok P _ hT
    refine kla_makeFunctionHit (cv := .ref c') hcl I.ok.glob hgm hcode C hP (by simp [TriplesOk, rawInt]) (by simp [codeAmong, rawInt]) hb fun ctv h' tk hk hsz => ?_
    refine h _ c' ctv _ _ H ?_ (.inr ⟨c', hT, hc'⟩) hc' (Same.refl _) (I.hok.fresh hsz) (I.nstk hsz) (Heap.get?_push_size _ rfl)
    exact I.un (Un.kept fun b o e => Heap.get?_push_of_some _ (hk b o e)) (I.hok.kept fun b o e => Heap.get?_push_of_some _ (hk b o e))
end
theorem lam_call {P : Program} {w : World} {K : PySem.W.Frag} {mg : Str → Option Value} {base : Heap} {A : Around} {outer : List Env} {s : Shared} {H : Hp} {k : Nat} {f c' : Addr} {q : Str} {params : Arguments} {body : Expr} {scope : Scope} {pm ctv x : Value} {y : Str} {v : V} {Q : VK} {tb : TE}
    (hr : Room k A) (e0 : Env0 P w K mg base A outer s H) (ho : s.heap.get? f = some (kla_obj "<lambda>" q params body scope [] pm c' ctv)) (hcd : s.heap.CodeRec (.ref c') q) (S : FnScope [y] [y] scope)
    (hbind : bindArgs (kla_fn "<lambda>" q params body scope [] pm (.ref c') ctv) ⟨[x], []⟩ = pure [(y, x)]) (rx : RelV v x) (hb : PE (cxOf CX0 P w K mg base [y] q scope f (.ref c') A outer s H E0).nox body tb) (hq : tb (start [y] [v]) H Q) :
    codeAny (model P w) A (.call (.ref f) ⟨[x], []⟩) (CR CX0 outer P w H s Q E0) s := by
  have lim : s.heap.NoLimit := e0.mod.nolimit.keeps fun b o e => (e0.bs b o e).1
  have hkind : ∀ z ∈ [(y, x)], scope.names.lookup z.1 = some .local ∨ (scope.names.lookup z.1 = some .cell ∧ ((cellsFrom (s.heap.objs.size + 1) scope.names []).lookup z.1).isSome = true) := fun ⟨n, u⟩ hy => by
    cases List.mem_singleton.mp hy
    rcases S.par y List.mem_cons_self with q | q
    · exact .inl q
    · exact .inr ⟨q, PySem.W.cellsFrom_some _ _ _ (.inl q)⟩
  refine kla_callFunE hr.depth ho rfl S.co S.gen rfl hcd ?_
  rw [hbind]
  refine wpAny_pure ?_
  refine wpAny_newFunctionEnv_cells S.kind hkind fun env he s1 xx => ?_
  subst he
  refine ⟨lim.keeps xx.toInCall.keep, kla_codeExpr ?_⟩
  have I : Inv (cxOf CX0 P w K mg base [y] q scope f (.ref c') A outer s H E0) [] (start [y] [v]) H s1 := inv_start S hr.hd e0 rfl (.cons rx .nil) xx
  refine wpAny_mono (hb.nox [] s1 (start [y] [v]) H Q I hq) (fun u s' hs => ?_) fun e s' hs => hs
  obtain ⟨v', H', J, rv, q'⟩ := hs
  exact ⟨v', H', J.os, J.bare, J.base, J.hok, rv, q'⟩
def tSortL (K : PySem.W.Frag) (ln cl : Nat) (q : Str) (P : Addr) (y : Str) (tb : TE) (t : TA) : TE := fun σ H Q => t σ H fun vs H1 => Tb ln cl q P H1 ∧ ∀ H2, Tb ln cl q P H2 → Same (del H1 P) (del H2 P) → rSortK K (fun vs H Q _ => tb (start [y] vs) H Q) vs H2 Q
section
variable {X : Cx} {k : Nat}
theorem pe_sortL {x y : Str} {e body : Expr} {params : Arguments} {scope : Scope} {c P : Addr} {p lpos kp pos : Pos} {t : TA} {tb : TE} (hcode : X.env.code = .ref c) (hC : codeHdIn X.K c P = true) (hB : X.base.BuiltinsAt X.mg P) (hr : Room (k + 1) X.A)
    (hg : Gl X x) (hm : X.mg x = none) (hv : bootBuiltins x = some (.builtin "sorted"))
    (S : FnScope [y] [y] scope) (hbind : ∀ pm cd ctv x, bindArgs (kla_fn "<lambda>" (X.env.qual ++ "<lambda>") params body scope [] pm cd ctv) ⟨[x], []⟩ = pure [(y, x)])
    (hb : ∀ f cd A outer s H, PE (cxOf CX0 X.prog X.w X.K X.mg X.base [y] (X.env.qual ++ "<lambda>") scope f cd A outer s H E0).nox body tb) (ha : PA X [e] t)
    (hdef : defaultsOf params X.env = ([], []) := by rfl) (hcl : closureFor scope X.env = pure [] := by rfl)
    (hn : x ≠ "__name__" := by decide) (hdb : (x == ("__debug__" : Str)) = false := by decide)
    (he : starEach [e] X.env = (false, eval e X.env) :: starEach [] X.env := by rfl) : PE X (.Call (.Name x p) [e] [⟨some "key", .Lambda params body scope lpos, kp⟩] pos) (tSortL X.K lpos.line lpos.col (X.env.qual ++ "<lambda>") P y tb t) := by
  intro pins s σ H Q I h
  refine wpAny_Call_Name_kw (ld_blt I hg hm hv ?_ hn hdb)
  refine callWith_kw (thn (ha pos pins s σ H _ I h) fun us s1 ⟨vs, H1, I1, r1, hT, q1⟩ => kws_cons (ev_lam I1 hcode hC hB hT hdef hcl fun f c' ctv pm s2 H2 I2 hT2 hc2 sm hf nf of => kws_nil ?_)) (by rw [he]; rfl) (by rw [he]; rfl)
  refine sorted_keyC (fun s' Hm x y Q e0 un same r1 hsp => ?_) (by have := hr.un; omega) I2 r1 (q1 H2 hT2 sm)
  have hcr : s'.heap.CodeRec (.ref c') (X.env.qual ++ "<lambda>") := (e0.hok c' _ (same _ _ hc2)).1
  exact lam_call hr.in2 e0 (un.keep f _ of hf nf (by simp)) hcr S (hbind _ _ _ _) r1 (hb _ _ _ _ _ _) hsp
end
theorem Fun.okC {P : Program} {w : World} {K : PySem.W.Frag} {mg : Str → Option Value} {base : Heap} {x qual : Str} {st : Stmt} {f : Addr} {fd : FuncData} {N ps : List Str} {k : Nat} {sp : Sp} (F : Fun K x qual st f fd) (S : FnScope N ps (defScope st)) (len : ∀ vs H Q E, sp vs H Q E → vs.length = ps.length)
    (hbody : ∀ (cdv : Value) (A : Around) (outer : List Env) (s : Shared) (H : Hp) (vs : List V) (Q : VK) (E : XK), fd.code = cdv → Room k (A.deeper (envOfC qual (defScope st) s.heap.objs.size f cdv)) → sp vs H Q E →
      ∃ t, PSs (cxOf CX0 P w K mg base N qual (defScope st) f cdv A outer s H E).nox (defBody st) t ∧ t { nx := fun _ H' => Q .non H', rt := Q } (start N vs) H) : FnOk P w K mg base CX0 (k + 1) f fd ps sp := by
  obtain ⟨oc, od, kV, doc, pm, an, cdv, ct, osl, rfl, lk, hcd⟩ := F.ex
  refine fn_of lk hcd S len fun A outer s H vs Q E hr hsp => ?_
  obtain ⟨t, h, q⟩ := hbody cdv A outer s H vs Q E rfl hr hsp
  exact ⟨t, h.nox, q⟩
def OnlyT (Ps : List Addr) (H : Hp) : Prop := ∀ b, (b ∈ Ps ∧ H b = some (.tbl #[])) ∨ (b ∉ Ps ∧ (H b = none ∨ ∃ o xs, H b = some (.frz o (.lst xs))))
theorem law_callT {P : Program} {w : World} {K : PySem.W.Frag} {mg mb : Str → Option Value} {CX : CXT} {k : Nat} {fa a : Addr} {fd : FuncData} {x : Str} {sp : Sp} {s₁ : Shared} {vs : List Value} {ns : List Int} {Ps : List Addr}
    (KX : K.In s₁.heap) (hns : s₁.heap.Ns mainGlobals mg) (hb : s₁.heap.Ns builtinsNs mb) (hbb : ∀ x : Str, x ≠ "__name__" → mb x = bootBuiltins x) (hlim : s₁.heap.NoLimit) (hg : s₁.gens = #[])
    (hnt : noTabs K = true) (hPs : ∀ Q ∈ Ps, s₁.heap.get? Q = some (tabObj #[]) ∧ isCodeTable s₁.heap Q) (hbm : ∀ Q ∈ Ps, s₁.heap.BuiltinsAt mg Q)
    (ha : s₁.heap.get? a = some { cls := .type "list", data := .seq vs.toArray }) (hi : IntsAre vs ns) (hl : ns.length ≤ sizeLine) (hr : Room k callerA)
    (F : ∀ base : Heap, K.In base → base.Ns mainGlobals mg → (∀ Q ∈ Ps, base.BuiltinsAt mg Q) → FnOk P w K mg base CX k fa fd [x] sp) (hbind : ∀ (s : Shared) (u : Value), BindsTo s fd ⟨[u], []⟩ [(x, u)])
    (hsp : ∀ H : Hp, OnlyT Ps H → SqL K H a (ns.map V.int) → sp [.ref a] H (fun v _ => v = .bl true) fun _ _ _ => False)
    (hCX : ∀ H e s', CX [] H s₁ (fun _ _ _ => False) e s' → False) :
    codeAny (model P w) callerA (.call (.ref fa) ⟨[.ref a], []⟩) (fun r s' => r = .ok (.ret (.bool true)) ∧ OldK s₁.heap s'.heap ∧ s'.os = s₁.os ∧ AllBare s'.gens) s₁ := by
  have rv := vals_ints hi
  have lenV := hi.length
  have naP : a ∉ Ps := fun z => by
    have := (hPs a z).1
    rw [ha] at this
    cases this
  have kP : ∀ Q ∈ Ps, K.lookup Q = none := fun Q hQ => by
    cases q : K.lookup Q with
    | none => rfl
    | some o =>
      have e := KX Q o q
      rw [(hPs Q hQ).1] at e
      cases e
      have h2 := List.all_eq_true.mp hnt (Q, _) (mem_of_lookupK q)
      exact absurd (show false = true from h2) Bool.false_ne_true
  have core : ∀ H : Hp, OnlyT Ps H → SqL K H a (ns.map V.int) → HOk P w H s₁.heap → (∀ b, H b ≠ none → b = a ∨ b ∈ Ps) → (H a ≠ none → K.lookup a = none) →
      codeAny (model P w) callerA (.call (.ref fa) ⟨[.ref a], []⟩) (fun r s' => r = .ok (.ret (.bool true)) ∧ OldK s₁.heap s'.heap ∧ s'.os = s₁.os ∧ AllBare s'.gens) s₁ := by
    intro H hO hS hok hA hK
    have base_of : ∀ {b : Addr} {o : Obj}, s₁.heap.get? b = some o → H b = none → (hidT s₁.heap H).get? b = some o := fun e n => hidT_get e n
    have none_of : ∀ {b : Addr} {o : Obj}, s₁.heap.get? b = some o → (∀ y, o.data ≠ .seq vs.toArray y) → o.data ≠ .fields #[] → H b = none := fun {b o} e d1 d2 => by
      cases q : H b with
      | none => rfl
      | some u =>
        rcases hA b (by rw [q]; simp) with e' | e'
        · subst e'
          rw [ha] at e; cases e
          exact absurd rfl (d1 _)
        · rw [(hPs b e').1] at e; cases e
          exact absurd rfl d2
    have nsK : ∀ {b : Addr} {m : Str → Option Value}, s₁.heap.Ns b m → (hidT s₁.heap H).Ns b m := fun {b m} ⟨o, es, ep, e, d, r⟩ => ⟨o, es, ep, base_of e (none_of e (fun y z => by rw [d] at z; cases z) (fun z => by rw [d] at z; cases z)), d, r⟩
    have hKb : K.In (hidT s₁.heap H) := fun b o e => base_of (KX b o e) (by
      cases q : H b with
      | none => rfl
      | some u =>
        rcases hA b (by rw [q]; simp) with e' | e'
        · subst e'
          rw [hK (by rw [q]; simp)] at e; cases e
        · rw [kP b e'] at e; cases e)
    have hBb : ∀ Q ∈ Ps, (hidT s₁.heap H).BuiltinsAt mg Q := fun Q hQ => by
      obtain ⟨bm, ob, b1, b2, b3, b4, b5, b6, b7, b8⟩ := hbm Q hQ
      exact ⟨bm, ob, b1, b2, b3, b4, base_of b5 (none_of b5 (fun y z => by rw [b8] at z; cases z) (fun z => by rw [b8] at z; cases z)), b6, b7, b8⟩
    have hM : Mod K mg (hidT s₁.heap H) := ⟨hKb, nsK hns, ⟨mb, nsK hb, hbb⟩, let ⟨mc, h1, h2⟩ := hlim; ⟨mc, nsK h1, h2⟩⟩
    have e0 : Env0 P w K mg (hidT s₁.heap H) callerA [] s₁ H := ⟨rfl, hM, fun b o e => of_hidT e, Nat.le_of_eq (hidT_size _ _), trivial, fun b hb => absurd (show b ∈ ([] : List Addr) from hb) (by simp), hok, .of_eq hg⟩
    refine codeAny_mono ((F _ hKb (nsK hns) hBb).run callerA [] s₁ H ⟨[.ref a], []⟩ [.ref a] [.ref a] _ _ hr e0 (hbind s₁ (.ref a)) (.cons rfl .nil) (hsp H hO hS)) fun r s' h => ?_
    cases r with
    | error e => exact (hCX H e s' h).elim
    | ok fl =>
      cases fl with
      | next => exact False.elim h
      | brk => exact False.elim h
      | cont => exact False.elim h
      | ret u =>
        obtain ⟨v, H', os, bare, un, hok', r', q⟩ := h
        have q' : v = .bl true := q
        subst q'
        obtain rfl : u = Value.bool true := r'
        refine ⟨rfl, ⟨fun b o e => ?_, fun b o e => un.there b o e (by simp)⟩, os, bare⟩
        rcases hO b with ⟨hbP, z⟩ | ⟨_, z | ⟨ob, xs, z⟩⟩
        · obtain ⟨more, z2⟩ := un.tbls b _ z
          have e2 : s'.heap.get? b = some { cls := .none, data := .fields (#[] ++ more) } := hok' b _ z2
          rw [(hPs b hbP).1] at e
          cases e
          exact .inr (.inl ⟨(hPs b hbP).2, rfl, #[], more, rfl, e2⟩)
        · exact .inl (un.keep b o e z (by intro y; exact absurd (show b ∈ ([] : List Addr) from y) (by simp)) (by simp))
        · have z2 := un.frzs b ob _ z
          obtain ⟨e1, _⟩ := hok b _ z
          obtain ⟨e2, _⟩ := hok' b _ z2
          rw [e] at e1; cases e1
          exact .inl e2
  cases hk : K.lookup a with
  | some o =>
    have e := KX a o hk
    rw [ha] at e
    cases e
    refine core (fun b => if b ∈ Ps then some (.tbl #[]) else none) (fun b => ?_) (.inr ⟨_, vs.toArray, _, hk, rfl, rfl, rfl, by rw [List.size_toArray, lenV]; exact hl, by simpa using rv⟩) (fun b u z => ?_) (fun b z => ?_) fun z => absurd (if_neg naP) z
    · by_cases hb : b ∈ Ps
      · exact .inl ⟨hb, if_pos hb⟩
      · exact .inr ⟨hb, .inl (if_neg hb)⟩
    · by_cases hb : b ∈ Ps
      · have z' := (if_pos hb).symm.trans z
        cases z'
        exact (hPs b hb).1
      · have z' := (if_neg hb).symm.trans z
        cases z'
    · by_cases hb : b ∈ Ps
      · exact .inr hb
      · exact absurd (if_neg hb) z
  | none =>
    refine core (fun b => if b ∈ Ps then some (.tbl #[]) else if b = a then some (.frz { cls := .type "list", data := .seq vs.toArray } (.lst (ns.map V.int))) else none) (fun b => ?_) (.inl (.inr ⟨{ cls := .type "list", data := .seq vs.toArray }, (if_neg naP).trans (if_pos rfl)⟩)) (fun b u z => ?_) (fun b z => ?_) fun _ => hk
    · by_cases hb : b ∈ Ps
      · exact .inl ⟨hb, if_pos hb⟩
      · by_cases hba : b = a
        · exact .inr ⟨hb, .inr ⟨_, _, (if_neg hb).trans (if_pos hba)⟩⟩
        · exact .inr ⟨hb, .inl ((if_neg hb).trans (if_neg hba))⟩
    · by_cases hb : b ∈ Ps
      · have z' := (if_pos hb).symm.trans z
        cases z'
        exact (hPs b hb).1
      · have z1 := (if_neg hb).symm.trans z
        by_cases hba : b = a
        · have z' := (if_pos hba).symm.trans z1
          cases z'
          subst hba
          exact ⟨ha, by rw [List.length_map]; exact hl, vs, _, rv, ha⟩
        · have z' := (if_neg hba).symm.trans z1
          cases z'
    · by_cases hb : b ∈ Ps
      · exact .inr hb
      · by_cases hba : b = a
        · exact .inl hba
        · exact absurd ((if_neg hb).trans (if_neg hba)) z
theorem walk_ofT {l : PySem.W.OpenLaw} {n k : Nat} {q : Program} {loose : List Str} {XP : (Str → Option Value) → Heap → Prop} {YP : World → Heap → Prop} {d : DefRec} {K : Params → PySem.W.Frag} {CX : CXT} {sp : PySem.W.Frag → Sp} {x : Str} {Ps : List Addr} {tp tc : PySem.W.Frag → Addr}
    (hn : l.most = some n) (hn2 : n ≤ sizeLine) (hdf : d.params.defaults = []) (hr : Room k callerA)
    (hY : ∀ (w : World) (h : Heap), YP w h → (K w.params).In h) (hYT : ∀ (w : World) (h : Heap), YP w h → ∀ Q ∈ Ps, h.get? Q = some (tabObj #[]))
    (hC : ∀ w : World, ∀ Q ∈ Ps, codeHdIn (K w.params) (tc (K w.params)) Q = true) (hnt : ∀ w : World, noTabs (K w.params) = true) (htp : ∀ w : World, tp (K w.params) ∈ Ps)
    (F : ∀ (w : World) (mg : Str → Option Value) (fa : Addr) (h : Heap), (K w.params).In h → h.Ns mainGlobals mg → mg d.name = some (.ref fa) →
      ∃ fd : FuncData, (∀ (s : Shared) (u : Value), BindsTo s fd ⟨[u], []⟩ [(x, u)]) ∧
        ∀ base : Heap, (K w.params).In base → base.Ns mainGlobals mg → base.BuiltinsAt mg (tp (K w.params)) → FnOk l.prog w (K w.params) mg base CX k fa fd [x] (sp (K w.params)))
    (hsp : ∀ (K : PySem.W.Frag) (H : Hp) (a : Addr) (ns : List Int), ns.length ≤ n → H (tp K) = some (.tbl #[]) → SqL K H a (ns.map V.int) → sp K [.ref a] H (fun v _ => v = .bl true) fun _ _ _ => False)
    (hCX : ∀ (H : Hp) (s : Shared) (e : Value) (s' : Shared), CX [] H s (fun _ _ _ => False) e s' → False) :
    PySem.W.WalkO q loose XP YP l.row.toRowW d [] (fun f vs => PySem.call f vs) := by
  refine Att.attach_call hn hdf fun w s₀ s₁ mg mb fa o pm cd doc a vs ns G Y ho hd hcd hmg hobj hints hlen hg => ?_
  have KX := hY w _ Y
  obtain ⟨fd, hb, hF⟩ := F w mg fa _ KX G.T.g hmg
  have hT := hYT w _ Y
  have hbm : ∀ Q ∈ Ps, s₁.heap.BuiltinsAt mg Q := fun Q hQ => by
    obtain ⟨bm, ob, b1, b2, b3, b4, b5, b6⟩ := G.T.bmain
    refine ⟨bm, ob, b1, b2, fun q => ?_, fun q => ?_, b3, b4, b5, b6⟩
    · obtain ⟨o, es, ep, e, hd, _⟩ := G.T.g
      rw [q, e] at b3; cases b3; rw [hd] at b6; cases b6
    · rw [q, hT Q hQ] at b3; cases b3; cases b4
  exact law_callT KX G.T.g G.T.b G.T.builtins G.T.nolimit hg (hnt w) (fun Q hQ => ⟨hT Q hQ, ((codeHd_of_K KX (hC w Q hQ)).tab (hT Q hQ)).isCodeTable⟩) hbm hobj hints (Nat.le_trans hlen hn2) hr (fun base h1 h2 h3 => hF base h1 h2 (h3 _ (htp w))) hb (fun H hO hS => hsp (K w.params) H a ns hlen (by
    rcases hO (tp (K w.params)) with z | z
    · exact z.2
    · exact absurd (htp w) z.1) hS) fun H e s' => hCX H s₁ e s'
end L2
set_option maxHeartbeats 4000000
namespace Rga
inductive Ch (bh : Nat → Option Nat) : Option Nat → List Nat → Prop
  | nil : Ch bh none []
  | cons {i : Nat} {l : List Nat} : Ch bh (bh i) l → Ch bh (some i) (i :: l)
theorem ch_ex {bh : Nat → Option Nat} {n : Nat} (hb : ∀ i, i < n → ∀ b, bh i = some b → b < i) : ∀ (m i : Nat), i < m → i < n → ∃ l, Ch bh (some i) l ∧ l.length ≤ i + 1
  | m + 1, i, hm, hi => by
    cases e : bh i with
    | none => exact ⟨[i], .cons (by rw [e]; exact .nil), by simp⟩
    | some b =>
      have hbi := hb i hi b e
      obtain ⟨l, h1, h2⟩ := ch_ex hb m b (by omega) (by omega)
      exact ⟨i :: l, .cons (by rw [e]; exact h1), by rw [List.length_cons]; omega⟩
theorem ch_in {bh : Nat → Option Nat} {ms : List Nat} (cl : ∀ k ∈ ms, ∀ b, bh k = some b → b ∈ ms) : ∀ {o : Option Nat} {l : List Nat}, Ch bh o l → (∀ i, o = some i → i ∈ ms) → ∀ j ∈ l, j ∈ ms
  | _, _, .nil, _, _, hj => by cases hj
  | _, _, .cons (i := i) c, h, j, hj => by
    rcases List.mem_cons.mp hj with rfl | hj
    · exact h _ rfl
    · exact ch_in cl c (fun b hb => cl i (h i rfl) b hb) j hj
end Rga
namespace L2
open PySem PySem.Spec PySem.W PyProof.Rows
def ahd (D : Nat → PyData) : List Nat → List Nat → Bool
  | [], [] => false
  | [], _ :: _ => true
  | _ :: _, [] => false
  | a :: l, b :: m => if a = b then ahd D l m else ltD (D b) (D a)
theorem AN.rev {P : V → Nat → Prop} {vs : List V} {js : List Nat} (h : AN P vs js) : AN P vs.reverse js.reverse := by
  refine ⟨by rw [List.length_reverse, List.length_reverse, h.1], fun m v i e1 e2 => ?_⟩
  have hm : m < vs.length := by have := (List.getElem?_eq_some_iff.mp e1).1; rwa [List.length_reverse] at this
  rw [List.getElem?_reverse hm] at e1
  rw [List.getElem?_reverse (by rw [← h.1]; exact hm), ← h.1] at e2
  exact h.2 _ v i e1 e2
theorem lay_of {d : PyData} : ∀ {ds : List PyData}, PyData.canLayAll0 ds = true → d ∈ ds → d.canLay0 = true
  | e :: ds, h, hm => by
    have hc : (e.canLay0 && PyData.canLayAll0 ds) = true := h
    rw [Bool.and_eq_true] at hc
    rcases List.mem_cons.mp hm with rfl | hm
    · exact hc.1
    · exact lay_of hc.2 hm
theorem KeysAre.sub {ds es : List PyData} {t : Nat} (h : KeysAre ds t) (p : ∀ x ∈ es, x ∈ ds) : KeysAre es t :=
  ⟨lays_all fun x hx => lay_of h.lay (p x hx), fun d hd => h.kind d (p d hd), fun a ha b hb => h.one a (p a ha) b (p b hb), fun d hd => h.deep d (p d hd)⟩
end L2
set_option maxHeartbeats 4000000
namespace L2
open PySem PySem.Spec PySem.W PyProof.Rows
end L2
namespace Rga
end Rga
set_option maxHeartbeats 4000000
namespace L2
open PySem PySem.Spec PySem.W PyProof.Rows
section
variable {X : Cx} {tg : Expr}
theorem noFill_tuple_mul : fillsNumberSlot (.type "tuple") "mul" = pure false :=
  PySem.fillsNumberSlot_seq (id := "tuple.__mul__") (r := some (.builtin "tuple.__rmul__")) F.slot_tuple_mul.lookup (by decide +kernel) F.slot_tuple_rmul.lookup (by decide +kernel)
theorem repeat_tuple : seqRepeat? (.type "tuple") = pure (some (.builtin "tuple.__mul__")) := by
  unfold seqRepeat?
  rw [PySem.seqSlot_of (name := "__mul__") F.slot_tuple_mul.lookup (by decide +kernel), PySem.seqSlot_of (T := "tuple") (name := "__rmul__") F.slot_tuple_rmul.lookup (by decide +kernel)]
  rfl
theorem rmul_tup (a : Int) (t : Tok) (l : Addr) (us : Array Value) (n : Nat) (dd : Option Addr) (sl : Array (Option Value)) :
    Meets (Builtin.«int.__rmul__» ⟨[.int a t, .ref l], []⟩) (fun _ R s => s.heap.get? l = some { cls := .type "tuple", dict := dd, data := .seq us n, slots := sl } ∧ R (.ok (.ret Value.notImplemented)) s) :=
  .of_wp fun prog w A R s h => by obtain ⟨hp, g, d, tk, os⟩ := s; obtain ⟨hl, h⟩ := h; wp_walk; exact ⟨_, rfl, h⟩
theorem mul1_tup (t : Tok) (l : Addr) (us : Array Value) (n : Nat) (dd : Option Addr) (sl : Array (Option Value)) :
    Meets (Builtin.«tuple.__mul__» ⟨[.ref l, .int 1 t], []⟩) (fun _ R s => s.heap.get? l = some { cls := .type "tuple", dict := dd, data := .seq us n, slots := sl } ∧ R (.ok (.ret (.ref l))) s) :=
  .of_wp fun prog w A R s h => by obtain ⟨hp, g, d, tk, os⟩ := s; obtain ⟨hl, h⟩ := h; wp_walk; exact ⟨_, rfl, h⟩
theorem mul0_tup (t : Tok) (l : Addr) (us : Array Value) (n : Nat) (dd : Option Addr) (sl : Array (Option Value)) (hu : us.isEmpty = false) :
    Meets (Builtin.«tuple.__mul__» ⟨[.ref l, .int 0 t], []⟩) (fun _ R s => s.heap.get? l = some { cls := .type "tuple", dict := dd, data := .seq us n, slots := sl } ∧ R (.ok (.ret (.ref s.heap.objs.size))) { s with heap := s.heap.push { cls := .type "tuple", data := .seq #[] } }) :=
  .of_wp fun prog w A R s h => by obtain ⟨hp, g, d, tk, os⟩ := s; obtain ⟨hl, h⟩ := h; wp_walk; exact ⟨_, rfl, h⟩
def rRepT (K : PySem.W.Frag) : R2 := fun x y H Q => ∃ a xs k, x = .ref a ∧ y = .int k ∧ SqT K H a xs ∧ xs ≠ [] ∧ ((k = 1 ∧ Q (.ref a) H) ∨ (k = 0 ∧ ∀ p H', H p = none → Same H H' → H' p = some (.tup []) → Q (.ref p) H'))
theorem op_repT : OpR X (binaryOp .Mult) (rRepT X.K) := by
  intro pins s σ H x y v u Q I rx ry h
  obtain ⟨a, xs, k, rfl, rfl, hx, hne, q⟩ := h
  cases rx
  obtain ⟨t, rfl⟩ := ry
  obtain ⟨its, r, ht, _⟩ := I.tuple hx
  obtain ⟨⟨cls, dd, data, sl⟩, ho, hc, n, hd⟩ := id ht
  simp only at hc hd
  subst hc hd
  have hu : its.toArray.isEmpty = false := by
    cases its with
    | nil => exact absurd (r.nil_iff.mp rfl) hne
    | cons _ _ => rfl
  refine wpAny_binaryOp_repeat_ref (T := "tuple") (U := "int") (by decide) ⟨_, ho, rfl⟩ (fun s' => typeIs_int s' k t) noFill_tuple_mul F.fills_int_mul F.slot_int_rmul repeat_tuple F.slot_int_index.lookup
    (call_meets F.slot_int_rmul (typeIs_int s k t) F.entry_int_rmul (F.args_int_rmul_2 _ _) (rmul_tup k t a its.toArray n dd sl) ⟨ho, rfl, ⟨_, ho, rfl⟩, ?_⟩)
  rcases q with ⟨rfl, q⟩ | ⟨rfl, q⟩
  · exact call_meets F.slot_tuple_mul ⟨_, ho, rfl⟩ F.entry_tuple_mul (F.args_tuple_mul_2 _ _) (mul1_tup t a its.toArray n dd sl) ⟨ho, ⟨.ref a, H, I, rfl, q⟩⟩
  · have hf := I.hok.fresh (Nat.le_refl _)
    refine call_meets F.slot_tuple_mul ⟨_, ho, rfl⟩ F.entry_tuple_mul (F.args_tuple_mul_2 _ _) (mul0_tup t a its.toArray n dd sl hu) ⟨ho, ?_⟩
    exact ⟨.ref s.heap.objs.size, _, I.laid (t' := s.toks) (o := .tup []) (fun b ob q => Heap.get?_push_of_some _ q) (Nat.le_refl _) ⟨Nat.zero_le _, [], .nil, IsTup.new _ _⟩, rfl, q _ _ hf (Same.new hf) upd_same⟩
def rRepU : R2 := fun x y H Q => ∃ a xs k, x = .ref a ∧ y = .int k ∧ H a = some (.tup xs) ∧ xs ≠ [] ∧ (k = 0 ∨ k = 1) ∧ ∀ p H' ys, Same H H' → H' p = some (.tup ys) → (k = 1 → ys = xs) → (k = 0 → ys = []) → Q (.ref p) H'
theorem op_repU : OpR X (binaryOp .Mult) rRepU := op_repT.imp fun _ _ H _ ⟨a, xs, k, h1, h2, h3, h4, h5, q⟩ => ⟨a, xs, k, h1, h2, SqT.of h3, h4, by
  rcases h5 with rfl | rfl
  · exact .inr ⟨rfl, fun p H' _ s e => q p H' [] s e (fun z => by cases z) fun _ => rfl⟩
  · exact .inl ⟨rfl, q a H xs (Same.refl _) h3 (fun _ => rfl) fun z => by cases z⟩⟩
def rCatU : R2 := fun x y H Q => ∃ a b xs ys, x = .ref a ∧ y = .ref b ∧ H a = some (.tup xs) ∧ H b = some (.tup ys) ∧ xs ≠ [] ∧ xs.length + ys.length ≤ sizeLine ∧ ∀ p H', Same H H' → H' p = some (.tup (xs ++ ys)) → Q (.ref p) H'
theorem op_catU : OpR X (binaryOp .Add) rCatU := op_catT.imp fun _ _ H _ ⟨a, b, xs, ys, h1, h2, h3, h4, h5, h6, q⟩ => ⟨a, b, xs, ys, h1, h2, SqT.of h3, SqT.of h4, h5, h6, fun z => q a H (Same.refl _) (by rw [z, List.append_nil]; exact h3), fun _ p hp => q p _ (Same.new hp) upd_same⟩
end
end L2
set_option maxHeartbeats 4000000
namespace L2
open PySem PySem.Spec PySem.W PyProof.Rows
theorem ahd_app (D : Nat → PyData) (s t : List Nat) : ∀ u : List Nat, ahd D (u ++ s) (u ++ t) = ahd D s t
  | [] => rfl
  | a :: u => by
    show (if a = a then ahd D (u ++ s) (u ++ t) else _) = _
    rw [if_pos rfl, ahd_app D s t u]
theorem ahd_pre (D : Nat → PyData) (u w : List Nat) (h : w ≠ []) : ahd D u (u ++ w) = true := by
  have := ahd_app D [] w u
  rw [List.append_nil] at this
  rw [this]
  cases w with
  | nil => exact absurd rfl h
  | cons _ _ => rfl
theorem ahd_self (D : Nat → PyData) : ∀ l : List Nat, ahd D l l = false
  | [] => rfl
  | a :: l => by
    show (if a = a then ahd D l l else _) = _
    rw [if_pos rfl, ahd_self D l]
theorem ahd_asym {D : Nat → PyData} (h : ∀ i j, ltD (D i) (D j) = true → ltD (D j) (D i) = false) : ∀ {l m : List Nat}, ahd D l m = true → ahd D m l = false
  | [], [], q => by cases q
  | [], _ :: _, _ => rfl
  | _ :: _, [], q => by cases q
  | a :: l, b :: m, q => by
    have q' : (if a = b then ahd D l m else ltD (D b) (D a)) = true := q
    show (if b = a then ahd D m l else ltD (D a) (D b)) = false
    by_cases e : a = b
    · rw [if_pos e] at q'
      rw [if_pos e.symm]
      exact ahd_asym h q'
    · rw [if_neg e] at q'
      rw [if_neg (fun z => e z.symm)]
      exact h _ _ q'
end L2
namespace Rga
open L2
theorem ch_fun {bh : Nat → Option Nat} : ∀ {o : Option Nat} {l m : List Nat}, Ch bh o l → Ch bh o m → l = m
  | _, _, _, .nil, .nil => rfl
  | _, _, _, .cons a, .cons b => by rw [ch_fun a b]
theorem ch_tail {bh : Nat → Option Nat} {x : Nat} : ∀ {o : Option Nat} {l : List Nat}, Ch bh o l → x ∈ l → ∃ p m, Ch bh (some x) m ∧ l = p ++ m
  | _, _, .nil, h => by cases h
  | _, _, .cons (i := i) (l := l) c, h => by
    rcases List.mem_cons.mp h with z | z
    · subst z
      exact ⟨[], _, .cons c, rfl⟩
    · obtain ⟨p, m, h1, h2⟩ := ch_tail c z
      exact ⟨i :: p, m, h1, by rw [h2]; rfl⟩
def AH (bh : Nat → Option Nat) (D : Nat → PySem.PyData) (a b : Nat) : Prop := ∀ la lb, Ch bh (some a) la → Ch bh (some b) lb → ahd D la.reverse lb.reverse = true
def Und (bh : Nat → Option Nat) (x a : Nat) : Prop := ∃ la, Ch bh (some a) la ∧ x ∈ la
section
variable {bh : Nat → Option Nat} {D : Nat → PySem.PyData} {a b c d x : Nat}
theorem und_path {la lx : List Nat} (h : Und bh x a) (h1 : Ch bh (some x) lx) (h2 : Ch bh (some a) la) : ∃ w, la.reverse = lx.reverse ++ w := by
  obtain ⟨la', g1, g2⟩ := h
  cases ch_fun g1 h2
  obtain ⟨p, m, e1, e2⟩ := ch_tail g1 g2
  cases ch_fun e1 h1
  exact ⟨p.reverse, by rw [e2, List.reverse_append]⟩
theorem und_up (hc : bh c = some x) (h : Und bh c a) : Und bh x a := by
  obtain ⟨la, g1, g2⟩ := h
  obtain ⟨p, m, e1, e2⟩ := ch_tail g1 g2
  refine ⟨la, g1, ?_⟩
  cases e1 with
  | cons e =>
    rw [hc] at e
    cases e with
    | cons e => rw [e2]; simp
theorem sib_ah (hcd : bh c = bh d) (hne : c ≠ d) (hk : ltD (D d) (D c) = true) (ha : Und bh c a) (hb : Und bh d b) : AH bh D a b := fun la lb h1 h2 => by
  obtain ⟨_, g1, g2⟩ := id ha
  obtain ⟨_, lc, e1, _⟩ := ch_tail g1 g2
  cases e1 with
  | cons e =>
    rename_i lo
    obtain ⟨w, ew⟩ := und_path ha (.cons e) h1
    obtain ⟨v, ev⟩ := und_path hb (.cons (by rw [← hcd]; exact e)) h2
    rw [ew, ev, List.reverse_cons, List.reverse_cons, List.append_assoc, List.append_assoc, ahd_app]
    show (if c = d then _ else ltD (D d) (D c)) = true
    rw [if_neg hne]
    exact hk
theorem par_ah (hc : bh c = some x) (ha : Und bh c a) : AH bh D x a := fun lx la h1 h2 => by
  obtain ⟨w, ew⟩ := und_path ha (.cons (by rw [hc]; exact h1)) h2
  rw [ew, List.reverse_cons, List.append_assoc]
  exact ahd_pre D _ _ (by simp)
theorem dfs_up {f : Option Nat → List Nat} (hf : ∀ k c, c ∈ f k → bh c = k) (hs : ∀ k, (f k).Pairwise fun c d => ltD (D d) (D c) = true) (irr : ∀ i, ltD (D i) (D i) = false) :
    ∀ {st out : List Nat}, Dfs f st out → st.Pairwise (fun x y => ∀ a b, Und bh x a → Und bh y b → AH bh D a b) → (∀ x ∈ st, ∃ l, Ch bh (some x) l) → out.Pairwise (AH bh D) ∧ ∀ a ∈ out, ∃ x ∈ st, Und bh x a
  | _, _, .nil, _, _ => ⟨.nil, fun a h => by cases h⟩
  | _, _, .cons (x := x) (st := st) (out := out) dd, hp, he => by
    rw [List.pairwise_cons] at hp
    obtain ⟨lx, hx⟩ := he x List.mem_cons_self
    have hsep : (f (some x) ++ st).Pairwise fun x y => ∀ a b, Und bh x a → Und bh y b → AH bh D a b := by
      rw [List.pairwise_append]
      refine ⟨(hs (some x)).imp_of_mem fun {c d} hc hd hk a b ha hb => sib_ah ((hf _ c hc).trans (hf _ d hd).symm) (fun z => by rw [z, irr] at hk; cases hk) hk ha hb, hp.2, fun c hc y hy a b ha hb => hp.1 y hy a b (und_up (hf _ c hc) ha) hb⟩
    obtain ⟨p1, p2⟩ := dfs_up hf hs irr dd hsep fun z hz => by
      rcases List.mem_append.mp hz with q | q
      · exact ⟨z :: lx, .cons (by rw [hf _ z q]; exact hx)⟩
      · exact he z (List.mem_cons_of_mem _ q)
    have self : Und bh x x := ⟨lx, hx, by cases hx; exact List.mem_cons_self⟩
    refine ⟨List.pairwise_cons.mpr ⟨fun a ha => ?_, p1⟩, fun a ha => ?_⟩
    · obtain ⟨z, hz, u⟩ := p2 a ha
      rcases List.mem_append.mp hz with q | q
      · exact par_ah (hf _ z q) u
      · exact hp.1 z q x a self u
    · rcases List.mem_cons.mp ha with q | q
      · exact ⟨x, List.mem_cons_self, q ▸ self⟩
      · obtain ⟨z, hz, u⟩ := p2 a q
        rcases List.mem_append.mp hz with q' | q'
        · exact ⟨x, List.mem_cons_self, und_up (hf _ z q') u⟩
        · exact ⟨z, List.mem_cons_of_mem _ q', u⟩
theorem dfs_roots {f : Option Nat → List Nat} (hf : ∀ k c, c ∈ f k → bh c = k) (hs : ∀ k, (f k).Pairwise fun c d => ltD (D d) (D c) = true) (irr : ∀ i, ltD (D i) (D i) = false) {out : List Nat} (h : Dfs f (f none) out) : out.Pairwise (AH bh D) :=
  (dfs_up hf hs irr h ((hs none).imp_of_mem fun {c d} hc hd hk a b ha hb => sib_ah ((hf _ c hc).trans (hf _ d hd).symm) (fun z => by rw [z, irr] at hk; cases hk) hk ha hb) fun x hx => ⟨[x], .cons (by rw [hf _ x hx]; exact .nil)⟩).1
theorem dfs_sub {f : Option Nat → List Nat} {n : Nat} (hc : ∀ i c, c ∈ f (some i) → i < c ∧ c < n) : ∀ (m i : Nat), n - i ≤ m → i < n → ∃ s, ∀ st out, Dfs f st out → Dfs f (i :: st) (s ++ out)
  | 0, i, hm, hi => absurd hm (by omega)
  | m + 1, i, hm, hi => by
    have kids : ∀ cs : List Nat, (∀ c ∈ cs, i < c ∧ c < n) → ∃ s, ∀ st out, Dfs f st out → Dfs f (cs ++ st) (s ++ out) := fun cs => by
      induction cs with
      | nil => exact fun _ => ⟨[], fun st out d => d⟩
      | cons c cs ih =>
        intro hcs
        obtain ⟨s1, h1⟩ := ih fun z hz => hcs z (List.mem_cons_of_mem _ hz)
        obtain ⟨s2, h2⟩ := dfs_sub hc m c (by have := hcs c List.mem_cons_self; omega) (hcs c List.mem_cons_self).2
        exact ⟨s2 ++ s1, fun st out d => by rw [List.append_assoc]; exact h2 _ _ (h1 _ _ d)⟩
    obtain ⟨s, h⟩ := kids (f (some i)) fun c hc' => hc i c hc'
    exact ⟨i :: s, fun st out d => .cons (h st out d)⟩
theorem dfs_ex {f : Option Nat → List Nat} {n : Nat} (hc : ∀ i c, c ∈ f (some i) → i < c ∧ c < n) (h0 : ∀ c ∈ f none, c < n) : ∃ out, Dfs f (f none) out := by
  have : ∀ cs : List Nat, (∀ c ∈ cs, c < n) → ∃ out, Dfs f cs out := fun cs => by
    induction cs with
    | nil => exact fun _ => ⟨[], .nil⟩
    | cons c cs ih =>
      intro hcs
      obtain ⟨out, h1⟩ := ih fun z hz => hcs z (List.mem_cons_of_mem _ hz)
      obtain ⟨s, h2⟩ := dfs_sub hc (n - c) c (Nat.le_refl _) (hcs c List.mem_cons_self)
      exact ⟨s ++ out, h2 _ _ h1⟩
  exact this _ h0
theorem dfs_has {f : Option Nat → List Nat} : ∀ {st out : List Nat}, Dfs f st out → (∀ x ∈ st, x ∈ out) ∧ ∀ x ∈ out, ∀ c ∈ f (some x), c ∈ out
  | _, _, .nil => ⟨fun _ h => (by cases h), fun _ h => (by cases h)⟩
  | _, _, .cons (x := x) dd => by
    obtain ⟨h1, h2⟩ := dfs_has dd
    refine ⟨fun z hz => ?_, fun z hz c hc => ?_⟩
    · rcases List.mem_cons.mp hz with q | q
      · rw [q]; exact List.mem_cons_self
      · exact List.mem_cons_of_mem _ (h1 z (List.mem_append_right _ q))
    · rcases List.mem_cons.mp hz with q | q
      · rw [q] at hc
        exact List.mem_cons_of_mem _ (h1 c (List.mem_append_left _ hc))
      · exact List.mem_cons_of_mem _ (h2 z q c hc)
theorem dfs_only {f : Option Nat → List Nat} {n : Nat} (hc : ∀ k c, c ∈ f k → c < n) : ∀ {st out : List Nat}, Dfs f st out → (∀ x ∈ st, x < n) → ∀ x ∈ out, x < n
  | _, _, .nil, _, _, h => by cases h
  | _, _, .cons (x := x) dd, hs, z, hz => by
    rcases List.mem_cons.mp hz with q | q
    · rw [q]; exact hs x List.mem_cons_self
    · exact dfs_only hc dd (fun y hy => by
        rcases List.mem_append.mp hy with q | q
        · exact hc _ y q
        · exact hs y (List.mem_cons_of_mem _ q)) z q
theorem ah_irr {l : List Nat} (h : Ch bh (some a) l) : ¬ AH bh D a a := fun q => by
  have := q l l h h
  rw [ahd_self] at this
  cases this
theorem dfs_all {f : Option Nat → List Nat} {n : Nat} (hb : ∀ i, i < n → ∀ b, bh i = some b → b < i) (hf : ∀ k c, c ∈ f k ↔ c < n ∧ bh c = k) (hs : ∀ k, (f k).Pairwise fun c d => ltD (D d) (D c) = true) (irr : ∀ i, ltD (D i) (D i) = false) {out : List Nat} (h : Dfs f (f none) out) :
    out.Pairwise (AH bh D) ∧ out.Perm (List.range n) := by
  have pw := dfs_roots (fun k c hc => ((hf k c).mp hc).2) hs irr h
  refine ⟨pw, ?_⟩
  have only := dfs_only (n := n) (fun k c hc => ((hf k c).mp hc).1) h fun x hx => ((hf _ x).mp hx).1
  obtain ⟨h1, h2⟩ := dfs_has h
  have all : ∀ m i, i < m → i < n → i ∈ out := fun m => by
    induction m with
    | zero => intro i hi; omega
    | succ m ih =>
      intro i hi hn
      cases e : bh i with
      | none => exact h1 i ((hf none i).mpr ⟨hn, e⟩)
      | some b => exact h2 b (ih b (by have := hb i hn b e; omega) (by have := hb i hn b e; omega)) i ((hf (some b) i).mpr ⟨hn, e⟩)
  have nd : out.Nodup := by
    refine pw.imp_of_mem fun {x y} hx hy q z => ?_
    subst z
    obtain ⟨l, hl, _⟩ := ch_ex hb (x + 1) x (by omega) (only x hx)
    exact ah_irr hl q
  rw [List.perm_ext_iff_of_nodup nd List.nodup_range]
  exact fun i => ⟨fun hi => List.mem_range.mpr (only i hi), fun hi => all (i + 1) i (by omega) (List.mem_range.mp hi)⟩
end
theorem row_all {bh : Nat → Option Nat} {D : Nat → PySem.PyData} {n : Nat} (hb : ∀ i, i < n → ∀ b, bh i = some b → b < i) (up : (List.range n).Pairwise fun a b => ltD (D a) (D b) = true) (irr : ∀ i, ltD (D i) (D i) = false) :
    (rowR (qsOf bh (List.range n))).Pairwise (AH bh D) ∧ (rowR (qsOf bh (List.range n))).Perm (List.range n) := by
  have w := wf_range hb
  have e : ∀ k, rk (qsOf bh (List.range n)) k = (kids bh (List.range n) k).reverse := fun k => kids_rk bh (List.range n) k
  refine dfs_all (f := rk (qsOf bh (List.range n))) hb (fun k c => ?_) (fun k => ?_) irr (dfs_row w)
  · rw [e, List.mem_reverse]
    unfold kids
    rw [List.mem_filter, List.mem_range]
    simp
  · rw [e, List.pairwise_reverse]
    exact up.filter _
end Rga
set_option maxHeartbeats 40000000
namespace My
open PySem L2 PyProof.Rows
def top (i : Nat) : Stmt := PySem.Challenge.pw_pagefolk_k12_rows_in_order.main.body.getD i (.Pass ⟨0, 0, 0, 0⟩)
abbrev s_fkey_of_place : Stmt := top 1
abbrev s_ffollowers_of : Stmt := top 2
abbrev s_fordered : Stmt := top 3
abbrev s_f_law_begun : Stmt := top 5
abbrev s_f_law_draw : Stmt := top 6
abbrev s_f_law_name : Stmt := top 7
abbrev s_f_law_key : Stmt := top 8
abbrev s_f_law_places : Stmt := top 9
abbrev s_f_law_chain : Stmt := top 10
abbrev s_f_law_going : Stmt := top 11
abbrev s_f_law_exchanged : Stmt := top 12
abbrev s_f_law_row : Stmt := top 13
abbrev s_f_law_are_names : Stmt := top 14
abbrev s_flaw : Stmt := top 15
structure Adr where
  fkey_of_place : Addr
  fkey_of_placed : FuncData
  ffollowers_of : Addr
  ffollowers_ofd : FuncData
  fordered : Addr
  forderedd : FuncData
  f_law_begun : Addr
  f_law_begund : FuncData
  f_law_draw : Addr
  f_law_drawd : FuncData
  f_law_name : Addr
  f_law_named : FuncData
  f_law_key : Addr
  f_law_keyd : FuncData
  f_law_places : Addr
  f_law_placesd : FuncData
  f_law_chain : Addr
  f_law_chaind : FuncData
  f_law_going : Addr
  f_law_goingd : FuncData
  f_law_goingc : Addr
  f_law_exchanged : Addr
  f_law_exchangedd : FuncData
  f_law_row : Addr
  f_law_rowd : FuncData
  f_law_are_names : Addr
  f_law_are_namesd : FuncData
  flaw : Addr
  flawd : FuncData
structure Txt (K : PySem.W.Frag) (mg : Str → Option Value) (d : Adr) (tk : Str → Tok) : Prop where
  b_isinstance : mg "isinstance" = none
  b_len : mg "len" = none
  b_list : mg "list" = none
  b_max : mg "max" = none
  b_min : mg "min" = none
  b_range : mg "range" = none
  b_sorted : mg "sorted" = none
  b_tuple : mg "tuple" = none
  b_zip : mg "zip" = none
  F_fkey_of_place : Fun K "key_of_place" "key_of_place" s_fkey_of_place d.fkey_of_place d.fkey_of_placed
  m_fkey_of_place : mg "key_of_place" = some (.ref d.fkey_of_place)
  k_fkey_of_place : PySem.W.keepIn K (.ref d.fkey_of_place) = true
  d_fkey_of_place : Binds K d.fkey_of_placed ["place"] []
  F_ffollowers_of : Fun K "followers_of" "followers_of" s_ffollowers_of d.ffollowers_of d.ffollowers_ofd
  m_ffollowers_of : mg "followers_of" = some (.ref d.ffollowers_of)
  k_ffollowers_of : PySem.W.keepIn K (.ref d.ffollowers_of) = true
  d_ffollowers_of : Binds K d.ffollowers_ofd ["places"] []
  F_fordered : Fun K "ordered" "ordered" s_fordered d.fordered d.forderedd
  m_fordered : mg "ordered" = some (.ref d.fordered)
  k_fordered : PySem.W.keepIn K (.ref d.fordered) = true
  d_fordered : Binds K d.forderedd ["places"] []
  F_f_law_begun : Fun K "_law_begun" "_law_begun" s_f_law_begun d.f_law_begun d.f_law_begund
  m_f_law_begun : mg "_law_begun" = some (.ref d.f_law_begun)
  k_f_law_begun : PySem.W.keepIn K (.ref d.f_law_begun) = true
  d_f_law_begun : Binds K d.f_law_begund ["_law_script", "_law_k"] []
  F_f_law_draw : Fun K "_law_draw" "_law_draw" s_f_law_draw d.f_law_draw d.f_law_drawd
  m_f_law_draw : mg "_law_draw" = some (.ref d.f_law_draw)
  k_f_law_draw : PySem.W.keepIn K (.ref d.f_law_draw) = true
  d_f_law_draw : Binds K d.f_law_drawd ["_law_state", "_law_many"] []
  F_f_law_name : Fun K "_law_name" "_law_name" s_f_law_name d.f_law_name d.f_law_named
  m_f_law_name : mg "_law_name" = some (.ref d.f_law_name)
  k_f_law_name : PySem.W.keepIn K (.ref d.f_law_name) = true
  d_f_law_name : Binds K d.f_law_named ["_law_state", "_law_k", "_law_paces"] []
  F_f_law_key : Fun K "_law_key" "_law_key" s_f_law_key d.f_law_key d.f_law_keyd
  m_f_law_key : mg "_law_key" = some (.ref d.f_law_key)
  k_f_law_key : PySem.W.keepIn K (.ref d.f_law_key) = true
  d_f_law_key : Binds K d.f_law_keyd ["_law_state", "_law_last", "_law_many"] []
  F_f_law_places : Fun K "_law_places" "_law_places" s_f_law_places d.f_law_places d.f_law_placesd
  m_f_law_places : mg "_law_places" = some (.ref d.f_law_places)
  k_f_law_places : PySem.W.keepIn K (.ref d.f_law_places) = true
  d_f_law_places : Binds K d.f_law_placesd ["_law_script"] []
  F_f_law_chain : Fun K "_law_chain" "_law_chain" s_f_law_chain d.f_law_chain d.f_law_chaind
  m_f_law_chain : mg "_law_chain" = some (.ref d.f_law_chain)
  k_f_law_chain : PySem.W.keepIn K (.ref d.f_law_chain) = true
  d_f_law_chain : Binds K d.f_law_chaind ["_law_state", "_law_places_here", "_law_due"] []
  F_f_law_going : Fun K "_law_going" "_law_going" s_f_law_going d.f_law_going d.f_law_goingd
  m_f_law_going : mg "_law_going" = some (.ref d.f_law_going)
  k_f_law_going : PySem.W.keepIn K (.ref d.f_law_going) = true
  d_f_law_going : Binds K d.f_law_goingd ["_law_places_here"] []
  LE_f_law_going : d.f_law_goingd.code = .ref d.f_law_goingc
  LC_f_law_going : PySem.W.codeHdIn K d.f_law_goingc (tabP K "_law_going") = true
  F_f_law_exchanged : Fun K "_law_exchanged" "_law_exchanged" s_f_law_exchanged d.f_law_exchanged d.f_law_exchangedd
  m_f_law_exchanged : mg "_law_exchanged" = some (.ref d.f_law_exchanged)
  k_f_law_exchanged : PySem.W.keepIn K (.ref d.f_law_exchanged) = true
  d_f_law_exchanged : Binds K d.f_law_exchangedd ["_law_state", "_law_places_here"] []
  F_f_law_row : Fun K "_law_row" "_law_row" s_f_law_row d.f_law_row d.f_law_rowd
  m_f_law_row : mg "_law_row" = some (.ref d.f_law_row)
  k_f_law_row : PySem.W.keepIn K (.ref d.f_law_row) = true
  d_f_law_row : Binds K d.f_law_rowd ["_law_script"] []
  F_f_law_are_names : Fun K "_law_are_names" "_law_are_names" s_f_law_are_names d.f_law_are_names d.f_law_are_namesd
  m_f_law_are_names : mg "_law_are_names" = some (.ref d.f_law_are_names)
  k_f_law_are_names : PySem.W.keepIn K (.ref d.f_law_are_names) = true
  d_f_law_are_names : Binds K d.f_law_are_namesd ["_law_found", "_law_due"] []
  F_flaw : Fun K "law" "law" s_flaw d.flaw d.flawd
  m_flaw : mg "law" = some (.ref d.flaw)
  k_flaw : PySem.W.keepIn K (.ref d.flaw) = true
  d_flaw : Binds K d.flawd ["_law_script"] []
theorem szOk {n : Nat} (h : Nat.ble n 1000 = true) : n ≤ sizeLine := Nat.le_of_lt (small1000 (Nat.le_of_ble_eq_true h))
theorem big {n : Nat} (h : n ≤ 1000) : n ≤ sizeLine := Nat.le_of_lt (small1000 h)
theorem itT {c : Bool} {A B : Prop} (h : c = true) (a : A) : if c = true then A else B := by rw [if_pos h]; exact a
theorem itF {c : Bool} {A B : Prop} (h : c = false) (b : B) : if c = true then A else B := by rw [if_neg (by rw [h]; decide)]; exact b
def SR (H : Hp) (p : Addr) (n : Nat) : Prop := ∃ (a : Int) (b : Bool) (c e : Int), H p = some (.lst [.int a, .bl b, .int c, .int e]) ∧ 0 ≤ c ∧ c ≤ 2000 + n
theorem SR.same {H H' : Hp} {p : Addr} {n : Nat} (r : SR H p n) (s : Same H H') : SR H' p n := by
  obtain ⟨a, b, c, e, h, q⟩ := r
  exact ⟨a, b, c, e, s _ _ h, q⟩
theorem SR.some {H : Hp} {p : Addr} {n : Nat} (r : SR H p n) : ∃ u, H p = Option.some u := by
  obtain ⟨a, b, c, e, h, q⟩ := r
  exact ⟨_, h⟩
theorem SR.more {H : Hp} {p : Addr} {n m : Nat} (r : SR H p n) (h : n ≤ m) : SR H p m := by
  obtain ⟨a, b, c, e, h1, h2, h3⟩ := r
  exact ⟨a, b, c, e, h1, h2, by omega⟩
theorem SR.cut {H H' : Hp} {p : Addr} {n : Nat} (r : SR H p n) (s : Same (L2.del H p) H') : Tups H H' := by
  obtain ⟨a, b, c, e, h, _⟩ := r
  exact Tups.cut h s
theorem nkOf_kV (p2 : Nat) (w : Str) (num e : Nat) : (nkOf p2 w num e).map kV = [.str w, .int (num : Int)] ++ (if p2 = 0 then [] else [.int (e : Int)]) := by
  unfold nkOf
  by_cases h : p2 = 0
  · rw [if_pos h, if_pos h]; rfl
  · rw [if_neg h, if_neg h]; rfl
theorem nk_old {TS : List Dr} {t : Dr} {i : Nat} (h : i < TS.length) : nkT TS i = nkT (TS ++ [t]) i := by unfold nkT; rw [ts_old h]
theorem bh_old {TS : List Dr} {t : Dr} {i : Nat} (h : i < TS.length) : bhT TS i = bhT (TS ++ [t]) i := by unfold bhT; rw [ts_old h]
theorem d_old {p2 : Nat} {TS : List Dr} {t : Dr} {i : Nat} (h : i < TS.length) : dT p2 TS i = dT p2 (TS ++ [t]) i := by unfold dT; rw [ts_old h]
theorem kd_old {TS : List Dr} {t : Dr} {k : Option Nat} (h : ∀ i, k = some i → i < TS.length) : kd (nkT TS) k = kd (nkT (TS ++ [t])) k := by
  cases k with
  | none => rfl
  | some i =>
    show KD.tup _ = KD.tup _
    rw [nk_old (h i rfl)]
def sp_f_law_begun (K : PySem.W.Frag) : Sp := fun vs H Q _ => ∃ sp ns, ∃ k : Nat, vs = [.ref sp, .int (k : Int)] ∧ SqL K H sp (List.map V.int ns) ∧ k ≤ 63 ∧ ∀ H' p, Same H H' → H p = none → SR H' p 0 → Q (.ref p) H'
def sp_f_law_draw (_ : PySem.W.Frag) : Sp := fun vs H Q _ => ∃ p, ∃ n k : Nat, vs = [.ref p, .int (k : Int)] ∧ SR H p n ∧ n ≤ 100000 ∧ 0 < k ∧ k ≤ 1000000 ∧ ∀ H', ∀ r : Nat, Same (del H p) H' → SR H' p (n + 1) → r < k → Q (.int (r : Int)) H'
section
variable {K : PySem.W.Frag} {vs : List V} {H : Hp} {Q : VK} {E : XK}
theorem len_f_law_begun (h : sp_f_law_begun K vs H Q E) : vs.length = 2 := by obtain ⟨_, _, _, rfl, _⟩ := h; rfl
theorem len_f_law_draw (h : sp_f_law_draw K vs H Q E) : vs.length = 2 := by obtain ⟨_, _, _, rfl, _⟩ := h; rfl
end
theorem SR.upd {H : Hp} {p q : Addr} {n : Nat} {o : HO} (r : SR H p n) (h : p ≠ q) : SR (L2.upd H q o) p n := by
  obtain ⟨a, b, c, e, h1, h2⟩ := r
  exact ⟨a, b, c, e, by rw [upd_ne h]; exact h1, h2⟩
def sp_fkey_of_place (K : PySem.W.Frag) : Sp := fun vs H Q _ => ∃ v nk bh D k, vs = [v] ∧ PL nk bh D H v k ∧ ∀ kv, DT H kv (D k) → Q kv H
theorem len_fkey_of_place {K : PySem.W.Frag} {vs : List V} {H : Hp} {Q : VK} {E : XK} (h : sp_fkey_of_place K vs H Q E) : vs.length = 1 := by obtain ⟨_, _, _, _, _, rfl, _⟩ := h; rfl
theorem abc_all : ∀ c ∈ ("abcdefghijklmnopqrstuvwxyz" : Str).cps.toList, c ≤ 122 := by decide +kernel
def sp_f_law_name (K : PySem.W.Frag) : Sp := fun vs H Q _ => ∃ p pp, ∃ n k p0 p1 p2 : Nat, vs = [.ref p, .int (k : Int), .ref pp] ∧ SR H p n ∧ n ≤ 90000 ∧ H pp = some (.lst [.int (p0 : Int), .int (p1 : Int), .int (p2 : Int)]) ∧ k ≤ 70 ∧ p0 ≤ 70 ∧ p1 ≤ 70 ∧ ∀ H' q w, ∀ e : Nat, Same (del H p) H' → SR H' p (n + 20) → IsT w → H' q = some (.tup ([.str w, .int ((1 + (p0 + (1 + p1) * k) % 67 : Nat) : Int)] ++ (if p2 = 0 then [] else [.int (e : Int)]))) → Q (.ref q) H'
theorem len_f_law_name {K : PySem.W.Frag} {vs : List V} {H : Hp} {Q : VK} {E : XK} (h : sp_f_law_name K vs H Q E) : vs.length = 3 := by obtain ⟨_, _, _, _, _, _, _, rfl, _⟩ := h; rfl
def sp_f_law_key (K : PySem.W.Frag) : Sp := fun vs H Q _ => ∃ p lq, ∃ n a b c m : Nat, vs = [.ref p, .ref lq, .int (m : Int)] ∧ SR H p n ∧ n ≤ 90000 ∧ H lq = some (.tup [.int (a : Int), .int (b : Int), .int (c : Int)]) ∧ b ≤ 5 ∧ 0 < m ∧ m ≤ 1000000 ∧ ∀ H' q, ∀ a' b' c' : Nat, Same (del H p) H' → SR H' p (n + 4) → Up3 a b c a' b' c' → b' ≤ 5 → c' ≤ c + 12 → H' q = some (.tup [.int (a' : Int), .int (b' : Int), .int (c' : Int)]) → Q (.ref q) H'
theorem len_f_law_key {K : PySem.W.Frag} {vs : List V} {H : Hp} {Q : VK} {E : XK} (h : sp_f_law_key K vs H Q E) : vs.length = 3 := by obtain ⟨_, _, _, _, _, _, _, rfl, _⟩ := h; rfl
def sp_f_law_places (K : PySem.W.Frag) : Sp := fun vs H Q _ => ∃ sp ns, vs = [.ref sp] ∧ SqL K H sp (List.map V.int ns) ∧ ns.length ≤ 63 ∧ ∀ H' q pp dp pv dv TS js p0 p1 p2, Same H H' → H' q = some (.tup [.ref pp, .ref dp]) → H' pp = some (.lst pv) → H' dp = some (.lst dv) → dp ≠ pp → H pp = none → H dp = none → TOk p0 p1 p2 TS → TS.length ≤ 60 → p1 < 66 → AN (PL (nkT TS) (bhT TS) (dT p2 TS) H') pv js → js.Perm (List.range TS.length) → AN (NM (nkT TS) H') dv (Rga.rowR (Rga.qsOf (bhT TS) (List.range TS.length))) → Q (.ref q) H'
theorem len_f_law_places {K : PySem.W.Frag} {vs : List V} {H : Hp} {Q : VK} {E : XK} (h : sp_f_law_places K vs H Q E) : vs.length = 1 := by obtain ⟨_, _, rfl, _⟩ := h; rfl
def kP : Key → PyData
  | .inl i => .int i
  | .inr s => .str s
theorem kP_dts {H : Hp} : ∀ ks : List Key, DTs H (ks.map kV) (ks.map kP)
  | [] => .nil
  | .inl i :: ks => .cons (.int i) (kP_dts ks)
  | .inr s :: ks => .cons (.str s) (kP_dts ks)
def dN (nk : Nat → List Key) (i : Nat) : PyData := .tuple ((nk i).map kP)
theorem NM.dt {nk : Nat → List Key} {H : Hp} {v : V} {i : Nat} (h : NM nk H v i) : DT H v (dN nk i) := by
  obtain ⟨b, rfl, h⟩ := h
  exact .tup h (kP_dts _)
theorem name_keys {p0 p1 p2 : Nat} {TS : List Dr} (ok : TOk p0 p1 p2 TS) {js : List Nat} (hj : ∀ i ∈ js, i < TS.length) : KeysAre (js.map (dN (nkT TS))) 3 := by
  have form : ∀ d ∈ js.map (dN (nkT TS)), ∃ w, ∃ n e : Nat, d = .tuple ((nkOf p2 w n e).map kP) ∧ IsT w := fun d hd => by
    obtain ⟨i, hi, rfl⟩ := List.mem_map.mp hd
    obtain ⟨w, e, h1, h2⟩ := ok.name i (hj i hi)
    exact ⟨w, _, e, by unfold dN; rw [h1], h2⟩
  unfold nkOf at form
  by_cases hp : p2 = 0
  · simp only [if_pos hp] at form
    refine ⟨lays_all fun d hd => ?_, fun d hd => ?_, fun x hx y hy => ?_, fun d hd => ?_⟩
    · obtain ⟨w, n, e, rfl, hw⟩ := form d hd
      show (PyData.strOk w && (true && true)) = true
      rw [isT_ok hw]; rfl
    · obtain ⟨w, n, e, rfl, hw⟩ := form d hd; trivial
    · obtain ⟨w, n, e, rfl, hw⟩ := form x hx
      obtain ⟨w', n', e', rfl, hw'⟩ := form y hy
      rfl
    · obtain ⟨w, n, e, rfl, hw⟩ := form d hd; exact (by decide : 1 ≤ 60)
  · simp only [if_neg hp] at form
    refine ⟨lays_all fun d hd => ?_, fun d hd => ?_, fun x hx y hy => ?_, fun d hd => ?_⟩
    · obtain ⟨w, n, e, rfl, hw⟩ := form d hd
      show (PyData.strOk w && (true && (true && true))) = true
      rw [isT_ok hw]; rfl
    · obtain ⟨w, n, e, rfl, hw⟩ := form d hd; trivial
    · obtain ⟨w, n, e, rfl, hw⟩ := form x hx
      obtain ⟨w', n', e', rfl, hw'⟩ := form y hy
      rfl
    · obtain ⟨w, n, e, rfl, hw⟩ := form d hd; exact (by decide : 1 ≤ 60)
def rkI (p2 a b c : Nat) : List Int := if p2 = 0 then [(a : Int), (b : Int) * 100000 + (c : Int)] else [(a : Int), (b : Int), (c : Int)]
theorem rkI_D (p2 a b c : Nat) : rkD p2 a b c = .tuple ((rkI p2 a b c).map PyData.int) := by
  unfold rkD rkI
  by_cases h : p2 = 0
  · rw [if_pos h, if_pos h]; rfl
  · rw [if_neg h, if_neg h]; rfl
theorem rkI_two (p2 a b c : Nat) : ∃ x y r, rkI p2 a b c = x :: y :: r := by
  unfold rkI
  by_cases h : p2 = 0
  · rw [if_pos h]; exact ⟨_, _, _, rfl⟩
  · rw [if_neg h]; exact ⟨_, _, _, rfl⟩
def iT (p2 : Nat) (TS : List Dr) (i : Nat) : List Int := rkI p2 (TS.getD i d0).2.2.1 (TS.getD i d0).2.2.2.1 (TS.getD i d0).2.2.2.2
theorem iT_D (p2 : Nat) (TS : List Dr) (i : Nat) : dT p2 TS i = .tuple ((iT p2 TS i).map PyData.int) := rkI_D _ _ _ _
theorem dts_get {H : Hp} : ∀ {vs : List V} {ds : List PyData} {m : Nat} {v : V} {d : PyData}, DTs H vs ds → vs[m]? = some v → ds[m]? = some d → DT H v d
  | _, _, 0, _, _, .cons a _, e1, e2 => by cases e1; cases e2; exact a
  | _, _, m + 1, _, _, .cons _ b, e1, e2 => dts_get (m := m) b (by simpa using e1) (by simpa using e2)
theorem dts_snoc {H : Hp} {x : V} {d : PyData} (h : DT H x d) : ∀ {xs : List V} {ds : List PyData}, DTs H xs ds → DTs H (xs ++ [x]) (ds ++ [d])
  | _, _, .nil => .cons h .nil
  | _, _, .cons a t => .cons a (dts_snoc h t)
theorem dts_ints {H : Hp} : ∀ {ns : List Int} {xs : List V}, DTs H xs (ns.map PyData.int) → xs = ns.map V.int
  | [], _, .nil => rfl
  | _ :: _, _, .cons (.int i) t => by rw [dts_ints t]; rfl
theorem cut_drop {pv : List V} {r : Nat} (h : r ≤ pv.length) : cutV pv (some (r : Int)) none = pv.drop r := by
  unfold cutV
  rw [HT.sIx_nat, HT.sIx_none, Nat.min_eq_left h]
  exact List.take_of_length_le (by rw [List.length_drop]; exact Nat.le_refl _)
structure NW (nk : Nat → List Key) (ms : List Nat) : Prop where
  keys : KeysAre (ms.map (dN nk)) 3
  inj : ∀ i ∈ ms, ∀ j ∈ ms, nk i = nk j → i = j
theorem kP_inj : ∀ {a b : List Key}, a.map kP = b.map kP → a = b
  | [], [], _ => rfl
  | [], _ :: _, h => by cases h
  | _ :: _, [], h => by cases h
  | x :: a, y :: b, h => by
    have h1 : kP x = kP y := (List.cons.inj h).1
    have e : x = y := by
      cases x <;> cases y
      · unfold kP at h1; rw [PyData.int.inj h1]
      · cases h1
      · cases h1
      · unfold kP at h1; rw [PyData.str.inj h1]
    rw [e, kP_inj (List.cons.inj h).2]
section
variable {nk : Nat → List Key} {ms : List Nat} {i j : Nat}
theorem NW.eqv (N : NW nk ms) (hi : i ∈ ms) (hj : j ∈ ms) : PyData.eqv (dN nk i) (dN nk j) = decide (i = j) := by
  have s := sk_eq _ _ (N.keys.one _ (List.mem_map.mpr ⟨i, hi, rfl⟩) _ (List.mem_map.mpr ⟨j, hj, rfl⟩))
  by_cases e : i = j
  · rw [decide_eq_true e]
    exact s.mpr (by rw [e])
  · rw [decide_eq_false e]
    cases q : PyData.eqv (dN nk i) (dN nk j) with
    | false => rfl
    | true =>
      have z := s.mp q
      unfold dN at z
      injection z with z
      exact absurd (N.inj i hi j hj (kP_inj z)) e
theorem NW.lay (N : NW nk ms) (hi : i ∈ ms) : (dN nk i).canLay0 = true := lay_of N.keys.lay (List.mem_map.mpr ⟨i, hi, rfl⟩)
theorem NW.deep (N : NW nk ms) (hi : i ∈ ms) : (dN nk i).depth ≤ 60 := N.keys.deep _ (List.mem_map.mpr ⟨i, hi, rfl⟩)
theorem NW.sub {ls : List Nat} (N : NW nk ms) (h : ∀ i ∈ ls, i ∈ ms) : NW nk ls :=
  ⟨N.keys.sub fun x hx => by
    obtain ⟨i, hi, rfl⟩ := List.mem_map.mp hx
    exact List.mem_map.mpr ⟨i, h i hi, rfl⟩, fun i hi j hj => N.inj i (h i hi) j (h j hj)⟩
end
abbrev lamQ : Str := (("_law_going" : Str) ++ ".<locals>.") ++ "<lambda>"
abbrev TBL (K : PySem.W.Frag) (H : Hp) : Prop := Tb 81 79 lamQ (tabP K "_law_going") H
theorem big2 {n : Nat} (h : n ≤ 2000) : n ≤ sizeLine := Nat.le_of_lt (small2000 h)
structure RowOk (nk : Nat → List Key) (bh : Nat → Option Nat) (D : Nat → PyData) (row : List Nat) (N : Nat) : Prop where
  names : NW nk (List.range N)
  back : ∀ i, i < N → ∀ b, bh i = some b → b < i
  nums : ∀ i, IntT (D i)
  perm : row.Perm (List.range N)
  up : row.Pairwise (Rga.AH bh D)
  few : N ≤ 1600
  dist : ∀ i, i < N → ∀ j, j < N → D i = D j → i = j
  rk : ∀ i, RkD (D i)
def bhD (nk : Nat → List Key) : Option Nat → PyData
  | none => .none
  | some b => dN nk b
def plD (nk : Nat → List Key) (bh : Nat → Option Nat) (D : Nat → PyData) (i : Nat) : PyData := .tuple [dN nk i, bhD nk (bh i), D i]
theorem bh_dt {nk : Nat → List Key} {H : Hp} {v : V} : ∀ {o : Option Nat}, GK H (kd nk o) v → DT H v (bhD nk o)
  | none, h => by
    have z : v = .non := h
    subst z
    exact .non
  | some b, h => NM.dt h
theorem PL.dt {nk : Nat → List Key} {bh : Nat → Option Nat} {D : Nat → PyData} {H : Hp} {v : V} {k : Nat} (h : PL nk bh D H v k) : DT H v (plD nk bh D k) := by
  obtain ⟨b, vn, vb, vk, rfl, h1, h2, h3, h4⟩ := h
  exact .tup h1 (.cons (NM.dt h2) (.cons (bh_dt h3) (.cons h4 .nil)))
section
variable {nk : Nat → List Key} {bh : Nat → Option Nat} {D : Nat → PyData} {row : List Nat} {N : Nat}
theorem RowOk.ch (R : RowOk nk bh D row N) {i : Nat} (hi : i < N) : ∃ l, Rga.Ch bh (some i) l ∧ l.length ≤ 1600 ∧ ∀ j ∈ l, j < N := by
  obtain ⟨l, h1, h2⟩ := Rga.ch_ex R.back (i + 1) i (by omega) hi
  have := R.few
  refine ⟨l, h1, by omega, fun j hj => List.mem_range.mp (Rga.ch_in (ms := List.range N) (fun k hk b hb => ?_) h1 (fun m hm => by cases hm; exact List.mem_range.mpr hi) j hj)⟩
  have hk := List.mem_range.mp hk
  exact List.mem_range.mpr (by have := R.back k hk b hb; omega)
theorem ints_asym (h : ∀ i, IntT (D i)) (i j : Nat) (q : ltD (D i) (D j) = true) : ltD (D j) (D i) = false := by
  cases e : ltD (D j) (D i) with
  | false => rfl
  | true =>
    obtain ⟨n1, e1⟩ := h i
    obtain ⟨n2, e2⟩ := h j
    have s12 : sk (D i) (D j) = true := by rw [e1, e2, sk]; exact ints_sk _ _
    have s21 : sk (D j) (D i) = true := by rw [e1, e2, sk]; exact ints_sk _ _
    have s11 : sk (D i) (D i) = true := by rw [e1, sk]; exact ints_sk _ _
    have := ltD_tr _ _ _ s12 s21 s11 q e
    rw [ltD_irr] at this
    cases this
theorem plD_ok (R : RowOk nk bh D row N) {i : Nat} (hi : i < N) : (plD nk bh D i).canLay0 = true ∧ (plD nk bh D i).depth ≤ 61 ∧ PyData.eqv (plD nk bh D i) (plD nk bh D i) = true := by
  have mi := List.mem_range.mpr hi
  obtain ⟨ns, e⟩ := R.nums i
  have hb : (bhD nk (bh i)).canLay0 = true ∧ (bhD nk (bh i)).depth ≤ 60 ∧ PyData.eqv (bhD nk (bh i)) (bhD nk (bh i)) = true := by
    cases q : bh i with
    | none => exact ⟨rfl, Nat.zero_le _, rfl⟩
    | some b =>
      have mb := List.mem_range.mpr (Nat.lt_trans (R.back i hi b q) hi)
      exact ⟨R.names.lay mb, R.names.deep mb, by show PyData.eqv (dN nk b) (dN nk b) = true; rw [R.names.eqv mb mb]; exact decide_eq_true rfl⟩
  have hD : (D i).canLay0 = true ∧ (D i).depth ≤ 60 ∧ PyData.eqv (D i) (D i) = true := by
    rw [e]
    refine ⟨ints_lay _, ?_, (sk_eq _ _ (by rw [sk]; exact ints_sk _ _)).mpr rfl⟩
    show PyData.depthAll (ns.map PyData.int) + 1 ≤ 60
    rw [ints_deep]
    decide
  unfold plD
  refine ⟨?_, ?_, ?_⟩
  · show ((dN nk i).canLay0 && ((bhD nk (bh i)).canLay0 && ((D i).canLay0 && true))) = true
    rw [R.names.lay mi, hb.1, hD.1]; rfl
  · show max (dN nk i).depth (max (bhD nk (bh i)).depth (max (D i).depth 0)) + 1 ≤ 61
    have := R.names.deep mi
    have := hb.2.1
    have := hD.2.1
    omega
  · show (PyData.eqv (dN nk i) (dN nk i) && (PyData.eqv (bhD nk (bh i)) (bhD nk (bh i)) && (PyData.eqv (D i) (D i) && true))) = true
    rw [R.names.eqv mi mi, hb.2.2, hD.2.2, decide_eq_true rfl]; rfl
theorem eqs_self : ∀ {ds : List PyData}, (∀ d ∈ ds, PyData.eqv d d = true) → PyData.eqvAll ds ds = true
  | [], _ => rfl
  | d :: ds, h => by
    show (PyData.eqv d d && PyData.eqvAll ds ds) = true
    rw [h d List.mem_cons_self, eqs_self fun x hx => h x (List.mem_cons_of_mem _ hx)]; rfl
theorem deeps_le {m : Nat} : ∀ {ds : List PyData}, (∀ d ∈ ds, d.depth ≤ m) → PyData.depthAll ds ≤ m
  | [], _ => Nat.zero_le _
  | d :: ds, h => by
    show max d.depth (PyData.depthAll ds) ≤ m
    have := h d List.mem_cons_self
    have := deeps_le fun x hx => h x (List.mem_cons_of_mem _ hx)
    omega
end
def sp_f_law_are_names (K : PySem.W.Frag) : Sp := fun vs H Q _ => ∃ p q pv qv nk N l, vs = [.ref p, .ref q] ∧ H p = some (.lst pv) ∧ H q = some (.lst qv) ∧ AN (NM nk H) pv l ∧ AN (NM nk H) qv l ∧ NW nk (List.range N) ∧ (∀ i ∈ l, i < N) ∧ l.length ≤ 1600 ∧ ∀ H', Same H H' → Q (.bl true) H'
theorem len_f_law_are_names {K : PySem.W.Frag} {vs : List V} {H : Hp} {Q : VK} {E : XK} (h : sp_f_law_are_names K vs H Q E) : vs.length = 2 := by obtain ⟨_, _, _, _, _, _, _, rfl, _⟩ := h; rfl
def sp_f_law_going (K : PySem.W.Frag) : Sp := fun vs H Q _ => ∃ p pv nk bh D js N, vs = [.ref p] ∧ H p = some (.lst pv) ∧ AN (PL nk bh D H) pv js ∧ js.Perm (List.range N) ∧ N < 64 ∧ NW nk (List.range N) ∧ (∀ i, i < N → ∀ b, bh i = some b → b < i) ∧ KeysAre (js.map D) 2 ∧ (∀ i, i < N → ∀ j, j < N → D i = D j → i = j) ∧ TBL K H ∧
  ∀ H' q qv row, Same (del H (tabP K "_law_going")) H' → H' q = some (.lst qv) → AN (NM nk H') qv row → row.Pairwise (Rga.AH bh D) → row.Perm (List.range N) → Q (.ref q) H'
theorem len_f_law_going {K : PySem.W.Frag} {vs : List V} {H : Hp} {Q : VK} {E : XK} (h : sp_f_law_going K vs H Q E) : vs.length = 1 := by obtain ⟨_, _, _, _, _, _, _, rfl, _⟩ := h; rfl
def sp_f_law_exchanged (K : PySem.W.Frag) : Sp := fun vs H Q _ => ∃ st p pv nk bh D js, ∃ n : Nat, vs = [.ref st, .ref p] ∧ del H st p = some (.lst pv) ∧ AN (PL nk bh D H) pv js ∧ js.Nodup ∧ js.length ≤ 63 ∧ SR H st n ∧ n ≤ 50000 ∧
  ∀ H' q qv, ∀ π : Nat → Nat, Same (del H st) H' → SR H' st (n + 64) → H' q = some (.lst qv) → AN (PL nk bh (fun i => D (π i)) H') qv js → (∀ i ∈ js, π i ∈ js) → (∀ i ∈ js, ∀ j ∈ js, π i = π j → i = j) → Q (.ref q) H'
theorem len_f_law_exchanged {K : PySem.W.Frag} {vs : List V} {H : Hp} {Q : VK} {E : XK} (h : sp_f_law_exchanged K vs H Q E) : vs.length = 2 := by obtain ⟨_, _, _, _, _, _, _, _, rfl, _⟩ := h; rfl
def sp_f_law_chain (K : PySem.W.Frag) : Sp := fun vs H Q _ => ∃ st pp dp pv dv p0 p1 p2 TS js, ∃ n : Nat, vs = [.ref st, .ref pp, .ref dp] ∧ del H st pp = some (.lst pv) ∧ del H st dp = some (.lst dv) ∧ dp ≠ pp ∧ TOk p0 p1 p2 TS ∧ TS.length ≤ 60 ∧ p1 < 66 ∧ AN (PL (nkT TS) (bhT TS) (dT p2 TS) H) pv js ∧ js.Perm (List.range TS.length) ∧
  AN (NM (nkT TS) H) dv (Rga.rowR (Rga.qsOf (bhT TS) (List.range TS.length))) ∧ SR H st n ∧ n ≤ 50000 ∧
  ∀ H' pv' dv' nk bh D N js', Same (del (del (del H st) pp) dp) H' → H' pp = some (.lst pv') → H' dp = some (.lst dv') → AN (PL nk bh D H') pv' js' → js'.Perm (List.range N) → AN (NM nk H') dv' (Rga.rowR (Rga.qsOf bh (List.range N))) → RowOk nk bh D (Rga.rowR (Rga.qsOf bh (List.range N))) N → Q .non H'
theorem len_f_law_chain {K : PySem.W.Frag} {vs : List V} {H : Hp} {Q : VK} {E : XK} (h : sp_f_law_chain K vs H Q E) : vs.length = 3 := by obtain ⟨_, _, _, _, _, _, _, _, _, _, _, rfl, _⟩ := h; rfl
def sp_f_law_row (K : PySem.W.Frag) : Sp := fun vs H Q _ => ∃ sp ns, vs = [.ref sp] ∧ SqL K H sp (List.map V.int ns) ∧ ns.length ≤ 63 ∧ TBL K H ∧
  ∀ H' q pp dp pv dv nk bh D N js row, Same (del H (tabP K "_law_going")) H' → H' q = some (.tup [.ref pp, .ref dp]) → H' pp = some (.lst pv) → H' dp = some (.lst dv) → AN (PL nk bh D H') pv js → js.Perm (List.range N) → AN (NM nk H') dv row → RowOk nk bh D row N → Q (.ref q) H'
theorem len_f_law_row {K : PySem.W.Frag} {vs : List V} {H : Hp} {Q : VK} {E : XK} (h : sp_f_law_row K vs H Q E) : vs.length = 1 := by obtain ⟨_, _, rfl, _⟩ := h; rfl
def sp_flaw (K : PySem.W.Frag) : Sp := fun vs H Q _ => ∃ sp ns, vs = [.ref sp] ∧ SqL K H sp (List.map V.int ns) ∧ ns.length ≤ 63 ∧ H (tabP K "_law_going") = some (.tbl #[]) ∧ ∀ H', Q (.bl true) H'
theorem len_flaw {K : PySem.W.Frag} {vs : List V} {H : Hp} {Q : VK} {E : XK} (h : sp_flaw K vs H Q E) : vs.length = 1 := by obtain ⟨_, _, rfl, _⟩ := h; rfl
theorem law_spec : ∀ (K : PySem.W.Frag) (H : Hp) (a : Addr) (ns : List Int), ns.length ≤ 63 → H (tabP K "_law_going") = some (.tbl #[]) → SqL K H a (ns.map V.int) → sp_flaw K [.ref a] H (fun v _ => v = .bl true) fun _ _ _ => False :=
  fun K H a ns h1 h2 h3 => ⟨a, ns, rfl, h3, h1, h2, fun _ => rfl⟩
theorem sort_nd {D : Nat → PyData} {js ix : List Nat} (h : SortIx (js.map D) ix) : (ix.map fun i => js.getD i 0).Perm js ∧ (ix.map fun i => js.getD i 0).Pairwise fun a b => ltD (D b) (D a) = false := by
  have p1 : ix.Perm (List.range js.length) := by have := h.1; rwa [List.length_map] at this
  refine ⟨perm_ix p1, ?_⟩
  have h2 := h.2
  rw [List.pairwise_map] at h2 ⊢
  refine h2.imp_of_mem fun {a b} ha hb hab => ?_
  have ka : ∀ i, i ∈ ix → keyAt (js.map D) i = D (js.getD i 0) := fun i hi => by
    have : i < js.length := List.mem_range.mp (p1.mem_iff.mp hi)
    unfold keyAt
    rw [List.getD_eq_getElem?_getD, List.getElem?_map, List.getD_eq_getElem?_getD, List.getElem?_eq_getElem this]
    rfl
  rw [ka a ha, ka b hb] at hab
  exact hab
def INN (nk : Nat → List Key) (bh : Nat → Option Nat) (N : Nat) (ms : List Nat) (ip : Addr) (H : Hp) (kvs : List (KD × V × V)) : Prop := ∀ k : Option Nat, (∀ i, k = some i → i < N) → (vG kvs (kd nk k) = none ∧ kids bh ms k = []) ∨ ∃ q vs, vG kvs (kd nk k) = some (.ref q) ∧ H q = some (.lst vs) ∧ q ≠ ip ∧ AN (NM nk H) vs (kids bh ms k).reverse
theorem INN.get {nk : Nat → List Key} {bh : Nat → Option Nat} {N : Nat} {ms : List Nat} {ip z : Addr} {H : Hp} {kvs : List (KD × V × V)} (h : INN nk bh N ms ip H kvs) (ez : H z = some (.lst [])) (k : Option Nat) (hk : ∀ i, k = some i → i < N) : ∃ a vs, (vG kvs (kd nk k)).getD (.ref z) = .ref a ∧ H a = some (.lst vs) ∧ AN (NM nk H) vs (kids bh ms k).reverse := by
  rcases h k hk with ⟨h1, h2⟩ | ⟨q, vs, h1, h2, _, h3⟩
  · exact ⟨z, [], by rw [h1]; rfl, ez, by rw [h2]; exact .nil⟩
  · exact ⟨q, vs, by rw [h1]; rfl, h2, h3⟩
theorem INN.same {nk : Nat → List Key} {bh : Nat → Option Nat} {N : Nat} {ms : List Nat} {ip : Addr} {H H' : Hp} {kvs : List (KD × V × V)} (h : INN nk bh N ms ip H kvs) (s : Same H H') : INN nk bh N ms ip H' kvs := fun k hk => by
  rcases h k hk with z | ⟨q, vs, h1, h2, h4, h3⟩
  · exact .inl z
  · exact .inr ⟨q, vs, h1, s _ _ h2, h4, h3.imp fun v i g => g.tups s.tups⟩
theorem AN.setP {P : V → Nat → Prop} {vs : List V} {js : List Nat} (h : AN P vs js) (k : Nat) {v : V} {i : Nat} (hv : P v i) : AN P (vs.set k v) (js.set k i) := by
  refine ⟨by rw [List.length_set, List.length_set, h.1], fun m u j e1 e2 => ?_⟩
  rw [List.getElem?_set] at e1 e2
  by_cases hk : k = m
  · rw [if_pos hk] at e1 e2
    split at e1
    · rw [if_pos (by rw [← h.1]; assumption)] at e2
      cases e1
      cases e2
      exact hv
    · cases e1
  · rw [if_neg hk] at e1 e2
    exact h.2 m u j e1 e2
theorem pi_ex : ∀ {js rs : List Nat}, js.Nodup → js.length = rs.length → ∃ π : Nat → Nat, ∀ (m i : Nat), js[m]? = some i → rs[m]? = some (π i)
  | [], _, _, _ => ⟨fun i => i, fun m i e => by simp at e⟩
  | _ :: _, [], _, h => absurd h (by simp)
  | a :: js, b :: rs, nd, h => by
    obtain ⟨n1, n2⟩ := List.nodup_cons.mp nd
    obtain ⟨π, hπ⟩ := pi_ex n2 (by simpa using h)
    refine ⟨fun i => if i = a then b else π i, fun m i e => ?_⟩
    cases m with
    | zero =>
      have : a = i := by simpa using e
      subst this
      show some b = some (if a = a then b else π a)
      rw [if_pos rfl]
    | succ m =>
      have e' : js[m]? = some i := by simpa using e
      have hia : i ≠ a := fun z => n1 (z ▸ List.mem_of_getElem? e')
      show rs[m]? = some (if i = a then b else π i)
      rw [if_neg hia]
      exact hπ m i e'
def cK (mk : List Key) (k : Nat) : List Key := [.inr "deep", .inl ((1000 + k : Nat) : Int)] ++ mk
def nkC (TS : List Dr) (mk : List Key) (i : Nat) : List Key := if i < TS.length then nkT TS i else cK mk (i - TS.length)
def DC (p2 : Nat) (TS : List Dr) (hi : Int) (i : Nat) : PyData := if i < TS.length then dT p2 TS i else .tuple [.int (hi + 1 + ((i - TS.length : Nat) : Int)), .int 0, .int 0]
def bhC (TS : List Dr) (CB : List (Option Nat)) (i : Nat) : Option Nat := if i < TS.length then bhT TS i else CB.getD (i - TS.length) none
section
variable {p0 p1 p2 : Nat} {TS : List Dr} {mk : List Key} {hi : Int} {CB : List (Option Nat)}
theorem nkC_old {i : Nat} (h : i < TS.length) : nkT TS i = nkC TS mk i := (if_pos h).symm
theorem DC_old {i : Nat} (h : i < TS.length) : dT p2 TS i = DC p2 TS hi i := (if_pos h).symm
theorem bhC_old {i : Nat} (h : i < TS.length) : bhT TS i = bhC TS CB i := (if_pos h).symm
theorem nkC_new (k : Nat) : nkC TS mk (TS.length + k) = cK mk k := by
  unfold nkC
  rw [if_neg (by omega)]
  congr 1
  omega
theorem DC_new (k : Nat) : DC p2 TS hi (TS.length + k) = .tuple [.int (hi + 1 + (k : Int)), .int 0, .int 0] := by
  unfold DC
  rw [if_neg (by omega), show TS.length + k - TS.length = k by omega]
theorem bhC_new (k : Nat) : bhC TS CB (TS.length + k) = CB.getD k none := by
  unfold bhC
  rw [if_neg (by omega)]
  congr 1
  omega
theorem bhC_more {x : Option Nat} {i : Nat} (h : i < TS.length + CB.length) : bhC TS CB i = bhC TS (CB ++ [x]) i := by
  unfold bhC
  by_cases z : i < TS.length
  · rw [if_pos z, if_pos z]
  · rw [if_neg z, if_neg z, List.getD_eq_getElem?_getD, List.getD_eq_getElem?_getD, List.getElem?_append_left (by omega)]
theorem bhC_back (ok : TOk p0 p1 p2 TS) (hCB : ∀ m, m < CB.length → ∀ b, CB.getD m none = some b → b < TS.length + m) : ∀ i, i < TS.length + CB.length → ∀ b, bhC TS CB i = some b → b < i := fun i hi b e => by
  unfold bhC at e
  by_cases z : i < TS.length
  · rw [if_pos z] at e
    exact ok.back i z b e
  · rw [if_neg z] at e
    have := hCB (i - TS.length) (by omega) b e
    omega
theorem DC_up (ok : TOk p0 p1 p2 TS) (hl : TS.length ≤ 60) (hp : p1 < 66) (hhi : ∀ i, i < TS.length → ∃ x y r, iT p2 TS i = x :: y :: r ∧ x ≤ hi) {a b : Nat} (h : a < b) : ltD (DC p2 TS hi a) (DC p2 TS hi b) = true := by
  have W := (ok.plw hl hp).up
  unfold DC
  by_cases hb : b < TS.length
  · rw [if_pos hb, if_pos (by omega)]
    have := List.pairwise_iff_getElem.mp W a b (by rw [List.length_range]; omega) (by rw [List.length_range]; omega) h
    rw [List.getElem_range, List.getElem_range] at this
    exact this
  · rw [if_neg hb]
    by_cases ha : a < TS.length
    · rw [if_pos ha, iT_D]
      obtain ⟨x, y, r, e, hx⟩ := hhi a ha
      rw [e, ltD]
      exact ltD_int2 (by omega)
    · rw [if_neg ha, ltD]
      exact ltD_int2 (by omega)
theorem DC_int (i : Nat) : IntT (DC p2 TS hi i) := by
  unfold DC
  by_cases h : i < TS.length
  · rw [if_pos h]; exact ⟨_, iT_D p2 TS i⟩
  · rw [if_neg h]; exact ⟨[hi + 1 + ((i - TS.length : Nat) : Int), 0, 0], rfl⟩
theorem nkC_names (ok : TOk p0 p1 p2 TS) (hl : TS.length ≤ 60) (hp : p1 < 66) (hmk : mk = [] ∨ mk = [.inl 0]) (N : Nat) : NW (nkC TS mk) (List.range N) := by
  have form : ∀ d ∈ (List.range N).map (dN (nkC TS mk)), ∃ (w : Str) (n : Int), IsT w ∧ (d = .tuple [.str w, .int n] ∨ ∃ e : Int, d = .tuple [.str w, .int n, .int e]) := fun d hd => by
    obtain ⟨i, hi, rfl⟩ := List.mem_map.mp hd
    unfold dN nkC
    by_cases h : i < TS.length
    · obtain ⟨w, e, h1, h2⟩ := ok.name i h
      rw [if_pos h, h1]
      refine ⟨w, ((L2.numOf p0 p1 i : Nat) : Int), h2, ?_⟩
      unfold nkOf
      by_cases z : p2 = 0
      · rw [if_pos z]; exact .inl rfl
      · rw [if_neg z]; exact .inr ⟨_, rfl⟩
    · rw [if_neg h]
      refine ⟨"deep", ((1000 + (i - TS.length) : Nat) : Int), by show ∀ c ∈ (("deep" : Str)).cps.toList, c ≤ 122; decide +kernel, ?_⟩
      rcases hmk with rfl | rfl
      · exact .inl rfl
      · exact .inr ⟨_, rfl⟩
  refine ⟨⟨lays_all fun d hd => ?_, fun d hd => ?_, fun x hx y hy => ?_, fun d hd => ?_⟩, fun i hi j hj e => ?_⟩
  · obtain ⟨w, n, hw, rfl | ⟨e, rfl⟩⟩ := form d hd
    · show (PyData.strOk w && (true && true)) = true
      rw [isT_ok hw]; rfl
    · show (PyData.strOk w && (true && (true && true))) = true
      rw [isT_ok hw]; rfl
  · obtain ⟨w, n, hw, rfl | ⟨e, rfl⟩⟩ := form d hd <;> trivial
  · obtain ⟨w, n, hw, rfl | ⟨e, rfl⟩⟩ := form x hx <;> obtain ⟨w', n', hw', rfl | ⟨e', rfl⟩⟩ := form y hy <;> rfl
  · obtain ⟨w, n, hw, rfl | ⟨e, rfl⟩⟩ := form d hd
    · exact (by decide : 1 ≤ 60)
    · exact (by decide : 1 ≤ 60)
  · have no : ∀ a k, a < TS.length → nkT TS a ≠ cK mk k := fun a k ha z => by
      obtain ⟨w, e', h1, _⟩ := ok.name a ha
      rw [h1] at z
      unfold nkOf L2.numOf cK at z
      injection z with _ z
      injection z with z _
      injection z with z
      omega
    unfold nkC at e
    by_cases h1 : i < TS.length
    · rw [if_pos h1] at e
      by_cases h2 : j < TS.length
      · rw [if_pos h2] at e
        exact (ok.plw hl hp).inj i (List.mem_range.mpr h1) j (List.mem_range.mpr h2) e
      · rw [if_neg h2] at e
        exact absurd e (no i _ h1)
    · rw [if_neg h1] at e
      by_cases h2 : j < TS.length
      · rw [if_pos h2] at e
        exact absurd e.symm (no j _ h2)
      · rw [if_neg h2] at e
        unfold cK at e
        injection e with _ e
        injection e with e _
        injection e with e
        omega
theorem chain_ok (ok : TOk p0 p1 p2 TS) (hl : TS.length ≤ 60) (hp : p1 < 66) (hmk : mk = [] ∨ mk = [.inl 0]) (hhi : ∀ i, i < TS.length → ∃ x y r, iT p2 TS i = x :: y :: r ∧ x ≤ hi) (hCB : ∀ m, m < CB.length → ∀ b, CB.getD m none = some b → b < TS.length + m) (hm : CB.length ≤ 1500) :
    RowOk (nkC TS mk) (bhC TS CB) (DC p2 TS hi) (Rga.rowR (Rga.qsOf (bhC TS CB) (List.range (TS.length + CB.length)))) (TS.length + CB.length) := by
  obtain ⟨h1, h2⟩ := Rga.row_all (D := DC p2 TS hi) (bhC_back ok hCB) (by
    rw [List.pairwise_iff_getElem]
    intro i j h1 h2 hij
    rw [List.getElem_range, List.getElem_range]
    exact DC_up ok hl hp hhi hij) (fun i => ltD_irr _)
  refine ⟨nkC_names ok hl hp hmk _, bhC_back ok hCB, fun i => DC_int i, h2, h1, by omega, fun i hi' j hj e => ?_, fun i => ?_⟩
  · rcases Nat.lt_trichotomy i j with z | z | z
    · have := DC_up (p2 := p2) ok hl hp hhi z
      rw [e, ltD_irr] at this; cases this
    · exact z
    · have := DC_up (p2 := p2) ok hl hp hhi z
      rw [e, ltD_irr] at this; cases this
  · unfold DC
    by_cases h : i < TS.length
    · rw [if_pos h]; exact rkD_rk _ _ _ _
    · rw [if_neg h]; exact .inr ⟨_, _, _, rfl⟩
end
theorem dT_inj {p0 p1 p2 : Nat} {TS : List Dr} (ok : TOk p0 p1 p2 TS) {a b : Nat} (ha : a < TS.length) (hb : b < TS.length) (e : dT p2 TS a = dT p2 TS b) : a = b := by
  rcases Nat.lt_trichotomy a b with z | z | z
  · have := rk_up (p2 := p2) (ok.up a b z hb) (ok.small a ha) (ok.small b hb)
    have h : ltD (dT p2 TS a) (dT p2 TS b) = true := this
    rw [e, ltD_irr] at h
    cases h
  · exact z
  · have := rk_up (p2 := p2) (ok.up b a z ha) (ok.small b hb) (ok.small a ha)
    have h : ltD (dT p2 TS b) (dT p2 TS a) = true := this
    rw [e, ltD_irr] at h
    cases h
theorem uniq_by {R : Nat → Nat → Prop} : ∀ {l m : List Nat}, l.Perm m → l.Pairwise R → m.Pairwise R → (∀ a ∈ l, ∀ b ∈ l, R a b → ¬ R b a) → l = m
  | [], m, p, _, _, _ => (List.nil_perm.mp p).symm
  | x :: xs, [], p, _, _, _ => absurd p.length_eq (by simp)
  | x :: xs, y :: ys, p, hx, hy, as => by
    have e : x = y := by
      by_cases e : x = y
      · exact e
      · have h1 : y ∈ x :: xs := p.mem_iff.mpr List.mem_cons_self
        have h2 : x ∈ y :: ys := p.mem_iff.mp List.mem_cons_self
        have h1' : y ∈ xs := (List.mem_cons.mp h1).resolve_left fun z => e z.symm
        have h2' : x ∈ ys := (List.mem_cons.mp h2).resolve_left e
        exact absurd ((List.pairwise_cons.mp hy).1 x h2') (as x List.mem_cons_self y h1 ((List.pairwise_cons.mp hx).1 y h1'))
    subst e
    rw [uniq_by ((List.perm_cons x).mp p) (List.pairwise_cons.mp hx).2 (List.pairwise_cons.mp hy).2 fun a ha b hb => as a (List.mem_cons_of_mem _ ha) b (List.mem_cons_of_mem _ hb)]
theorem RowOk.same {nk : Nat → List Key} {bh : Nat → Option Nat} {D : Nat → PyData} {row row' : List Nat} {N : Nat} (R : RowOk nk bh D row N) (h1 : row'.Pairwise (Rga.AH bh D)) (h2 : row'.Perm (List.range N)) : row' = row :=
  uniq_by (h2.trans R.perm.symm) h1 R.up fun a ha b hb p q => by
    obtain ⟨la, ca, _, _⟩ := R.ch (List.mem_range.mp (h2.mem_iff.mp ha))
    obtain ⟨lb, cb, _, _⟩ := R.ch (List.mem_range.mp (h2.mem_iff.mp hb))
    have := ahd_asym (ints_asym R.nums) (p la lb ca cb)
    rw [q lb la cb ca] at this
    cases this
def sp_ffollowers_of (K : PySem.W.Frag) : Sp := fun vs H Q _ => ∃ p ys nk bh D js N row, vs = [.ref p] ∧ SqL K H p ys ∧ AN (PL nk bh D H) ys js ∧ js.Perm (List.range N) ∧ RowOk nk bh D row N ∧ ∀ H' dq kvs ms, Same H H' → ms.Perm js → (ms.Pairwise fun a b => ltD (D a) (D b) = true) → FD nk bh ms ms H H' dq kvs → Q (.ref dq) H'
theorem len_ffollowers_of {K : PySem.W.Frag} {vs : List V} {H : Hp} {Q : VK} {E : XK} (h : sp_ffollowers_of K vs H Q E) : vs.length = 1 := by obtain ⟨_, _, _, _, _, _, _, _, rfl, _⟩ := h; rfl
def sp_fordered (K : PySem.W.Frag) : Sp := fun vs H Q _ => ∃ p ys nk bh D js N row, vs = [.ref p] ∧ SqL K H p ys ∧ AN (PL nk bh D H) ys js ∧ js.Perm (List.range N) ∧ RowOk nk bh D row N ∧ ∀ H' q zs, Same H H' → H q = none → H' q = some (.lst zs) → AN (NM nk H') zs row → Q (.ref q) H'
theorem len_fordered {K : PySem.W.Frag} {vs : List V} {H : Hp} {Q : VK} {E : XK} (h : sp_fordered K vs H Q E) : vs.length = 1 := by obtain ⟨_, _, _, _, _, _, _, _, rfl, _⟩ := h; rfl
theorem sc_fkey_of_place : FnScope ["place"] ["place"] (defScope s_fkey_of_place) := ⟨rfl, rfl, rfl, by decide +kernel, rfl, by decide +kernel, by decide +kernel⟩
theorem sc_f_law_begun : FnScope ["_law_script", "_law_k", "_law_cell"] ["_law_script", "_law_k"] (defScope s_f_law_begun) := ⟨rfl, rfl, rfl, by decide +kernel, rfl, by decide +kernel, by decide +kernel⟩
theorem sc_f_law_draw : FnScope ["_law_state", "_law_many", "_law_number"] ["_law_state", "_law_many"] (defScope s_f_law_draw) := ⟨rfl, rfl, rfl, by decide +kernel, rfl, by decide +kernel, by decide +kernel⟩
theorem sc_f_law_are_names : FnScope ["_law_found", "_law_due"] ["_law_found", "_law_due"] (defScope s_f_law_are_names) := ⟨rfl, rfl, rfl, by decide +kernel, rfl, by decide +kernel, by decide +kernel⟩
theorem sc_f_law_name : FnScope ["_law_state", "_law_k", "_law_paces", "_law_letters", "_law_word", "_law_number"] ["_law_state", "_law_k", "_law_paces"] (defScope s_f_law_name) := ⟨rfl, rfl, rfl, by decide +kernel, rfl, by decide +kernel, by decide +kernel⟩
theorem sc_f_law_key : FnScope ["_law_state", "_law_last", "_law_many", "_law_height", "_law_hand", "_law_which", "_law_kind"] ["_law_state", "_law_last", "_law_many"] (defScope s_f_law_key) := ⟨rfl, rfl, rfl, by decide +kernel, rfl, by decide +kernel, by decide +kernel⟩
theorem sc_f_law_chain : FnScope ["_law_state", "_law_places_here", "_law_due", "_law_at", "_law_behind", "_law_step", "_law_high", "_law_more", "_law_k", "_law_name_here"] ["_law_state", "_law_places_here", "_law_due"] (defScope s_f_law_chain) := ⟨rfl, rfl, rfl, by decide +kernel, rfl, by decide +kernel, by decide +kernel⟩
theorem sc_f_law_going : FnScope ["_law_places_here", "_law_inner", "_law_name_here", "_law_behind", "_law_rank", "_law_found", "_law_left"] ["_law_places_here"] (defScope s_f_law_going) := ⟨rfl, rfl, rfl, by decide +kernel, rfl, by decide +kernel, by decide +kernel⟩
theorem sc_f_law_exchanged : FnScope ["_law_state", "_law_places_here", "_law_ranks", "_law_k", "_law_other", "_law_kept"] ["_law_state", "_law_places_here"] (defScope s_f_law_exchanged) := ⟨rfl, rfl, rfl, by decide +kernel, rfl, by decide +kernel, by decide +kernel⟩
theorem sc_ffollowers_of : FnScope ["places", "followers", "place"] ["places"] (defScope s_ffollowers_of) := ⟨rfl, rfl, rfl, by decide +kernel, rfl, by decide +kernel, by decide +kernel⟩
theorem sc_f_law_places : FnScope ["_law_script", "_law_first", "_law_paces", "_law_many", "_law_last", "_law_due", "_law_places_here", "_law_k", "_law_state", "_law_name_here", "_law_at", "_law_behind", "_law_rank"] ["_law_script"] (defScope s_f_law_places) := ⟨rfl, rfl, rfl, by decide +kernel, rfl, by decide +kernel, by decide +kernel⟩
theorem sc_fordered : FnScope ["places", "followers", "row", "to_come", "name"] ["places"] (defScope s_fordered) := ⟨rfl, rfl, rfl, by decide +kernel, rfl, by decide +kernel, by decide +kernel⟩
theorem sc_f_law_row : FnScope ["_law_script", "_law_places_here", "_law_due", "_law_state", "_law_way"] ["_law_script"] (defScope s_f_law_row) := ⟨rfl, rfl, rfl, by decide +kernel, rfl, by decide +kernel, by decide +kernel⟩
theorem sc_flaw : FnScope ["_law_script", "_law_places_here", "_law_due", "_law_handed", "_law_turn", "_law_found"] ["_law_script"] (defScope s_flaw) := ⟨rfl, rfl, rfl, by decide +kernel, rfl, by decide +kernel, by decide +kernel⟩
section
variable {P : Program} {w : World} {K : PySem.W.Frag} {mg : Str → Option Value} {base : Heap} {d : Adr} {tk : Str → Tok}
theorem ok_fkey_of_place (T : Txt K mg d tk) : FnOk P w K mg base CX0 1 d.fkey_of_place d.fkey_of_placed ["place"] (sp_fkey_of_place K) := by
  refine T.F_fkey_of_place.ok sc_fkey_of_place (fun vs H Q E h => len_fkey_of_place h) (fun cdv A outer s H vs Q E hr h => ?_)
  have hu : (A.deeper (envOfC "key_of_place" (defScope s_fkey_of_place) s.heap.objs.size d.fkey_of_place cdv)).units < cLine := hr.units0
  refine ⟨_, (@pss_one _ _ _ (@ps_ret _ _ _ _ (@pe_ix _ _ _ _ _ _ _ ix_tup (@pv _ 0 _ _ rfl (Or.inl rfl) rfl rfl) (@pe_int _ _ _ _) (fun _ _ => rfl)))), ?_⟩
  obtain ⟨v, nk, bh, D, k, rfl, pl, kk⟩ := h
  obtain ⟨b, vn, vb, vk, rfl, e1, e2, e3, e4⟩ := pl
  exact ⟨_, rfl, b, _, 2, _, rfl, rfl, SqT.of e1, rfl, kk vk e4⟩
theorem ok_f_law_begun (T : Txt K mg d tk) : FnOk P w K mg base CX0 1 d.f_law_begun d.f_law_begund ["_law_script", "_law_k"] (sp_f_law_begun K) := by
  refine T.F_f_law_begun.ok sc_f_law_begun (fun vs H Q E h => len_f_law_begun h) (fun cdv A outer s H vs Q E hr h => ?_)
  have hu : (A.deeper (envOfC "_law_begun" (defScope s_f_law_begun) s.heap.objs.size d.f_law_begun cdv)).units < cLine := hr.units0
  refine ⟨_, (@pss_cons _ _ _ _ _ (@ps_set _ _ (2) _ _ _ _ sc_f_law_begun.nd rfl (Or.inl rfl) (@pe_int _ _ _ _) (by rfl) (by first | exact .inl rfl | exact .inr rfl)) (@pss_cons _ _ _ _ _ (@ps_if _ _ _ _ _ _ _ _ (@pt_cmpR _ _ _ _ _ _ _ _ op_lt (@pv _ 1 _ _ rfl (Or.inl rfl) rfl rfl) (@pe_callB _ _ _ _ _ _ _ _ _ call_len_seq (by rfl) T.b_len boot_len (@pa_cons _ _ _ _ _ (@pv _ 0 _ _ rfl (Or.inl rfl) rfl rfl) (@pa_nil _) (by rfl)) (by decide) (by decide) (by rfl) (by rfl)) (nomark _)) (@pss_one _ _ _ (@ps_set _ _ (2) _ _ _ _ sc_f_law_begun.nd rfl (Or.inl rfl) (@pe_ix _ _ _ _ _ _ _ ix_any (@pv _ 0 _ _ rfl (Or.inl rfl) rfl rfl) (@pv _ 1 _ _ rfl (Or.inl rfl) rfl rfl) (fun _ _ => rfl)) (by rfl) (by first | exact .inl rfl | exact .inr rfl))) (@pss_nil _)) (@pss_one _ _ _ (@ps_ret _ _ _ _ (@pe_lstA _ _ _ _ (@pa_cons _ _ _ _ _ (@pv _ 2 _ _ rfl (Or.inl rfl) rfl rfl) (@pa_cons _ _ _ _ _ (@pe_and _ _ _ _ _ _ _ (@pe_cmpR _ _ _ _ _ _ _ _ op_ge (@pv _ 2 _ _ rfl (Or.inl rfl) rfl rfl) (@pe_op _ _ _ _ _ _ _ _ op_pow (@pe_int _ _ _ _) (@pe_int _ _ _ _)) (nomark _)) (@pe_one _ _ _ _ _ (@pe_cmpR _ _ _ _ _ _ _ _ op_eq (@pe_op _ _ _ _ _ _ _ _ op_mod (@pe_ix _ _ _ _ _ _ _ ix_list (@pv _ 0 _ _ rfl (Or.inl rfl) rfl rfl) (@pe_int _ _ _ _) (fun _ _ => rfl)) (@pe_int _ _ _ _)) (@pe_int _ _ _ _) (nomark _)))) (@pa_cons _ _ _ _ _ (@pe_op _ _ _ _ _ _ _ _ op_add (@pe_op _ _ _ _ _ _ _ _ op_mul (@pe_int _ _ _ _) (@pv _ 1 _ _ rfl (Or.inl rfl) rfl rfl)) (@pe_int _ _ _ _)) (@pa_cons _ _ _ _ _ (@pv _ 2 _ _ rfl (Or.inl rfl) rfl rfl) (@pa_nil _) (by rfl)) (by rfl)) (by rfl)) (by rfl))))))), ?_⟩
  obtain ⟨sp, ns, k, rfl, hs, hk, kk⟩ := h
  refine ⟨_, rfl, _, rfl, sp, _, rfl, .inl hs, _, _, rfl, rfl, _, rfl, ?_⟩
  refine ite2 (fun hb => ?_) fun hb => ?_
  · have hb := of_decide_eq_true hb
    refine ⟨_, rfl, _, rfl, sp, _, _, rfl, rfl, hs, by omega, hb, fun v hv => ?_⟩
    obtain ⟨m, _, rfl⟩ := List.mem_map.mp hv
    refine ⟨_, rfl, _, rfl, _, _, rfl, rfl, ⟨by decide, by decide, by decide⟩, _, _, rfl, rfl, _, rfl, ?_⟩
    refine ite2 (fun _ => ?_) fun _ => ?_
    · rw [List.length_map] at hb
      obtain ⟨a0, h0⟩ : ∃ i, atI (List.map V.int ns) 0 = some (.int i) := ⟨ns[0]'(by omega), atI_nat (j := 0) (by rw [List.getElem?_map, List.getElem?_eq_getElem (by omega : 0 < ns.length)]; rfl)⟩
      refine ⟨_, rfl, sp, _, 0, .int a0, rfl, rfl, hs, h0, _, _, rfl, rfl, (by show (0 : Int) < 2; decide), rfl, ?_⟩
      refine ⟨_, rfl, _, _, rfl, rfl, .inl ⟨by decide, by decide⟩, _, _, rfl, rfl, _, rfl, szOk rfl, fun p H1 g s e => kk H1 p s g ⟨_, _, _, _, e, by omega, by omega⟩⟩
    · refine ⟨_, rfl, _, _, rfl, rfl, .inl ⟨by decide, by decide⟩, _, _, rfl, rfl, _, rfl, szOk rfl, fun p H1 g s e => kk H1 p s g ⟨_, _, _, _, e, by omega, by omega⟩⟩
  · refine ⟨_, rfl, _, rfl, _, _, rfl, rfl, ⟨by decide, by decide, by decide⟩, _, _, rfl, rfl, _, rfl, itF (by decide +kernel) ?_⟩
    refine ⟨_, rfl, _, _, rfl, rfl, .inl ⟨by decide, by decide⟩, _, _, rfl, rfl, _, rfl, szOk rfl, fun p H1 g s e => kk H1 p s g ⟨_, _, _, _, e, by omega, by omega⟩⟩
theorem ok_f_law_draw (T : Txt K mg d tk) : FnOk P w K mg base CX0 1 d.f_law_draw d.f_law_drawd ["_law_state", "_law_many"] (sp_f_law_draw K) := by
  refine T.F_f_law_draw.ok sc_f_law_draw (fun vs H Q E h => len_f_law_draw h) (fun cdv A outer s H vs Q E hr h => ?_)
  have hu : (A.deeper (envOfC "_law_draw" (defScope s_f_law_draw) s.heap.objs.size d.f_law_draw cdv)).units < cLine := hr.units0
  refine ⟨_, (@pss_cons _ _ _ _ _ (@ps_set _ _ (2) _ _ _ _ sc_f_law_draw.nd rfl (Or.inl rfl) (@pe_ix _ _ _ _ _ _ _ ix_list (@pv _ 0 _ _ rfl (Or.inl rfl) rfl rfl) (@pe_int _ _ _ _) (fun _ _ => rfl)) (by rfl) (by first | exact .inl rfl | exact .inr rfl)) (@pss_cons _ _ _ _ _ (@ps_if _ _ _ _ _ _ _ _ (@PW.pt _ _ _ (@pw_and _ _ _ _ _ _ _ (@pt_val _ _ _ (@pe_ix _ _ _ _ _ _ _ ix_list (@pv _ 0 _ _ rfl (Or.inl rfl) rfl rfl) (@pe_int _ _ _ _) (fun _ _ => rfl)) (by intro _; rfl)) (@pw_and1 _ _ _ _ (@pt_cmpR _ _ _ _ _ _ _ _ op_gt (@pv _ 2 _ _ rfl (Or.inl rfl) rfl rfl) (@pe_int _ _ _ _) (nomark _))))) (@pss_cons _ _ _ _ _ (@ps_asg _ _ _ _ _ _ (@pe_op _ _ _ _ _ _ _ _ op_fdiv (@pv _ 2 _ _ rfl (Or.inl rfl) rfl rfl) (@pv _ 1 _ _ rfl (Or.inl rfl) rfl rfl)) (@pg_sub _ _ _ _ _ _ _ (@pv _ 0 _ _ rfl (Or.inl rfl) rfl rfl) (@pe_int _ _ _ _) set_list (by intro _; rfl)) (by rfl) (by rfl) (by rfl)) (@pss_one _ _ _ (@ps_ret _ _ _ _ (@pe_op _ _ _ _ _ _ _ _ op_mod (@pv _ 2 _ _ rfl (Or.inl rfl) rfl rfl) (@pv _ 1 _ _ rfl (Or.inl rfl) rfl rfl))))) (@pss_nil _)) (@pss_cons _ _ _ _ _ (@ps_asg _ _ _ _ _ _ (@pe_op _ _ _ _ _ _ _ _ op_add (@pe_ix _ _ _ _ _ _ _ ix_list (@pv _ 0 _ _ rfl (Or.inl rfl) rfl rfl) (@pe_int _ _ _ _) (fun _ _ => rfl)) (@pe_int _ _ _ _)) (@pg_sub _ _ _ _ _ _ _ (@pv _ 0 _ _ rfl (Or.inl rfl) rfl rfl) (@pe_int _ _ _ _) set_list (by intro _; rfl)) (by rfl) (by rfl) (by rfl)) (@pss_cons _ _ _ _ _ (@ps_asg _ _ _ _ _ _ (@pe_op _ _ _ _ _ _ _ _ op_mod (@pe_op _ _ _ _ _ _ _ _ op_add (@pe_op _ _ _ _ _ _ _ _ op_add (@pe_op _ _ _ _ _ _ _ _ op_mul (@pe_op _ _ _ _ _ _ _ _ op_mod (@pe_ix _ _ _ _ _ _ _ ix_list (@pv _ 0 _ _ rfl (Or.inl rfl) rfl rfl) (@pe_int _ _ _ _) (fun _ _ => rfl)) (@pe_int _ _ _ _)) (@pe_int _ _ _ _)) (@pe_op _ _ _ _ _ _ _ _ op_mul (@pe_op _ _ _ _ _ _ _ _ op_mul (@pe_int _ _ _ _) (@pe_ix _ _ _ _ _ _ _ ix_list (@pv _ 0 _ _ rfl (Or.inl rfl) rfl rfl) (@pe_int _ _ _ _) (fun _ _ => rfl))) (@pe_ix _ _ _ _ _ _ _ ix_list (@pv _ 0 _ _ rfl (Or.inl rfl) rfl rfl) (@pe_int _ _ _ _) (fun _ _ => rfl)))) (@pe_int _ _ _ _)) (@pe_int _ _ _ _)) (@pg_sub _ _ _ _ _ _ _ (@pv _ 0 _ _ rfl (Or.inl rfl) rfl rfl) (@pe_int _ _ _ _) set_list (by intro _; rfl)) (by rfl) (by rfl) (by rfl)) (@pss_one _ _ _ (@ps_ret _ _ _ _ (@pe_op _ _ _ _ _ _ _ _ op_mod (@pe_op _ _ _ _ _ _ _ _ op_fdiv (@pe_op _ _ _ _ _ _ _ _ op_mod (@pe_op _ _ _ _ _ _ _ _ op_mul (@pe_ix _ _ _ _ _ _ _ ix_list (@pv _ 0 _ _ rfl (Or.inl rfl) rfl rfl) (@pe_int _ _ _ _) (fun _ _ => rfl)) (@pe_int _ _ _ _)) (@pe_int _ _ _ _)) (@pe_int _ _ _ _)) (@pv _ 1 _ _ rfl (Or.inl rfl) rfl rfl)))))))), ?_⟩
  obtain ⟨p, n, k, rfl, ⟨a, b, c, e, hp, c0, c1⟩, hn, k0, k1000, kk⟩ := h
  have hk : (0 : Int) < (k : Int) := by omega
  refine ⟨_, rfl, p, _, 0, .int a, rfl, rfl, SqL.of hp, rfl, ?_⟩
  refine ⟨_, rfl, p, _, 1, .bl b, rfl, rfl, SqL.of hp, rfl, _, rfl, ?_⟩
  have slow : ∀ x : Int, ∃ r : Nat, x % (k : Int) = (r : Int) ∧ r < k := fun x => by
    obtain ⟨r, hr⟩ := Int.eq_ofNat_of_zero_le (mod_lo x hk)
    have := mod_hi x hk
    exact ⟨r, hr, by omega⟩
  refine ite2 (fun _ => ⟨_, rfl, _, _, rfl, rfl, _, rfl, ite2 (fun _ => ?_) fun _ => ?_⟩) fun _ => itF rfl ?_
  · refine ⟨_, rfl, _, rfl, _, _, rfl, rfl, ⟨hk, by omega⟩, _, rfl, p, _, 0, 0, rfl, rfl, hp, rfl, ?_⟩
    refine ⟨_, rfl, _, rfl, _, _, rfl, rfl, hk, ?_⟩
    obtain ⟨r, hr, hlt⟩ := slow a
    show Q (V.int (a % (k : Int))) _
    rw [hr]
    exact kk _ r (del_same.wr del_at) ⟨_, _, _, _, upd_same, c0, by omega⟩ hlt
  all_goals
    refine ⟨_, rfl, p, _, 2, .int c, rfl, rfl, SqL.of hp, rfl, _, _, rfl, rfl, _, rfl, p, _, 2, 2, rfl, rfl, hp, rfl, ?_⟩
    refine ⟨_, rfl, p, _, 3, .int e, rfl, rfl, SqL.of upd_same, rfl, _, _, rfl, rfl, (by show (0 : Int) < 2147483647; decide), _, _, rfl, rfl, .inr ⟨by decide, by decide⟩, _, rfl, p, _, 2, .int (c + 1), rfl, rfl, SqL.of upd_same, rfl, _, _, rfl, rfl, .inl ⟨by decide, by decide⟩, _, rfl, p, _, 2, .int (c + 1), rfl, rfl, SqL.of upd_same, rfl, _, _, rfl, rfl, .inr ⟨by omega, by omega⟩, _, _, rfl, rfl, _, _, rfl, rfl, _, _, rfl, rfl, (by show (0 : Int) < 2147483647; decide), _, rfl, p, _, 3, 3, rfl, rfl, upd_same, rfl, ?_⟩
    refine ⟨_, rfl, p, _, 3, _, rfl, rfl, SqL.of upd_same, rfl, _, _, rfl, rfl, .inr ⟨by decide, by decide⟩, _, _, rfl, rfl, (by show (0 : Int) < 2147483629; decide), _, _, rfl, rfl, ⟨by decide, by decide⟩, _, rfl, _, _, rfl, rfl, hk, ?_⟩
    obtain ⟨r, hr, hlt⟩ := slow (((e % 2147483647 * 48271 + 7919 * (c + 1) * (c + 1) + 11) % 2147483647) * 69621 % 2147483629 / 64)
    show Q (V.int (((e % 2147483647 * 48271 + 7919 * (c + 1) * (c + 1) + 11) % 2147483647) * 69621 % 2147483629 / 64 % (k : Int))) _
    rw [hr]
    exact kk _ r ((del_same.wr del_at).wr del_at) ⟨_, _, _, _, upd_same, by omega, by omega⟩ hlt
theorem ok_f_law_are_names (T : Txt K mg d tk) : FnOk P w K mg base CX0 1 d.f_law_are_names d.f_law_are_namesd ["_law_found", "_law_due"] (sp_f_law_are_names K) := by
  refine T.F_f_law_are_names.ok sc_f_law_are_names (fun vs H Q E h => len_f_law_are_names h) (fun cdv A outer s H vs Q E hr h => ?_)
  have hu : (A.deeper (envOfC "_law_are_names" (defScope s_f_law_are_names) s.heap.objs.size d.f_law_are_names cdv)).units < cLine := hr.units0
  refine ⟨_, (@pss_cons _ _ _ _ _ (@ps_if _ _ _ _ _ _ _ _ (@PW.pt _ _ _ (@pw_or _ _ _ _ _ _ _ (@pt_not _ _ _ _ (@pt_val _ _ _ (@pe_callB _ _ _ _ _ _ _ _ _ call_isinst (by rfl) T.b_isinstance boot_isinstance (@pa_cons _ _ _ _ _ (@pv _ 0 _ _ rfl (Or.inl rfl) rfl rfl) (@pa_cons _ _ _ _ _ (@pe_bltn _ _ (.ty "list") _ _ (by rfl) T.b_list boot_list rfl (by decide) (by decide)) (@pa_nil _) (by rfl)) (by rfl)) (by decide) (by decide) (by rfl) (by rfl)) (by intro _; rfl))) (@pw_or1 _ _ _ _ (@pt_cmpR _ _ _ _ _ _ _ _ (op_neD (hu64 hr)) (@pv _ 0 _ _ rfl (Or.inl rfl) rfl rfl) (@pv _ 1 _ _ rfl (Or.inl rfl) rfl rfl) (nomark _))))) (@pss_one _ _ _ (@ps_ret _ _ _ _ (@pe_bl _ _ _ _))) (@pss_nil _)) (@pss_one _ _ _ (@ps_ret _ _ _ _ (@pe_cmpR _ _ _ _ _ _ _ _ (op_eqNil hu) (@pe_lcomp _ _ _ _ _ _ _ (["_law_name_here"]) ([]) _ _ _ _ _ rfl (@pi_list _ _ _ _ (@pv _ 0 _ _ rfl (Or.inl rfl) rfl rfl)) ⟨rfl, by decide +kernel, by decide +kernel⟩ (caps0 (by decide +kernel)) (fun _ _ _ => (@pg_name _ _ (0) _ (by show List.Nodup (["_law_name_here"] : List Str); decide +kernel) rfl (Or.inl rfl) (by first | exact .inl rfl | exact .inr rfl))) (fun _ => fresh_name rfl) (fun _ _ _ => (@pts_one _ _ _ (@pt_not _ _ _ _ (@pt_val _ _ _ (@pe_callB _ _ _ _ _ _ _ _ _ (call_isinstK (K := K) rfl) (by rfl) T.b_isinstance boot_isinstance (@pa_cons _ _ _ _ _ (@pv _ 0 _ _ rfl (Or.inl rfl) rfl rfl) (@pa_cons _ _ _ _ _ (@pe_bltn _ _ (.ty "tuple") _ _ (by rfl) T.b_tuple boot_tuple rfl (by decide) (by decide)) (@pa_nil _) (by rfl)) (by rfl)) (by decide) (by decide) (by rfl) (by rfl)) (by intro _; rfl))))) (fun _ _ _ => (@pv _ 0 _ _ rfl (Or.inl rfl) rfl rfl)) (by intro _; rfl)) (@pe_lstA _ _ _ _ (@pa_nil _)) (nomark _))))), ?_⟩
  obtain ⟨p, q, pv, qv, nk, N, l, rfl, hp, hq, ap, aq, nw, hl, hz, kk⟩ := h
  have nl := nw.sub (ls := l) fun i hi => List.mem_range.mpr (hl i hi)
  refine ⟨_, rfl, _, "list", _, true, rfl, .lst hp, by rfl, _, rfl, itF rfl ?_⟩
  refine ⟨_, rfl, _, rfl, .list (l.map (dN nk)), .list (l.map (dN nk)), .lst (SqL.of hp) (ap.dts fun v i g => NM.dt g).dv, .lst (SqL.of hq) (aq.dts fun v i g => NM.dt g).dv, nl.keys.lay, nl.keys.lay, ?_, _, rfl, ?_⟩
  · have := depth_le nl.keys.deep
    show min (PyData.depthAll _ + 1) (PyData.depthAll _ + 1) ≤ 64
    omega
  rw [list_selfS fun d hd => nl.keys.one d hd d hd]
  refine itF rfl ?_
  have hpl := ap.1
  refine ⟨_, rfl, p, rfl, ⟨_, SqL.of hp⟩, lc_any (xs := pv) (big2 (by omega)) (fun j vs H' => Same H H' ∧ vs = []) ⟨Same.refl _, rfl⟩ (fun _ _ H' s' => SqL.of (s'.1 _ _ hp)) (fun j x vs H' K1 K0 hx s' k1 k0 => ?_) fun H' np vs s' hy hn => ?_⟩
  · obtain ⟨s', rfl⟩ := s'
    obtain ⟨m, em, nm⟩ := ap.at hx
    obtain ⟨b, rfl, hb⟩ := nm
    refine ⟨_, rfl, _, "tuple", _, true, rfl, .tup (s' _ _ hb), by rfl, _, rfl, itF rfl (k0 _ ⟨s', rfl⟩)⟩
  obtain ⟨s', rfl⟩ := s'
  have nH : Same H' (L2.upd H' np (.lst [])) := Same.new hn
  refine ⟨szOk rfl, fun ep He ge se ee => ?_⟩
  exact ⟨np, ep, [], rfl, rfl, SqL.of (se _ _ upd_same), SqL.of ee, kk He ((s'.trans nH).trans se)⟩
theorem ok_f_law_name (T : Txt K mg d tk) (gf_law_draw : FnOk P w K mg base CX0 1 d.f_law_draw d.f_law_drawd ["_law_state", "_law_many"] (sp_f_law_draw K)) : FnOk P w K mg base CX0 2 d.f_law_name d.f_law_named ["_law_state", "_law_k", "_law_paces"] (sp_f_law_name K) := by
  refine T.F_f_law_name.ok sc_f_law_name (fun vs H Q E h => len_f_law_name h) (fun cdv A outer s H vs Q E hr h => ?_)
  have hu : (A.deeper (envOfC "_law_name" (defScope s_f_law_name) s.heap.objs.size d.f_law_name cdv)).units < cLine := hr.units0
  refine ⟨_, (@pss_cons _ _ _ _ _ (@ps_set _ _ (3) _ _ _ _ sc_f_law_name.nd rfl (Or.inr rfl) (@pe_str _ _ _ _) (by rfl) (by first | exact .inl rfl | exact .inr rfl)) (@pss_cons _ _ _ _ _ (@ps_set _ _ (4) _ _ _ _ sc_f_law_name.nd rfl (Or.inl rfl) (@pe_bm _ _ _ _ _ _ _ _ _ _ _ _ PySem.F.plainAttrs_str PySem.F.slot_str_join PySem.F.type_str_join mt_join (@pe_str _ _ _ _) (@pa_cons _ _ _ _ _ (@pe_lcomp _ _ _ _ _ _ _ (["_law_turn"]) ([("_law_letters", 3), ("_law_state", 0)]) _ _ _ _ _ rfl (@pi_range1 _ _ _ _ _ _ (by rfl) T.b_range (@pa_cons _ _ _ _ _ (@pe_op _ _ _ _ _ _ _ _ op_add (@pe_int _ _ _ _) (@pe_call _ _ _ _ _ _ _ _ _ _ _ _ _ _ _ _ gf_law_draw (hr.mono (by decide)) (by rfl) T.m_f_law_draw T.k_f_law_draw T.d_f_law_draw .nil pass0 (@pa_cons _ _ _ _ _ (@pv _ 0 _ _ rfl (Or.inr (Or.inl rfl)) rfl rfl) (@pa_cons _ _ _ _ _ (@pe_int _ _ _ _) (@pa_nil _) (by rfl)) (by rfl)) (by decide) (by rfl) (by rfl))) (@pa_nil _) (by rfl)) (by rfl)) ⟨rfl, by decide +kernel, by decide +kernel⟩ (caps_def (defScope s_f_law_name) ["_law_state", "_law_k", "_law_paces", "_law_letters", "_law_word", "_law_number"] rfl rfl (fun _ h => cell_has h) (by decide +kernel) (by decide +kernel) (by decide +kernel)) (fun _ _ _ => (@pg_name _ _ (0) _ (by show List.Nodup (["_law_turn", "_law_letters", "_law_state"] : List Str); decide +kernel) rfl (Or.inl rfl) (by first | exact .inl rfl | exact .inr rfl))) (fun _ => fresh_name rfl) (fun _ _ _ => (@pts_nil _)) (fun _ _ _ => (@pe_ix _ _ _ _ _ _ _ ix_str (@pv _ 1 _ _ rfl (Or.inr (Or.inl rfl)) rfl rfl) (@pe_call _ _ _ _ _ _ _ _ _ _ _ _ _ _ _ _ gf_law_draw (hr.mono (by decide)) (by rfl) T.m_f_law_draw T.k_f_law_draw T.d_f_law_draw .nil pass0 (@pa_cons _ _ _ _ _ (@pv _ 2 _ _ rfl (Or.inr (Or.inl rfl)) rfl rfl) (@pa_cons _ _ _ _ _ (@pe_int _ _ _ _) (@pa_nil _) (by rfl)) (by rfl)) (by decide) (by rfl) (by rfl)) (fun _ _ => rfl))) (by intro _; rfl)) (@pa_nil _) (by rfl)) (by rfl) (by rfl) (by rfl) (by rfl) (by rfl)) (by rfl) (by first | exact .inl rfl | exact .inr rfl)) (@pss_cons _ _ _ _ _ (@ps_set _ _ (5) _ _ _ _ sc_f_law_name.nd rfl (Or.inl rfl) (@pe_op _ _ _ _ _ _ _ _ op_add (@pe_int _ _ _ _) (@pe_op _ _ _ _ _ _ _ _ op_mod (@pe_op _ _ _ _ _ _ _ _ op_add (@pe_ix _ _ _ _ _ _ _ ix_list (@pv _ 2 _ _ rfl (Or.inl rfl) rfl rfl) (@pe_int _ _ _ _) (fun _ _ => rfl)) (@pe_op _ _ _ _ _ _ _ _ op_mul (@pe_op _ _ _ _ _ _ _ _ op_add (@pe_int _ _ _ _) (@pe_ix _ _ _ _ _ _ _ ix_list (@pv _ 2 _ _ rfl (Or.inl rfl) rfl rfl) (@pe_int _ _ _ _) (fun _ _ => rfl))) (@pv _ 1 _ _ rfl (Or.inl rfl) rfl rfl))) (@pe_int _ _ _ _))) (by rfl) (by first | exact .inl rfl | exact .inr rfl)) (@pss_cons _ _ _ _ _ (@ps_if _ _ _ _ _ _ _ _ (@pt_cmpR _ _ _ _ _ _ _ _ op_eq (@pe_ix _ _ _ _ _ _ _ ix_list (@pv _ 2 _ _ rfl (Or.inl rfl) rfl rfl) (@pe_int _ _ _ _) (fun _ _ => rfl)) (@pe_int _ _ _ _) (nomark _)) (@pss_one _ _ _ (@ps_ret _ _ _ _ (@pe_tupA _ _ _ _ _ (@pa_cons _ _ _ _ _ (@pv _ 4 _ _ rfl (Or.inl rfl) rfl rfl) (@pa_cons _ _ _ _ _ (@pv _ 5 _ _ rfl (Or.inl rfl) rfl rfl) (@pa_nil _) (by rfl)) (by rfl))))) (@pss_nil _)) (@pss_one _ _ _ (@ps_ret _ _ _ _ (@pe_tupA _ _ _ _ _ (@pa_cons _ _ _ _ _ (@pv _ 4 _ _ rfl (Or.inl rfl) rfl rfl) (@pa_cons _ _ _ _ _ (@pv _ 5 _ _ rfl (Or.inl rfl) rfl rfl) (@pa_cons _ _ _ _ _ (@pe_call _ _ _ _ _ _ _ _ _ _ _ _ _ _ _ _ gf_law_draw (hr.mono (by decide)) (by rfl) T.m_f_law_draw T.k_f_law_draw T.d_f_law_draw .nil pass0 (@pa_cons _ _ _ _ _ (@pv _ 0 _ _ rfl (Or.inr (Or.inl rfl)) rfl rfl) (@pa_cons _ _ _ _ _ (@pe_int _ _ _ _) (@pa_nil _) (by rfl)) (by rfl)) (by decide) (by rfl) (by rfl)) (@pa_nil _) (by rfl)) (by rfl)) (by rfl))))))))), ?_⟩
  obtain ⟨p, pp, n, k, p0, p1, p2, rfl, r0, hn, hpp, hk, h0, h1, kk⟩ := h
  have npp : pp ≠ p := fun z => by
    obtain ⟨a, b, c, e, hp, _⟩ := r0
    rw [z, hp] at hpp
    cases hpp
  have go : ∀ {Ha Hb : Hp}, Same (del H p) Ha → Same (del Ha p) Hb → Same (del H p) Hb := fun s t => (s.cut del_at).trans t
  have epp : ∀ {Ha : Hp}, Same (del H p) Ha → Ha pp = some (.lst [.int (p0 : Int), .int (p1 : Int), .int (p2 : Int)]) := fun s => s _ _ (by rw [del_ne npp]; exact hpp)
  refine ⟨rfl, _, rfl, p, n, 8, rfl, r0, by omega, by omega, by omega, fun H1 r s1 r1 hr => ?_⟩
  refine ⟨_, _, rfl, rfl, _, rfl, by omega, by omega, lc_range (n := (1 + (r : Int)).toNat) (big (by omega)) (fun i ys H' => ∃ zs : List Str, ys = zs.map V.str ∧ (∀ z ∈ zs, z.length = 1 ∧ IsT z) ∧ zs.length = i ∧ Same (del H p) H' ∧ SR H' p (n + 1 + i))
    ⟨[], rfl, (fun _ z => nomatch z), rfl, s1, r1⟩ (fun i ys H' K1 K0 hi q k1 k0 => ?_) fun H' q ys P hy hq => ?_⟩
  · obtain ⟨zs, rfl, hz, hzl, s6, r6⟩ := q
    refine iteT (B := K0 H') ?_
    refine ⟨_, rfl, _, rfl, p, _, 26, rfl, r6, by omega, by omega, by omega, fun H7 r7 s7 q7 hr7 => ?_⟩
    obtain ⟨c, hc⟩ := atI_in ("abcdefghijklmnopqrstuvwxyz" : Str).cps.toList (r7 : Int) (by omega) (by rw [show ("abcdefghijklmnopqrstuvwxyz" : Str).cps.toList.length = 26 from by decide +kernel]; omega)
    refine ⟨_, _, _, rfl, rfl, (by decide +kernel), hc, k1 _ _ ⟨zs ++ [⟨#[c]⟩], by rw [List.map_append]; rfl, fun z hz' => ?_, by rw [List.length_append, List.length_singleton, hzl], go s6 s7, q7.more (by omega)⟩⟩
    rcases List.mem_append.mp hz' with y | y
    · exact hz z y
    · rw [List.mem_singleton.mp y]
      exact ⟨rfl, isT_one (abc_all c (atI_mem hc))⟩
  obtain ⟨zs, rfl, hz, hzl, s6, r6⟩ := P
  have hsum : (zs.map (·.length)).sum ≤ 100 := by
    have : ∀ l : List Str, (∀ z ∈ l, z.length = 1 ∧ IsT z) → (l.map (·.length)).sum = l.length := fun l => by
      induction l with
      | nil => intro _; rfl
      | cons z l ih =>
        intro h
        rw [List.map_cons, List.sum_cons, ih fun y hy => h y (List.mem_cons_of_mem _ hy), (h z (by simp)).1, List.length_cons]
        omega
    rw [this zs hz]
    omega
  refine ⟨"", q, zs, rfl, rfl, SqL.of upd_same, ?_, ?_⟩
  · rw [show ("" : Str).length = 0 from rfl]
    omega
  have s7 : Same (del H p) (upd H' q (.lst (zs.map V.str))) := s6.up hq
  have r7 : SR (upd H' q (.lst (zs.map V.str))) p (n + 10) := (r6.same (Same.new hq)).more (by omega)
  have hT : IsT (Txt.join "" zs) := isT_join (by unfold L2.IsT; decide +kernel) fun z h => (hz z h).2
  have e7 := epp s7
  refine ⟨_, rfl, pp, _, 0, _, rfl, rfl, SqL.of e7, rfl, _, rfl, pp, _, 1, _, rfl, rfl, SqL.of e7, rfl, _, _, rfl, rfl, _, rfl, _, _, rfl, rfl, .inr ⟨by omega, by omega⟩, _, _, rfl, rfl, _, _, rfl, rfl, (by show (0 : Int) < 67; decide), _, _, rfl, rfl, ?_⟩
  have en : (1 + ((p0 : Int) + (1 + (p1 : Int)) * (k : Int)) % 67) = ((1 + (p0 + (1 + p1) * k) % 67 : Nat) : Int) := by push_cast; rfl
  refine ⟨_, rfl, pp, _, 2, _, rfl, rfl, SqL.of e7, rfl, rfl, _, rfl, ?_⟩
  by_cases hp2 : p2 = 0
  · refine itT (decide_eq_true (by rw [hp2]; rfl)) ?_
    refine ⟨_, rfl, _, rfl, szOk rfl, fun q' H8 g8 s8 e8 => ?_⟩
    refine kk H8 q' _ 0 (s7.trans s8) ((r7.same s8).more (by omega)) hT ?_
    rw [if_pos hp2, ← en]
    exact e8
  · refine itF (decide_eq_false fun z => hp2 (by injection z; omega)) ?_
    refine ⟨_, rfl, _, rfl, _, rfl, p, _, 12, rfl, r7, by omega, by omega, by omega, fun H8 r8 s8 q8 hr8 => ?_⟩
    refine ⟨szOk rfl, fun q' H9 g9 s9 e9 => ?_⟩
    refine kk H9 q' _ r8 ((go s7 s8).trans s9) ((q8.same s9).more (by omega)) hT ?_
    rw [if_neg hp2, ← en]
    exact e9
theorem ok_f_law_key (T : Txt K mg d tk) (gf_law_draw : FnOk P w K mg base CX0 1 d.f_law_draw d.f_law_drawd ["_law_state", "_law_many"] (sp_f_law_draw K)) : FnOk P w K mg base CX0 2 d.f_law_key d.f_law_keyd ["_law_state", "_law_last", "_law_many"] (sp_f_law_key K) := by
  refine T.F_f_law_key.ok sc_f_law_key (fun vs H Q E h => len_f_law_key h) (fun cdv A outer s H vs Q E hr h => ?_)
  have hu : (A.deeper (envOfC "_law_key" (defScope s_f_law_key) s.heap.objs.size d.f_law_key cdv)).units < cLine := hr.units0
  refine ⟨_, (@pss_cons _ _ _ _ _ (@ps_asg _ _ _ _ _ _ (@pv _ 1 _ _ rfl (Or.inl rfl) rfl rfl) (@pg_tup _ _ _ _ _ _ rfl (@pgs_cons _ _ _ _ _ (@pg_name _ _ (3) _ sc_f_law_key.nd rfl (Or.inl rfl) (by first | exact .inl rfl | exact .inr rfl)) (@pgs_cons _ _ _ _ _ (@pg_name _ _ (4) _ sc_f_law_key.nd rfl (Or.inl rfl) (by first | exact .inl rfl | exact .inr rfl)) (@pgs_cons _ _ _ _ _ (@pg_name _ _ (5) _ sc_f_law_key.nd rfl (Or.inl rfl) (by first | exact .inl rfl | exact .inr rfl)) (@pgs_nil _) (by rfl)) (by rfl)) (by rfl)) (by rfl) (by rfl)) (by rfl) (by rfl) (by rfl)) (@pss_cons _ _ _ _ _ (@ps_set _ _ (6) _ _ _ _ sc_f_law_key.nd rfl (Or.inl rfl) (@pe_call _ _ _ _ _ _ _ _ _ _ _ _ _ _ _ _ gf_law_draw (hr.mono (by decide)) (by rfl) T.m_f_law_draw T.k_f_law_draw T.d_f_law_draw .nil pass0 (@pa_cons _ _ _ _ _ (@pv _ 0 _ _ rfl (Or.inl rfl) rfl rfl) (@pa_cons _ _ _ _ _ (@pe_int _ _ _ _) (@pa_nil _) (by rfl)) (by rfl)) (by decide) (by rfl) (by rfl)) (by rfl) (by first | exact .inl rfl | exact .inr rfl)) (@pss_cons _ _ _ _ _ (@ps_if _ _ _ _ _ _ _ _ (@PW.pt _ _ _ (@pw_or _ _ _ _ _ _ _ (@pt_cmpR _ _ _ _ _ _ _ _ op_eq (@pv _ 6 _ _ rfl (Or.inl rfl) rfl rfl) (@pe_int _ _ _ _) (nomark _)) (@pw_or1 _ _ _ _ (@PW.pt _ _ _ (@pw_and _ _ _ _ _ _ _ (@pt_cmpR _ _ _ _ _ _ _ _ op_eq (@pv _ 6 _ _ rfl (Or.inl rfl) rfl rfl) (@pe_int _ _ _ _) (nomark _)) (@pw_and1 _ _ _ _ (@pt_cmpR _ _ _ _ _ _ _ _ op_eq (@pv _ 4 _ _ rfl (Or.inl rfl) rfl rfl) (@pe_int _ _ _ _) (nomark _)))))))) (@pss_one _ _ _ (@ps_ret _ _ _ _ (@pe_tupA _ _ _ _ _ (@pa_cons _ _ _ _ _ (@pe_op _ _ _ _ _ _ _ _ op_add (@pe_op _ _ _ _ _ _ _ _ op_add (@pv _ 3 _ _ rfl (Or.inl rfl) rfl rfl) (@pe_int _ _ _ _)) (@pe_call _ _ _ _ _ _ _ _ _ _ _ _ _ _ _ _ gf_law_draw (hr.mono (by decide)) (by rfl) T.m_f_law_draw T.k_f_law_draw T.d_f_law_draw .nil pass0 (@pa_cons _ _ _ _ _ (@pv _ 0 _ _ rfl (Or.inl rfl) rfl rfl) (@pa_cons _ _ _ _ _ (@pv _ 2 _ _ rfl (Or.inl rfl) rfl rfl) (@pa_nil _) (by rfl)) (by rfl)) (by decide) (by rfl) (by rfl))) (@pa_cons _ _ _ _ _ (@pe_call _ _ _ _ _ _ _ _ _ _ _ _ _ _ _ _ gf_law_draw (hr.mono (by decide)) (by rfl) T.m_f_law_draw T.k_f_law_draw T.d_f_law_draw .nil pass0 (@pa_cons _ _ _ _ _ (@pv _ 0 _ _ rfl (Or.inl rfl) rfl rfl) (@pa_cons _ _ _ _ _ (@pe_int _ _ _ _) (@pa_nil _) (by rfl)) (by rfl)) (by decide) (by rfl) (by rfl)) (@pa_cons _ _ _ _ _ (@pe_call _ _ _ _ _ _ _ _ _ _ _ _ _ _ _ _ gf_law_draw (hr.mono (by decide)) (by rfl) T.m_f_law_draw T.k_f_law_draw T.d_f_law_draw .nil pass0 (@pa_cons _ _ _ _ _ (@pv _ 0 _ _ rfl (Or.inl rfl) rfl rfl) (@pa_cons _ _ _ _ _ (@pe_int _ _ _ _) (@pa_nil _) (by rfl)) (by rfl)) (by decide) (by rfl) (by rfl)) (@pa_nil _) (by rfl)) (by rfl)) (by rfl))))) (@pss_nil _)) (@pss_cons _ _ _ _ _ (@ps_if _ _ _ _ _ _ _ _ (@pt_cmpR _ _ _ _ _ _ _ _ op_eq (@pv _ 6 _ _ rfl (Or.inl rfl) rfl rfl) (@pe_int _ _ _ _) (nomark _)) (@pss_one _ _ _ (@ps_ret _ _ _ _ (@pe_tupA _ _ _ _ _ (@pa_cons _ _ _ _ _ (@pv _ 3 _ _ rfl (Or.inl rfl) rfl rfl) (@pa_cons _ _ _ _ _ (@pe_op _ _ _ _ _ _ _ _ op_add (@pe_op _ _ _ _ _ _ _ _ op_add (@pv _ 4 _ _ rfl (Or.inl rfl) rfl rfl) (@pe_int _ _ _ _)) (@pe_call _ _ _ _ _ _ _ _ _ _ _ _ _ _ _ _ gf_law_draw (hr.mono (by decide)) (by rfl) T.m_f_law_draw T.k_f_law_draw T.d_f_law_draw .nil pass0 (@pa_cons _ _ _ _ _ (@pv _ 0 _ _ rfl (Or.inl rfl) rfl rfl) (@pa_cons _ _ _ _ _ (@pe_op _ _ _ _ _ _ _ _ op_sub (@pe_int _ _ _ _) (@pv _ 4 _ _ rfl (Or.inl rfl) rfl rfl)) (@pa_nil _) (by rfl)) (by rfl)) (by decide) (by rfl) (by rfl))) (@pa_cons _ _ _ _ _ (@pe_call _ _ _ _ _ _ _ _ _ _ _ _ _ _ _ _ gf_law_draw (hr.mono (by decide)) (by rfl) T.m_f_law_draw T.k_f_law_draw T.d_f_law_draw .nil pass0 (@pa_cons _ _ _ _ _ (@pv _ 0 _ _ rfl (Or.inl rfl) rfl rfl) (@pa_cons _ _ _ _ _ (@pe_int _ _ _ _) (@pa_nil _) (by rfl)) (by rfl)) (by decide) (by rfl) (by rfl)) (@pa_nil _) (by rfl)) (by rfl)) (by rfl))))) (@pss_nil _)) (@pss_one _ _ _ (@ps_ret _ _ _ _ (@pe_tupA _ _ _ _ _ (@pa_cons _ _ _ _ _ (@pv _ 3 _ _ rfl (Or.inl rfl) rfl rfl) (@pa_cons _ _ _ _ _ (@pv _ 4 _ _ rfl (Or.inl rfl) rfl rfl) (@pa_cons _ _ _ _ _ (@pe_op _ _ _ _ _ _ _ _ op_add (@pe_op _ _ _ _ _ _ _ _ op_add (@pv _ 5 _ _ rfl (Or.inl rfl) rfl rfl) (@pe_int _ _ _ _)) (@pe_call _ _ _ _ _ _ _ _ _ _ _ _ _ _ _ _ gf_law_draw (hr.mono (by decide)) (by rfl) T.m_f_law_draw T.k_f_law_draw T.d_f_law_draw .nil pass0 (@pa_cons _ _ _ _ _ (@pv _ 0 _ _ rfl (Or.inl rfl) rfl rfl) (@pa_cons _ _ _ _ _ (@pe_int _ _ _ _) (@pa_nil _) (by rfl)) (by rfl)) (by decide) (by rfl) (by rfl))) (@pa_nil _) (by rfl)) (by rfl)) (by rfl))))))))), ?_⟩
  obtain ⟨p, lq, n, a, b, c, m, rfl, r0, hn, hlq, hb, hm0, hm, kk⟩ := h
  have go : ∀ {Ha Hb : Hp}, Same (del H p) Ha → Same (del Ha p) Hb → Same (del H p) Hb := fun s t => (s.cut del_at).trans t
  refine ⟨_, rfl, lq, _, rfl, SqT.of hlq, rfl, _, _, rfl, _, _, rfl, _, _, rfl, rfl, ?_⟩
  refine ⟨_, rfl, p, n, 3, rfl, r0, by omega, by omega, by omega, fun H1 r s1 r1 hr => ?_⟩
  have i1 : ∀ {x y : Nat}, decide (V.int (x : Int) = V.int (y : Int)) = decide (x = y) := fun {x y} => by
    by_cases h : x = y
    · rw [h, decide_eq_true rfl, decide_eq_true rfl]
    · rw [decide_eq_false h, decide_eq_false fun z => h (by injection z; omega)]
  refine ⟨_, rfl, rfl, _, rfl, ?_⟩
  refine ite2 (fun c0 => ?_) fun c0 => ?_
  rotate_left
  · have c0 : r ≠ 0 := fun z => c0 (by rw [z]; rfl)
    refine ⟨_, rfl, rfl, _, rfl, ?_⟩
    refine ite2 (fun c1 => ?_) fun c1 => ?_
    · have c1 : r = 1 := of_decide_eq_true (i1 (y := 1) ▸ c1)
      refine ⟨_, rfl, rfl, _, rfl, ?_⟩
      refine ite2 (fun c2 => ?_) fun c2 => ?_
      · have c2 : b = 5 := of_decide_eq_true (i1 (y := 5) ▸ c2)
        refine ⟨_, rfl, _, _, rfl, rfl, _, rfl, _, rfl, p, _, m, rfl, r1, by omega, by omega, by omega, fun H2 x s2 r2 hx => ?_⟩
        refine ⟨_, _, rfl, rfl, _, rfl, p, _, 6, rfl, r2, by omega, by omega, by omega, fun H3 y s3 r3 hy => ?_⟩
        refine ⟨_, rfl, p, _, 12, rfl, r3, by omega, by omega, by omega, fun H4 z s4 r4 hz => ?_⟩
        refine ⟨szOk rfl, fun q H5 g5 s5 e5 => ?_⟩
        refine kk H5 q (a + 1 + x) y z ((go (go (go s1 s2) s3) s4).trans s5) (r4.same s5) (.inl (by omega)) (by omega) (by omega) ?_
        rw [show ((a + 1 + x : Nat) : Int) = (a : Int) + 1 + (x : Int) by omega]
        exact e5
      · have c2 : b ≠ 5 := fun z => c2 (by rw [z]; rfl)
        refine ⟨_, rfl, rfl, _, rfl, itT (by rw [c1]; rfl) ?_⟩
        refine ⟨_, rfl, _, rfl, _, _, rfl, rfl, _, rfl, _, rfl, _, _, rfl, rfl, p, _, 5 - b, (by rw [show ((5 - b : Nat) : Int) = 5 - (b : Int) by omega]; rfl), r1, by omega, by omega, by omega, fun H2 x s2 r2 hx => ?_⟩
        refine ⟨_, _, rfl, rfl, _, rfl, p, _, 12, rfl, r2, by omega, by omega, by omega, fun H4 z s4 r4 hz => ?_⟩
        refine ⟨szOk rfl, fun q H5 g5 s5 e5 => ?_⟩
        refine kk H5 q a (b + 1 + x) z ((go (go s1 s2) s4).trans s5) ((r4.same s5).more (by omega)) (.inr ⟨rfl, .inl (by omega)⟩) (by omega) (by omega) ?_
        rw [show ((b + 1 + x : Nat) : Int) = (b : Int) + 1 + (x : Int) by omega]
        exact e5
    · have c1 : r ≠ 1 := fun z => c1 (by rw [z]; rfl)
      refine itF rfl ?_
      refine ⟨_, rfl, rfl, _, rfl, itF (decide_eq_false fun z => c1 (by injection z; omega)) ?_⟩
      refine ⟨_, rfl, _, rfl, _, rfl, _, _, rfl, rfl, _, rfl, p, _, 12, rfl, r1, by omega, by omega, by omega, fun H2 x s2 r2 hx => ?_⟩
      refine ⟨_, _, rfl, rfl, szOk rfl, fun q H5 g5 s5 e5 => ?_⟩
      refine kk H5 q a b (c + 1 + x) ((go s1 s2).trans s5) ((r2.same s5).more (by omega)) (.inr ⟨rfl, .inr ⟨rfl, by omega⟩⟩) (by omega) (by omega) ?_
      rw [show ((c + 1 + x : Nat) : Int) = (c : Int) + 1 + (x : Int) by omega]
      exact e5
  · refine ⟨_, rfl, _, _, rfl, rfl, _, rfl, _, rfl, p, _, m, rfl, r1, by omega, by omega, by omega, fun H2 x s2 r2 hx => ?_⟩
    refine ⟨_, _, rfl, rfl, _, rfl, p, _, 6, rfl, r2, by omega, by omega, by omega, fun H3 y s3 r3 hy => ?_⟩
    refine ⟨_, rfl, p, _, 12, rfl, r3, by omega, by omega, by omega, fun H4 z s4 r4 hz => ?_⟩
    refine ⟨szOk rfl, fun q H5 g5 s5 e5 => ?_⟩
    refine kk H5 q (a + 1 + x) y z ((go (go (go s1 s2) s3) s4).trans s5) (r4.same s5) (.inl (by omega)) (by omega) (by omega) ?_
    rw [show ((a + 1 + x : Nat) : Int) = (a : Int) + 1 + (x : Int) by omega]
    exact e5
theorem ok_f_law_chain (T : Txt K mg d tk) (gf_law_draw : FnOk P w K mg base CX0 1 d.f_law_draw d.f_law_drawd ["_law_state", "_law_many"] (sp_f_law_draw K)) : FnOk P w K mg base CX0 2 d.f_law_chain d.f_law_chaind ["_law_state", "_law_places_here", "_law_due"] (sp_f_law_chain K) := by
  refine T.F_f_law_chain.ok sc_f_law_chain (fun vs H Q E h => len_f_law_chain h) (fun cdv A outer s H vs Q E hr h => ?_)
  have hu : (A.deeper (envOfC "_law_chain" (defScope s_f_law_chain) s.heap.objs.size d.f_law_chain cdv)).units < cLine := hr.units0
  refine ⟨_, (@pss_cons _ _ _ _ _ (@ps_set _ _ (3) _ _ _ _ sc_f_law_chain.nd rfl (Or.inl rfl) (@pe_call _ _ _ _ _ _ _ _ _ _ _ _ _ _ _ _ gf_law_draw (hr.mono (by decide)) (by rfl) T.m_f_law_draw T.k_f_law_draw T.d_f_law_draw .nil pass0 (@pa_cons _ _ _ _ _ (@pv _ 0 _ _ rfl (Or.inl rfl) rfl rfl) (@pa_cons _ _ _ _ _ (@pe_op _ _ _ _ _ _ _ _ op_add (@pe_callB _ _ _ _ _ _ _ _ _ call_len_seq (by rfl) T.b_len boot_len (@pa_cons _ _ _ _ _ (@pv _ 2 _ _ rfl (Or.inl rfl) rfl rfl) (@pa_nil _) (by rfl)) (by decide) (by decide) (by rfl) (by rfl)) (@pe_int _ _ _ _)) (@pa_nil _) (by rfl)) (by rfl)) (by decide) (by rfl) (by rfl)) (by rfl) (by first | exact .inl rfl | exact .inr rfl)) (@pss_cons _ _ _ _ _ (@ps_set _ _ (4) _ _ _ _ sc_f_law_chain.nd rfl (Or.inl rfl) (@pe_ix _ _ _ _ _ _ _ ix_list (@pe_op _ _ _ _ _ _ _ _ op_catA (@pe_lstA _ _ _ _ (@pa_cons _ _ _ _ _ (@pe_non _ _ _) (@pa_nil _) (by rfl))) (@pv _ 2 _ _ rfl (Or.inl rfl) rfl rfl)) (@pv _ 3 _ _ rfl (Or.inl rfl) rfl rfl) (fun _ _ => rfl)) (by rfl) (by first | exact .inl rfl | exact .inr rfl)) (@pss_cons _ _ _ _ _ (@ps_set _ _ (5) _ _ _ _ sc_f_law_chain.nd rfl (Or.inl rfl) (@pe_op _ _ _ _ _ _ _ _ op_add (@pe_int _ _ _ _) (@pe_call _ _ _ _ _ _ _ _ _ _ _ _ _ _ _ _ gf_law_draw (hr.mono (by decide)) (by rfl) T.m_f_law_draw T.k_f_law_draw T.d_f_law_draw .nil pass0 (@pa_cons _ _ _ _ _ (@pv _ 0 _ _ rfl (Or.inl rfl) rfl rfl) (@pa_cons _ _ _ _ _ (@pe_int _ _ _ _) (@pa_nil _) (by rfl)) (by rfl)) (by decide) (by rfl) (by rfl))) (by rfl) (by first | exact .inl rfl | exact .inr rfl)) (@pss_cons _ _ _ _ _ (@ps_set _ _ (6) _ _ _ _ sc_f_law_chain.nd rfl (Or.inl rfl) (@pe_ix _ _ _ _ _ _ _ ix_tup (@pe_callB _ _ _ _ _ _ _ _ _ (call_maxT rfl (hu61 hr)) (by rfl) T.b_max boot_max (@pa_cons _ _ _ _ _ (@pe_op _ _ _ _ _ _ _ _ op_catA (@pe_lcomp _ _ _ _ _ _ _ (["_law_place"]) ([]) _ _ _ _ _ rfl (@pi_list _ _ _ _ (@pv _ 1 _ _ rfl (Or.inl rfl) rfl rfl)) ⟨rfl, by decide +kernel, by decide +kernel⟩ (caps0 (by decide +kernel)) (fun _ _ _ => (@pg_name _ _ (0) _ (by show List.Nodup (["_law_place"] : List Str); decide +kernel) rfl (Or.inl rfl) (by first | exact .inl rfl | exact .inr rfl))) (fun _ => fresh_name rfl) (fun _ _ _ => (@pts_nil _)) (fun _ _ _ => (@pe_ix _ _ _ _ _ _ _ (ix_tupK (K := K) rfl) (@pv _ 0 _ _ rfl (Or.inl rfl) rfl rfl) (@pe_int _ _ _ _) (fun _ _ => rfl))) (by intro _; rfl)) (@pe_lstA _ _ _ _ (@pa_cons _ _ _ _ _ (@pe_tupA _ _ _ _ _ (@pa_cons _ _ _ _ _ (@pe_int _ _ _ _) (@pa_cons _ _ _ _ _ (@pe_int _ _ _ _) (@pa_nil _) (by rfl)) (by rfl))) (@pa_nil _) (by rfl)))) (@pa_nil _) (by rfl)) (by decide) (by decide) (by rfl) (by rfl)) (@pe_int _ _ _ _) (fun _ _ => rfl)) (by rfl) (by first | exact .inl rfl | exact .inr rfl)) (@pss_cons _ _ _ _ _ (@ps_set _ _ (7) _ _ _ _ sc_f_law_chain.nd rfl (Or.inl rfl) (@pe_op _ _ _ _ _ _ _ _ op_repU (@pe_tupA _ _ _ _ _ (@pa_cons _ _ _ _ _ (@pe_int _ _ _ _) (@pa_nil _) (by rfl))) (@pe_op _ _ _ _ _ _ _ _ op_sub (@pe_callB _ _ _ _ _ _ _ _ _ call_len_seq (by rfl) T.b_len boot_len (@pa_cons _ _ _ _ _ (@pe_ix _ _ _ _ _ _ _ ix_list (@pe_op _ _ _ _ _ _ _ _ op_catA (@pv _ 2 _ _ rfl (Or.inl rfl) rfl rfl) (@pe_lstA _ _ _ _ (@pa_cons _ _ _ _ _ (@pe_tupA _ _ _ _ _ (@pa_cons _ _ _ _ _ (@pe_int _ _ _ _) (@pa_cons _ _ _ _ _ (@pe_int _ _ _ _) (@pa_nil _) (by rfl)) (by rfl))) (@pa_nil _) (by rfl)))) (@pe_int _ _ _ _) (fun _ _ => rfl)) (@pa_nil _) (by rfl)) (by decide) (by decide) (by rfl) (by rfl)) (@pe_int _ _ _ _))) (by rfl) (by first | exact .inl rfl | exact .inr rfl)) (@pss_one _ _ _ (@ps_for _ _ _ _ _ _ _ _ PassesOwn.never rfl (@pi_range1 _ _ _ _ _ _ (by rfl) T.b_range (@pa_cons _ _ _ _ _ (@pe_op _ _ _ _ _ _ _ _ op_add (@pe_int _ _ _ _) (@pe_call _ _ _ _ _ _ _ _ _ _ _ _ _ _ _ _ gf_law_draw (hr.mono (by decide)) (by rfl) T.m_f_law_draw T.k_f_law_draw T.d_f_law_draw .nil pass0 (@pa_cons _ _ _ _ _ (@pv _ 0 _ _ rfl (Or.inl rfl) rfl rfl) (@pa_cons _ _ _ _ _ (@pe_int _ _ _ _) (@pa_nil _) (by rfl)) (by rfl)) (by decide) (by rfl) (by rfl))) (@pa_nil _) (by rfl)) (by rfl)) (@pg_name _ _ (8) _ sc_f_law_chain.nd rfl (Or.inl rfl) (by first | exact .inl rfl | exact .inr rfl)) (@pss_cons _ _ _ _ _ (@ps_set _ _ (9) _ _ _ _ sc_f_law_chain.nd rfl (Or.inl rfl) (@pe_op _ _ _ _ _ _ _ _ op_catU (@pe_tupA _ _ _ _ _ (@pa_cons _ _ _ _ _ (@pe_str _ _ _ _) (@pa_cons _ _ _ _ _ (@pe_op _ _ _ _ _ _ _ _ op_add (@pe_int _ _ _ _) (@pv _ 8 _ _ rfl (Or.inl rfl) rfl rfl)) (@pa_nil _) (by rfl)) (by rfl))) (@pv _ 7 _ _ rfl (Or.inl rfl) rfl rfl)) (by rfl) (by first | exact .inl rfl | exact .inr rfl)) (@pss_cons _ _ _ _ _ (@ps_expr _ _ _ _ (@pe_bm _ _ _ _ _ _ _ _ _ _ _ _ PySem.F.plainAttrs_list PySem.F.slot_list_append PySem.F.type_list_append mt_append (@pv _ 1 _ _ rfl (Or.inl rfl) rfl rfl) (@pa_cons _ _ _ _ _ (@pe_tupA _ _ _ _ _ (@pa_cons _ _ _ _ _ (@pv _ 9 _ _ rfl (Or.inl rfl) rfl rfl) (@pa_cons _ _ _ _ _ (@pv _ 4 _ _ rfl (Or.inl rfl) rfl rfl) (@pa_cons _ _ _ _ _ (@pe_tupA _ _ _ _ _ (@pa_cons _ _ _ _ _ (@pe_op _ _ _ _ _ _ _ _ op_add (@pe_op _ _ _ _ _ _ _ _ op_add (@pv _ 6 _ _ rfl (Or.inl rfl) rfl rfl) (@pe_int _ _ _ _)) (@pv _ 8 _ _ rfl (Or.inl rfl) rfl rfl)) (@pa_cons _ _ _ _ _ (@pe_int _ _ _ _) (@pa_cons _ _ _ _ _ (@pe_int _ _ _ _) (@pa_nil _) (by rfl)) (by rfl)) (by rfl))) (@pa_nil _) (by rfl)) (by rfl)) (by rfl))) (@pa_nil _) (by rfl)) (by rfl) (by rfl) (by rfl) (by rfl) (by rfl)) (by rfl)) (@pss_cons _ _ _ _ _ (@ps_expr _ _ _ _ (@pe_bm _ _ _ _ _ _ _ _ _ _ _ _ PySem.F.plainAttrs_list PySem.F.slot_list_insert PySem.F.type_list_insert mt_insert (@pv _ 2 _ _ rfl (Or.inl rfl) rfl rfl) (@pa_cons _ _ _ _ _ (@pv _ 3 _ _ rfl (Or.inl rfl) rfl rfl) (@pa_cons _ _ _ _ _ (@pv _ 9 _ _ rfl (Or.inl rfl) rfl rfl) (@pa_nil _) (by rfl)) (by rfl)) (by rfl) (by rfl) (by rfl) (by rfl) (by rfl)) (by rfl)) (@pss_one _ _ _ (@ps_if _ _ _ _ _ _ _ _ (@pt_cmpR _ _ _ _ _ _ _ _ op_lt (@pe_op _ _ _ _ _ _ _ _ op_mod (@pv _ 8 _ _ rfl (Or.inl rfl) rfl rfl) (@pv _ 5 _ _ rfl (Or.inl rfl) rfl rfl)) (@pe_op _ _ _ _ _ _ _ _ op_sub (@pv _ 5 _ _ rfl (Or.inl rfl) rfl rfl) (@pe_int _ _ _ _)) (nomark _)) (@pss_cons _ _ _ _ _ (@ps_set _ _ (4) _ _ _ _ sc_f_law_chain.nd rfl (Or.inl rfl) (@pv _ 9 _ _ rfl (Or.inl rfl) rfl rfl) (by rfl) (by first | exact .inl rfl | exact .inr rfl)) (@pss_one _ _ _ (@ps_set _ _ (3) _ _ _ _ sc_f_law_chain.nd rfl (Or.inl rfl) (@pe_op _ _ _ _ _ _ _ _ op_add (@pv _ 3 _ _ rfl (Or.inl rfl) rfl rfl) (@pe_int _ _ _ _)) (by rfl) (by first | exact .inl rfl | exact .inr rfl)))) (@pss_nil _)))))) (by intro _; rfl)))))))), ?_⟩
  obtain ⟨st, pp, dp, pv, dv, p0, p1, p2, TS, js, n, rfl, hp, hd, ndp, ok, hl, hp1, apl, perm, adu, hS, hn, kk⟩ := h
  have W := ok.plw hl hp1
  have wfr : Rga.WF (Rga.qsOf (bhT TS) (List.range TS.length)) := W.wf
  have rlen := Rga.row_len wfr
  rw [List.length_range] at rlen
  have hdl : dv.length = TS.length := by rw [adu.1, rlen]
  have hjl : js.length = TS.length := by rw [perm.length_eq, List.length_range]
  have hpl : pv.length = TS.length := by rw [apl.1, hjl]
  have nps : pp ≠ st := fun z => by rw [z, del_at] at hp; cases hp
  have nds : dp ≠ st := fun z => by rw [z, del_at] at hd; cases hd
  have tD : Tups H (del H st) := hS.cut (Same.refl _)
  have aplD : AN (PL (nkT TS) (bhT TS) (dT p2 TS) (del H st)) pv js := apl.imp fun v i g => g.tups tD
  have aduD : AN (NM (nkT TS) (del H st)) dv (Rga.rowR (Rga.qsOf (bhT TS) (List.range TS.length))) := adu.imp fun v i g => g.tups tD
  have sD : Same (del H st) H := del_same
  have dst : del H st st = none := del_at
  generalize hHd : del H st = Hd at hp hd aplD aduD sD dst kk
  clear hHd
  have rmem : ∀ i ∈ Rga.rowR (Rga.qsOf (bhT TS) (List.range TS.length)), i < TS.length := fun i hi => List.mem_range.mp (Rga.row_mem wfr hi)
  have rnd := Rga.row_nodup wfr
  have go : ∀ {X Y : Hp}, Same Hd X → Same (del X st) Y → Same Hd Y := fun s t => (s.cut dst).trans t
  refine ⟨_, rfl, _, rfl, dp, _, rfl, .inl (SqL.of (sD _ _ hd)), _, _, rfl, rfl, st, _, dv.length + 1, (by rw [show ((dv.length + 1 : Nat) : Int) = (dv.length : Int) + 1 by omega]; rfl), hS, by omega, by omega, by omega, fun Ha r0 sa ra hr0 => ?_⟩
  have ta := go sD sa
  refine ⟨szOk rfl, fun z1 Hb gb sb eb => ?_⟩
  have tb := ta.trans sb
  refine ⟨_, rfl, z1, dp, _, _, rfl, rfl, eb, tb _ _ hd, big (by show 1 + dv.length ≤ 1000; omega), fun z2 Hc gc sc ec => ?_⟩
  have tc := tb.trans sc
  obtain ⟨vb0, hvb0, hgk0⟩ : ∃ vb, atI ([.non] ++ dv) (r0 : Int) = some vb ∧ GK Hd (kd (nkT TS) (Rga.bhAt (Rga.rowR (Rga.qsOf (bhT TS) (List.range TS.length))) r0)) vb := by
    cases r0 with
    | zero => exact ⟨.non, atI_nat (j := 0) rfl, rfl⟩
    | succ r =>
      have hr' : r < dv.length := by omega
      have hr2 : (Rga.rowR (Rga.qsOf (bhT TS) (List.range TS.length)))[r]? = some (Rga.rowR (Rga.qsOf (bhT TS) (List.range TS.length)))[r] := List.getElem?_eq_getElem (by omega)
      refine ⟨dv[r], atI_nat (j := r + 1) (by show dv[r]? = _; rw [List.getElem?_eq_getElem hr']), ?_⟩
      show GK Hd (kd (nkT TS) (Rga.rowR (Rga.qsOf (bhT TS) (List.range TS.length)))[r]?) dv[r]
      rw [hr2]
      exact aduD.2 r dv[r] _ (List.getElem?_eq_getElem hr') hr2
  refine ⟨_, rfl, z2, _, (r0 : Int), vb0, rfl, rfl, SqL.of ec, hvb0, ?_⟩
  have rc := (ra.same sb).same sc
  refine ⟨_, rfl, st, _, 20, rfl, rc, by omega, by omega, by omega, fun He d1 se re hd1 => ?_⟩
  have te := go tc se
  refine ⟨_, _, rfl, rfl, ?_⟩
  refine ⟨_, rfl, pp, rfl, ⟨_, SqL.of (te _ _ hp)⟩, lc_any (xs := pv) (big (by omega)) (fun j vs H' => Same He H' ∧ DTs H' vs ((js.take j).map (dT p2 TS))) ⟨Same.refl _, .nil⟩ (fun _ _ H' s' => SqL.of ((te.trans s'.1) _ _ hp)) (fun j x vs H' K1 K0 hx s' k1 k0 => ?_) fun H' np vs s' hy hq => ?_⟩
  · obtain ⟨s', dv'⟩ := s'
    obtain ⟨k, ek, pl⟩ := aplD.at hx
    obtain ⟨b, vn, vb, vk, rfl, h1, h2, h3, h4⟩ := pl.tups (te.trans s').tups
    refine iteT (B := K0 H') ?_
    refine ⟨_, rfl, b, _, 2, _, rfl, rfl, SqT.of h1, rfl, k1 _ _ ⟨s', ?_⟩⟩
    rw [List.take_add_one, ek, List.map_append]
    exact dts_snoc h4 dv'
  obtain ⟨s', dvs⟩ := s'
  rw [apl.1, List.take_length] at dvs
  have nH : Same H' (L2.upd H' np (.lst vs)) := Same.new hq
  refine ⟨szOk rfl, fun t1 Hf gf sf ef => ?_⟩
  refine ⟨szOk rfl, fun l1 Hg gg sg eg => ?_⟩
  refine ⟨np, l1, _, _, rfl, rfl, sg _ _ (sf _ _ upd_same), eg, big (by show vs.length + 1 ≤ 1000; omega), fun mq1 Hh gh sh eh => ?_⟩
  have tHh := ((nH.trans sf).trans sg).trans sh
  have dall : DTs Hh (vs ++ [.ref t1]) ((js.map (iT p2 TS) ++ [[1, 0]]).map fun (ks : List Int) => PyData.tuple (ks.map PyData.int)) := by
    rw [List.map_append, List.map_map]
    refine dts_snoc (.tup (sh _ _ (sg _ _ ef)) (.cons (.int _) (.cons (.int _) .nil))) ?_
    have e : js.map (dT p2 TS) = js.map ((fun (ks : List Int) => PyData.tuple (ks.map PyData.int)) ∘ iT p2 TS) := List.map_congr_left fun i _ => iT_D p2 TS i
    rw [← e]
    exact dvs.tups tHh.tups
  refine ⟨mq1, vs ++ [.ref t1], js.map (iT p2 TS) ++ [[1, 0]], rfl, SqL.of eh, dall.dv, by rw [List.length_append, List.length_singleton]; omega, fun m v ks hv hks hmax => ?_⟩
  have dtv := dts_get dall hv (d := .tuple (ks.map PyData.int)) (by rw [List.getElem?_map, hks]; rfl)
  obtain ⟨hi, h1, rest, rfl⟩ : ∃ r0 r1 rest, ks = r0 :: r1 :: rest := by
    rcases List.mem_append.mp (List.mem_of_getElem? hks) with z | z
    · obtain ⟨i, _, rfl⟩ := List.mem_map.mp z
      exact rkI_two _ _ _ _
    · rw [List.mem_singleton.mp z]
      exact ⟨_, _, _, rfl⟩
  obtain ⟨rb, rfl, erb⟩ : ∃ rb, v = .ref rb ∧ Hh rb = some (.tup ((hi :: h1 :: rest).map V.int)) := by
    cases dtv with
    | tup h1 h2 =>
      rw [dts_ints h2] at h1
      exact ⟨_, rfl, h1⟩
  have hhi : ∀ i, i < TS.length → ∃ x y r, iT p2 TS i = x :: y :: r ∧ x ≤ hi := fun i hi' => by
    obtain ⟨x, y, r, e⟩ := rkI_two p2 (TS.getD i d0).2.2.1 (TS.getD i d0).2.2.2.1 (TS.getD i d0).2.2.2.2
    have e' : iT p2 TS i = x :: y :: r := e
    refine ⟨x, y, r, e', ?_⟩
    have hle := hmax (iT p2 TS i) (List.mem_append_left _ (List.mem_map.mpr ⟨i, perm.mem_iff.mpr (List.mem_range.mpr hi'), rfl⟩))
    rw [e'] at hle
    rcases Int.lt_or_le hi x with z | z
    · have : ltD (.tuple ((hi :: h1 :: rest).map PyData.int)) (.tuple ((x :: y :: r).map PyData.int)) = true := by
        rw [ltD]
        exact ltD_int2 z
      rw [this] at hle
      cases hle
    · exact z
  refine ⟨rb, _, 0, .int hi, rfl, rfl, SqT.of erb, atI_nat (j := 0) rfl, ?_⟩
  have th : Same Hd Hh := (te.trans s').trans tHh
  refine ⟨szOk rfl, fun o1 Hi gi si ei => ?_⟩
  have ti := th.trans si
  refine ⟨_, rfl, szOk rfl, fun o2 Hj gj sj ej => ?_⟩
  refine ⟨szOk rfl, fun o3 Hk gk sk' ek => ?_⟩
  have tk' := (ti.trans sj).trans sk'
  refine ⟨dp, o3, _, _, rfl, rfl, tk' _ _ hd, ek, big (by show dv.length + 1 ≤ 1000; omega), fun o4 Hl gl sl el => ?_⟩
  have tl := tk'.trans sl
  obtain ⟨vf, xs, L, evf, exs, hxl, hL⟩ : ∃ vf xs, ∃ L : Nat, atI (dv ++ [.ref o2]) 0 = some (.ref vf) ∧ Hl vf = some (.tup xs) ∧ xs.length = L ∧ (L = 2 ∨ L = 3) := by
    cases hdv : dv with
    | nil =>
      exact ⟨o2, _, 2, atI_nat (j := 0) rfl, sl _ _ (sk' _ _ ej), rfl, .inl rfl⟩
    | cons v0 dv' =>
      have h0 : dv[0]? = some v0 := by rw [hdv]; rfl
      obtain ⟨i, hi2, nm⟩ := aduD.at h0
      obtain ⟨b, rfl, hb⟩ := nm
      obtain ⟨w, e, hn1, _⟩ := ok.name i (rmem i (List.mem_of_getElem? hi2))
      refine ⟨b, _, ((nkT TS i).map kV).length, atI_nat (j := 0) rfl, tl _ _ hb, rfl, ?_⟩
      rw [hn1, List.length_map]
      unfold nkOf
      by_cases z : p2 = 0
      · rw [if_pos z]; exact .inl rfl
      · rw [if_neg z]; exact .inr rfl
  refine ⟨o4, _, 0, _, rfl, rfl, SqL.of el, evf, ?_⟩
  refine ⟨vf, xs, rfl, .inr (SqT.of exs), ?_⟩
  refine ⟨_, _, rfl, rfl, ?_⟩
  have eo1 : Hl o1 = some (.tup [.int 0]) := sl _ _ (sk' _ _ (sj _ _ ei))
  refine ⟨o1, [.int 0], (xs.length : Int) - 2, rfl, rfl, eo1, (fun z => by cases z), (by omega), fun mq Hm ys sm em hk1 hk0 => ?_⟩
  have tm := tl.trans sm
  obtain ⟨mk, hmk, hys⟩ : ∃ mk : List Key, (mk = [] ∨ mk = [.inl 0]) ∧ ys = mk.map kV := by
    rcases hL with z | z
    · exact ⟨[], .inl rfl, hk0 (by omega)⟩
    · exact ⟨[.inl 0], .inr rfl, hk1 (by omega)⟩
  rw [hys] at em
  clear hk0 hk1 hys
  have sem : Same He Hm := ((((((s'.trans tHh).trans si).trans sj).trans sk').trans sl).trans sm)
  have rm := re.same sem
  refine ⟨_, rfl, st, _, 500, rfl, rm, by omega, by omega, by omega, fun Hn m0 sn rn hm0 => ?_⟩
  have tn := go tm sn
  refine ⟨_, _, rfl, rfl, ?_⟩
  have nms : mq ≠ st := fun z => by
    obtain ⟨_, _, _, _, h, _⟩ := rm
    rw [z, h] at em
    cases em
  have emn : Hn mq = some (.tup (mk.map kV)) := sn _ _ (by rw [del_ne nms]; exact em)
  have epn : Hn pp = some (.lst pv) := tn _ _ hp
  have edn : Hn dp = some (.lst dv) := tn _ _ hd
  have sB : Same (del (del Hd pp) dp) Hn := (del_same.trans del_same).trans tn
  have bp : del (del Hd pp) dp pp = none := del_free del_at
  have bd : del (del Hd pp) dp dp = none := del_at
  generalize del (del Hd pp) dp = HB at sB bp bd kk
  have an0 : AN (PL (nkC TS mk) (bhC TS []) (DC p2 TS hi) Hn) pv (js ++ (List.range 0).map (TS.length + ·)) := by
    rw [List.range_zero, List.map_nil, List.append_nil]
    refine ⟨aplD.1, fun m v i e1 e2 => ?_⟩
    have hi' : i < TS.length := List.mem_range.mp (perm.mem_iff.mp (List.mem_of_getElem? e2))
    exact ((aplD.2 m v i e1 e2).tups tn.tups).congr (nkC_old hi') (bhC_old hi') (by
      cases q : bhT TS i with
      | none => rfl
      | some b' => show KD.tup _ = KD.tup _; rw [nkC_old (mk := mk) (Nat.lt_trans (ok.back i hi' b' q) hi')]) (DC_old hi')
  have qs0 : Rga.qsOf (bhC TS []) (List.range (TS.length + 0)) = Rga.qsOf (bhT TS) (List.range TS.length) := Rga.qs_congr fun i hi' => (bhC_old hi').symm
  have ad0 : AN (NM (nkC TS mk) Hn) dv (Rga.rowR (Rga.qsOf (bhC TS []) (List.range (TS.length + 0)))) := by
    rw [qs0]
    exact ⟨aduD.1, fun m v i e1 e2 => ((aduD.2 m v i e1 e2).tups tn.tups).congr (nkC_old (rmem i (List.mem_of_getElem? e2)))⟩
  have gk0 : GK Hn (kd (nkC TS mk) (Rga.bhAt (Rga.rowR (Rga.qsOf (bhC TS []) (List.range (TS.length + 0)))) r0)) vb0 := by
    rw [qs0]
    have hq := hgk0.tups tn.tups
    cases q : Rga.bhAt (Rga.rowR (Rga.qsOf (bhT TS) (List.range TS.length))) r0 with
    | none => rw [q] at hq; exact hq
    | some b' =>
      rw [q] at hq
      have hb' : b' < TS.length := by
        cases r0 with
        | zero => cases q
        | succ r => exact rmem b' (List.mem_of_getElem? q)
      show GK Hn (.tup (nkC TS mk b')) vb0
      rw [← nkC_old (mk := mk) hb']
      exact hq
  have hcnt : (1000 + (m0 : Int)).toNat = 1000 + m0 := by omega
  refine ⟨_, rfl, by omega, by omega, for_range (lo := 0) (n := (1000 + (m0 : Int)).toNat) (fun j σ Hx => ∃ (CB : List (Option Nat)) (r : Nat) (ra : Int) (pv dv : List V) (vb : V) (u8 u9 : Option V), σ = [some (.ref st), some (.ref pp), some (.ref dp), some (.int ra), some vb, some (.int (3 + (d1 : Int))), some (.int hi), some (.ref mq), u8, u9] ∧ ra = (r : Int) ∧ Same HB Hx ∧ Hx mq = some (.tup (mk.map kV)) ∧ Hx pp = some (.lst pv) ∧ Hx dp = some (.lst dv) ∧
    CB.length = j ∧ AN (PL (nkC TS mk) (bhC TS CB) (DC p2 TS hi) Hx) pv (js ++ (List.range j).map (TS.length + ·)) ∧ AN (NM (nkC TS mk) Hx) dv (Rga.rowR (Rga.qsOf (bhC TS CB) (List.range (TS.length + j)))) ∧ r ≤ TS.length + j ∧ GK Hx (kd (nkC TS mk) (Rga.bhAt (Rga.rowR (Rga.qsOf (bhC TS CB) (List.range (TS.length + j)))) r)) vb ∧ (∀ m, m < CB.length → ∀ b, CB.getD m none = some b → b < TS.length + m))
    ⟨[], r0, _, pv, dv, vb0, _, _, rfl, rfl, sB, emn, epn, edn, rfl, an0, ad0, by omega, gk0, fun m hm => absurd hm (Nat.not_lt_zero _)⟩ ?_ ?_⟩
  · clear an0 ad0 gk0 qs0 hgk0 aduD aplD
    rintro j σ Hx hj ⟨CB, r, ra', pv, dv, vb, u8, u9, rfl, rfl, sx, emx, ex, edx, hCl, ap, ad, hr, hg, hCB⟩
    have hj' : j < 1500 := by omega
    subst hCl
    have back := bhC_back ok hCB
    have wfj := Rga.wf_range back
    have rlj := Rga.row_len wfj
    rw [List.length_range] at rlj
    have rndj := Rga.row_nodup wfj
    have rmj : ∀ i ∈ Rga.rowR (Rga.qsOf (bhC TS CB) (List.range (TS.length + CB.length))), i < TS.length + CB.length := fun i hi => List.mem_range.mp (Rga.row_mem wfj hi)
    generalize hrowj : Rga.rowR (Rga.qsOf (bhC TS CB) (List.range (TS.length + CB.length))) = rowj at ad hg rlj rndj rmj
    have hdl : dv.length = TS.length + CB.length := by rw [ad.1, rlj]
    have hpl : pv.length = TS.length + CB.length := by rw [ap.1, List.length_append, List.length_map, List.length_range, hjl]
    have hbx : ∀ b, Rga.bhAt rowj r = some b → b < TS.length + CB.length := fun b e => by
      cases r with
      | zero => cases e
      | succ r => exact rmj b (List.mem_of_getElem? e)
    refine ⟨_, rfl, _, _, rfl, rfl, szOk rfl, fun t1 Ja ga sa ea => ?_⟩
    refine ⟨_, rfl, t1, mq, _, _, rfl, rfl, ea, sa _ _ emx, (fun z => by cases z), ?_, fun nq Jb sb eb => ?_⟩
    · rcases hmk with rfl | rfl
      · exact szOk rfl
      · exact szOk rfl
    have enq : Jb nq = some (.tup ((nkC TS mk (TS.length + CB.length)).map kV)) := by
      rw [nkC_new]
      unfold cK
      rw [eb, List.map_append, show ((1000 + CB.length : Nat) : Int) = 1000 + (0 + (CB.length : Int)) by omega]
      rfl
    have sab := sa.trans sb
    refine ⟨_, rfl, .inl ⟨rfl, _, SqL.of (sab _ _ ex)⟩, _, rfl, _, rfl, _, rfl, _, _, rfl, rfl, _, rfl, _, _, rfl, rfl, szOk rfl, fun kq Jc gc sc ec => ?_⟩
    refine ⟨szOk rfl, fun tq Jd gd sd ed => ?_⟩
    have sad := (sab.trans sc).trans sd
    refine ⟨pp, _, _, rfl, rfl, sad _ _ ex, small2000 (by omega), ?_⟩
    have t1u : Tups Jd (L2.upd Jd pp (.lst (pv ++ [.ref tq]))) := Tups.wl (sad _ _ ex)
    have ede : (L2.upd Jd pp (.lst (pv ++ [.ref tq]))) dp = some (.lst dv) := by rw [upd_ne ndp]; exact sad _ _ edx
    refine ⟨_, rfl, .inl ⟨rfl, _, SqL.of ede⟩, _, rfl, _, rfl, dp, dv, _, _, rfl, rfl, ede, by omega, by omega, small2000 (by omega), ?_⟩
    rw [show min ((r : Int)).toNat dv.length = r by omega]
    have t2u : Tups (L2.upd Jd pp (.lst (pv ++ [.ref tq]))) (L2.upd (L2.upd Jd pp (.lst (pv ++ [.ref tq]))) dp (.lst (insV dv r (.ref nq)))) := Tups.wl ede
    have sJ : Same HB (L2.upd (L2.upd Jd pp (.lst (pv ++ [.ref tq]))) dp (.lst (insV dv r (.ref nq)))) := ((sx.trans sad).wr bp).wr bd
    have tuJ : Tups Jd (L2.upd (L2.upd Jd pp (.lst (pv ++ [.ref tq]))) dp (.lst (insV dv r (.ref nq)))) := t1u.trans t2u
    have ePJ : (L2.upd (L2.upd Jd pp (.lst (pv ++ [.ref tq]))) dp (.lst (insV dv r (.ref nq)))) pp = some (.lst (pv ++ [.ref tq])) := by rw [upd_ne ndp.symm, upd_same]
    have eDJ : (L2.upd (L2.upd Jd pp (.lst (pv ++ [.ref tq]))) dp (.lst (insV dv r (.ref nq)))) dp = some (.lst (insV dv r (.ref nq))) := upd_same
    have txJ : Tups Hx (L2.upd (L2.upd Jd pp (.lst (pv ++ [.ref tq]))) dp (.lst (insV dv r (.ref nq)))) := sad.tups.trans tuJ
    have tbJ : Tups Jb (L2.upd (L2.upd Jd pp (.lst (pv ++ [.ref tq]))) dp (.lst (insV dv r (.ref nq)))) := (sc.trans sd).tups.trans tuJ
    have tcJ : Tups Jc (L2.upd (L2.upd Jd pp (.lst (pv ++ [.ref tq]))) dp (.lst (insV dv r (.ref nq)))) := sd.tups.trans tuJ
    generalize L2.upd (L2.upd Jd pp (.lst (pv ++ [.ref tq]))) dp (.lst (insV dv r (.ref nq))) = J at sJ tuJ ePJ eDJ txJ tbJ tcJ
    have hnew : NM (nkC TS mk) J (.ref nq) (TS.length + CB.length) := ⟨nq, rfl, tbJ _ _ enq⟩
    have cbn : (CB ++ [Rga.bhAt rowj r]).getD CB.length none = Rga.bhAt rowj r := by
      rw [List.getD_eq_getElem?_getD, List.getElem?_append_right (Nat.le_refl _), Nat.sub_self]
      rfl
    have bhn : bhC TS (CB ++ [Rga.bhAt rowj r]) (TS.length + CB.length) = Rga.bhAt rowj r := by rw [bhC_new, cbn]
    have newPL : PL (nkC TS mk) (bhC TS (CB ++ [Rga.bhAt rowj r])) (DC p2 TS hi) J (.ref tq) (TS.length + CB.length) := by
      refine ⟨tq, .ref nq, vb, .ref kq, rfl, tuJ _ _ ed, hnew, by rw [bhn]; exact hg.tups txJ, ?_⟩
      rw [DC_new]
      refine .tup (tcJ _ _ ec) ?_
      rw [show hi + 1 + (CB.length : Int) = hi + 1 + (0 + (CB.length : Int)) by omega]
      exact .cons (.int _) (.cons (.int _) (.cons (.int _) .nil))
    have apJ : AN (PL (nkC TS mk) (bhC TS (CB ++ [Rga.bhAt rowj r])) (DC p2 TS hi) J) (pv ++ [.ref tq]) (js ++ (List.range (CB.length + 1)).map (TS.length + ·)) := by
      rw [List.range_succ, List.map_append, ← List.append_assoc]
      refine AN.snoc ⟨ap.1, fun m v i e1 e2 => ?_⟩ newPL
      have hi' : i < TS.length + CB.length := by
        rcases List.mem_append.mp (List.mem_of_getElem? e2) with z | z
        · have := List.mem_range.mp (perm.mem_iff.mp z); omega
        · obtain ⟨k, hk, rfl⟩ := List.mem_map.mp z
          have := List.mem_range.mp hk
          omega
      exact ((ap.2 m v i e1 e2).tups txJ).congr rfl (bhC_more hi') rfl rfl
    have rowJ : Rga.rowR (Rga.qsOf (bhC TS (CB ++ [Rga.bhAt rowj r])) (List.range (TS.length + (CB.length + 1)))) = Rga.insN rowj r (TS.length + CB.length) := by
      rw [show TS.length + (CB.length + 1) = TS.length + CB.length + 1 from rfl, Rga.row_next, bhn, Rga.qs_congr (bh := bhC TS (CB ++ [Rga.bhAt rowj r])) (bh' := bhC TS CB) (fun i hi => (bhC_more hi).symm), hrowj, Rga.ins_at rndj (by omega)]
    have adJ : AN (NM (nkC TS mk) J) (insV dv r (.ref nq)) (Rga.insN rowj r (TS.length + CB.length)) := AN.ins (ad.imp fun v i g => g.tups txJ) r hnew
    have hCB' : ∀ m, m < (CB ++ [Rga.bhAt rowj r]).length → ∀ b, (CB ++ [Rga.bhAt rowj r]).getD m none = some b → b < TS.length + m := fun m hm b e => by
      rw [List.length_append, List.length_singleton] at hm
      by_cases z : m < CB.length
      · refine hCB m z b ?_
        rw [List.getD_eq_getElem?_getD, List.getElem?_append_left z] at e
        rw [List.getD_eq_getElem?_getD]
        exact e
      · obtain rfl : m = CB.length := by omega
        rw [cbn] at e
        exact hbx b e
    have hlenC : (CB ++ [Rga.bhAt rowj r]).length = CB.length + 1 := by rw [List.length_append]; rfl
    have emJ : J mq = some (.tup (mk.map kV)) := txJ _ _ emx
    have bhn1 : Rga.bhAt (Rga.insN rowj r (TS.length + CB.length)) (r + 1) = some (TS.length + CB.length) := by
      show (Rga.insN rowj r (TS.length + CB.length))[r]? = some _
      unfold Rga.insN
      rw [List.getElem?_append_right (by rw [List.length_take]; omega), List.length_take, show r - min r rowj.length = 0 by omega]
      rfl
    have bhn0 : Rga.bhAt (Rga.insN rowj r (TS.length + CB.length)) r = Rga.bhAt rowj r := by
      cases r with
      | zero => rfl
      | succ r =>
        show (Rga.insN rowj (r + 1) (TS.length + CB.length))[r]? = rowj[r]?
        unfold Rga.insN
        rw [List.getElem?_append_left (by rw [List.length_take]; omega), List.getElem?_take_of_lt (by omega)]
    refine ⟨_, rfl, _, rfl, _, _, rfl, rfl, (by omega), _, rfl, _, _, rfl, rfl, _, _, rfl, rfl, _, rfl, ?_⟩
    refine ite2 (fun _ => ?_) fun _ => ?_
    · refine ⟨_, rfl, _, rfl, _, _, rfl, rfl, CB ++ [Rga.bhAt rowj r], r + 1, _, pv ++ [.ref tq], insV dv r (.ref nq), .ref nq, _, _, rfl, (by show (r : Int) + 1 = ((r + 1 : Nat) : Int); omega), sJ, emJ, ePJ, eDJ, hlenC, apJ, ?_, by omega, ?_, hCB'⟩
      · rw [rowJ]; exact adJ
      · rw [rowJ, bhn1]; exact hnew
    · refine ⟨CB ++ [Rga.bhAt rowj r], r, _, pv ++ [.ref tq], insV dv r (.ref nq), vb, _, _, rfl, rfl, sJ, emJ, ePJ, eDJ, hlenC, apJ, ?_, by omega, ?_, hCB'⟩
      · rw [rowJ]; exact adJ
      · rw [rowJ, bhn0]; exact hg.tups txJ
  · rintro σ Hx ⟨CB, r, ra', pv, dv, vb, u8, u9, rfl, rfl, sx, emx, ex, edx, hCl, ap, ad, hr, hg, hCB⟩
    rw [hcnt] at hCl ap ad
    have jp : (js ++ (List.range (1000 + m0)).map (TS.length + ·)).Perm (List.range (TS.length + (1000 + m0))) := by
      have e : List.range (TS.length + (1000 + m0)) = List.range TS.length ++ (List.range (1000 + m0)).map (TS.length + ·) := List.range_add
      rw [e]
      exact perm.append_right _
    refine kk Hx pv dv _ _ _ (TS.length + (1000 + m0)) _ sx ex edx ap jp ad ?_
    rw [← hCl]
    exact chain_ok ok hl hp1 hmk hhi hCB (by omega)
theorem ok_f_law_going (T : Txt K mg d tk) (hB : base.BuiltinsAt mg (tabP K "_law_going")) : FnOk P w K mg base CX0 2 d.f_law_going d.f_law_goingd ["_law_places_here"] (sp_f_law_going K) := by
  refine T.F_f_law_going.okC sc_f_law_going (fun vs H Q E h => len_f_law_going h) (fun cdv A outer s H vs Q E hcv hr h => ?_)
  have hcode : (envOfC "_law_going" (defScope s_f_law_going) s.heap.objs.size d.f_law_going cdv).code = .ref d.f_law_goingc := hcv.symm.trans T.LE_f_law_going
  have hu : (A.deeper (envOfC "_law_going" (defScope s_f_law_going) s.heap.objs.size d.f_law_going cdv)).units < cLine := hr.units0
  have hu1 : (A.deeper (envOfC "_law_going" (defScope s_f_law_going) s.heap.objs.size d.f_law_going cdv)).units + 1 < cLine := hu_of hr
  refine ⟨_, (@pss_cons _ _ _ _ _ (@ps_set _ _ (1) _ _ _ _ sc_f_law_going.nd rfl (Or.inl rfl) (@pe_dctG _ _) (by rfl) (by first | exact .inl rfl | exact .inr rfl)) (@pss_cons _ _ _ _ _ (@ps_for _ _ _ _ _ _ _ _ PassesOwn.never rfl (@pi_list _ _ _ _ (@pe_sortL _ (0) _ ("_law_place") _ _ _ _ _ _ _ _ _ _ _ _ hcode T.LC_f_law_going hB (hr.mono (by decide)) (by rfl) T.b_sorted boot_sorted ⟨rfl, rfl, rfl, by decide +kernel, rfl, by decide +kernel, by decide +kernel⟩ (fun _ _ _ _ => rfl) (fun _ _ _ _ _ _ => (@pe_ix _ _ _ _ _ _ _ (ix_tupK (K := K) rfl) (@pv _ 0 _ _ rfl (Or.inl rfl) rfl rfl) (@pe_int _ _ _ _) (fun _ _ => rfl))) (@pa_cons _ _ _ _ _ (@pv _ 0 _ _ rfl (Or.inl rfl) rfl rfl) (@pa_nil _) (by rfl)) (by rfl) (by rfl) (by decide) (by decide) (by rfl))) (@pg_tup _ _ _ _ _ _ rfl (@pgs_cons _ _ _ _ _ (@pg_name _ _ (2) _ sc_f_law_going.nd rfl (Or.inl rfl) (by first | exact .inl rfl | exact .inr rfl)) (@pgs_cons _ _ _ _ _ (@pg_name _ _ (3) _ sc_f_law_going.nd rfl (Or.inl rfl) (by first | exact .inl rfl | exact .inr rfl)) (@pgs_cons _ _ _ _ _ (@pg_name _ _ (4) _ sc_f_law_going.nd rfl (Or.inl rfl) (by first | exact .inl rfl | exact .inr rfl)) (@pgs_nil _) (by rfl)) (by rfl)) (by rfl)) (by rfl) (by rfl)) (@pss_one _ _ _ (@ps_dputG _ _ _ _ _ _ _ _ _ hu1 (@pv _ 1 _ _ rfl (Or.inl rfl) rfl rfl) (@pv _ 3 _ _ rfl (Or.inl rfl) rfl rfl) (@pe_op _ _ _ _ _ _ _ _ op_catA (@pe_lstA _ _ _ _ (@pa_cons _ _ _ _ _ (@pv _ 2 _ _ rfl (Or.inl rfl) rfl rfl) (@pa_nil _) (by rfl))) (@pe_bm _ _ _ _ _ _ _ _ _ _ _ _ PySem.F.plainAttrs_dict PySem.F.slot_dict_get PySem.F.type_dict_get (mt_get2G hu1) (@pv _ 1 _ _ rfl (Or.inl rfl) rfl rfl) (@pa_cons _ _ _ _ _ (@pv _ 3 _ _ rfl (Or.inl rfl) rfl rfl) (@pa_cons _ _ _ _ _ (@pe_lstA _ _ _ _ (@pa_nil _)) (@pa_nil _) (by rfl)) (by rfl)) (by rfl) (by rfl) (by rfl) (by rfl) (by rfl))) rfl)) (by intro _; rfl)) (@pss_cons _ _ _ _ _ (@ps_set _ _ (5) _ _ _ _ sc_f_law_going.nd rfl (Or.inl rfl) (@pe_lstA _ _ _ _ (@pa_nil _)) (by rfl) (by first | exact .inl rfl | exact .inr rfl)) (@pss_cons _ _ _ _ _ (@ps_set _ _ (6) _ _ _ _ sc_f_law_going.nd rfl (Or.inl rfl) (@pe_bm _ _ _ _ _ _ _ _ _ _ _ _ PySem.F.plainAttrs_dict PySem.F.slot_dict_get PySem.F.type_dict_get (mt_get2G hu1) (@pv _ 1 _ _ rfl (Or.inl rfl) rfl rfl) (@pa_cons _ _ _ _ _ (@pe_non _ _ _) (@pa_cons _ _ _ _ _ (@pe_lstA _ _ _ _ (@pa_nil _)) (@pa_nil _) (by rfl)) (by rfl)) (by rfl) (by rfl) (by rfl) (by rfl) (by rfl)) (by rfl) (by first | exact .inl rfl | exact .inr rfl)) (@pss_cons _ _ _ _ _ (@ps_while _ _ _ _ _ _ PassesOwn.never (@pt_cmpR _ _ _ _ _ _ _ _ (op_neD (hu64 hr)) (@pv _ 6 _ _ rfl (Or.inl rfl) rfl rfl) (@pe_lstA _ _ _ _ (@pa_nil _)) (nomark _)) (@pss_cons _ _ _ _ _ (@ps_expr _ _ _ _ (@pe_bm _ _ _ _ _ _ _ _ _ _ _ _ PySem.F.plainAttrs_list PySem.F.slot_list_append PySem.F.type_list_append mt_append (@pv _ 5 _ _ rfl (Or.inl rfl) rfl rfl) (@pa_cons _ _ _ _ _ (@pe_ix _ _ _ _ _ _ _ ix_list (@pv _ 6 _ _ rfl (Or.inl rfl) rfl rfl) (@pe_int _ _ _ _) (fun _ _ => rfl)) (@pa_nil _) (by rfl)) (by rfl) (by rfl) (by rfl) (by rfl) (by rfl)) (by rfl)) (@pss_one _ _ _ (@ps_set _ _ (6) _ _ _ _ sc_f_law_going.nd rfl (Or.inl rfl) (@pe_op _ _ _ _ _ _ _ _ op_catA (@pe_bm _ _ _ _ _ _ _ _ _ _ _ _ PySem.F.plainAttrs_dict PySem.F.slot_dict_get PySem.F.type_dict_get (mt_get2G hu1) (@pv _ 1 _ _ rfl (Or.inl rfl) rfl rfl) (@pa_cons _ _ _ _ _ (@pe_ix _ _ _ _ _ _ _ ix_list (@pv _ 6 _ _ rfl (Or.inl rfl) rfl rfl) (@pe_int _ _ _ _) (fun _ _ => rfl)) (@pa_cons _ _ _ _ _ (@pe_lstA _ _ _ _ (@pa_nil _)) (@pa_nil _) (by rfl)) (by rfl)) (by rfl) (by rfl) (by rfl) (by rfl) (by rfl)) (@pe_slice _ _ _ _ _ _ _ _ _ _ sl_listA (@pv _ 6 _ _ rfl (Or.inl rfl) rfl rfl) (@po_some _ _ _ (@pe_int _ _ _ _)) (@po_none _))) (by rfl) (by first | exact .inl rfl | exact .inr rfl))))) (@pss_one _ _ _ (@ps_ret _ _ _ _ (@pv _ 5 _ _ rfl (Or.inl rfl) rfl rfl)))))))), ?_⟩
  obtain ⟨p, pv, nk, bh, D, js, N, rfl, hp, an, perm, few, nw, back, keys, dist, hT, kk⟩ := h
  have hjl : js.length = N := by rw [perm.length_eq, List.length_range]
  have nP : ∀ {b u}, H b = some u → (∀ ps, u ≠ .tbl ps) → b ≠ tabP K "_law_going" := fun {b u} e hu z => by
    obtain ⟨ps, t'⟩ := hT.tbl
    rw [← z, e] at t'
    exact hu _ (Option.some.inj t')
  have tD : Tups H (del H (tabP K "_law_going")) := fun b xs e => by
    rw [del_ne (nP e fun ps z => by cases z)]
    exact e
  have anD : AN (PL nk bh D (del H (tabP K "_law_going"))) pv js := an.imp fun v i g => g.tups tD
  have sD : Same (del H (tabP K "_law_going")) H := del_same
  have dtp : del H (tabP K "_law_going") (tabP K "_law_going") = none := del_at
  have dp : del H (tabP K "_law_going") p = some (.lst pv) := by rw [del_ne (nP hp fun ps z => by cases z)]; exact hp
  generalize del H (tabP K "_law_going") = Hd at tD anD sD dtp dp kk
  intro ip H1 g1 s1 e1
  have t1 : Same Hd H1 := sD.trans s1
  have tb1 := hT.same s1
  refine ⟨_, rfl, tb1, fun H3 tb3 s3 => ?_⟩
  have n1 : ∀ {b u}, H1 b = some u → (∀ ps, u ≠ .tbl ps) → b ≠ tabP K "_law_going" := fun {b u} e hu z => by
    obtain ⟨ps, t'⟩ := tb1.tbl
    rw [← z, e] at t'
    exact hu _ (Option.some.inj t')
  have go3 : ∀ {b u}, H1 b = some u → (∀ ps, u ≠ .tbl ps) → H3 b = some u := fun {b u} e hu => del_same _ _ (s3 _ _ (by rw [del_ne (n1 e hu)]; exact e))
  have t3 : Same Hd H3 := ((t1.cut dtp).trans s3).trans del_same
  have e3 : H3 ip = some (.dG []) := go3 e1 fun ps z => by cases z
  have dip : Hd ip = none := sD.free g1
  refine ⟨p, pv, js.map D, 2, rfl, SqL.of (t3 _ _ dp), by rw [List.length_map, an.1], keys, by rw [an.1]; omega, fun m y d H' Q' q1 q2 s q => ?_, fun q H4 ix g4 s4 six e4 => ?_⟩
  · obtain ⟨k, ek, pl⟩ := anD.at q1
    rw [List.getElem?_map, ek] at q2
    cases Option.some.inj q2
    obtain ⟨b, vn, vb, vk, rfl, h1, h2, h3, h4⟩ := pl.tups (t3.trans s).tups
    exact ⟨_, rfl, b, _, 2, _, rfl, rfl, SqT.of h1, rfl, q H' _ (Same.refl _) h4.dv⟩
  have hix : ∀ i ∈ ix, i < pv.length := fun i hi => by
    have := (six.1.mem_iff).mp hi
    rw [List.mem_range, List.length_map] at this
    rw [an.1]
    exact this
  have a2 := anD.ix ix hix
  obtain ⟨mperm, mnd⟩ := sort_nd six
  generalize ix.map (fun i => js.getD i 0) = ms at a2 mperm mnd
  generalize ix.map (fun i => pv.getD i .non) = zs at e4 a2
  have mlt : ∀ i ∈ ms, i < N := fun i hi => List.mem_range.mp (perm.mem_iff.mp (mperm.mem_iff.mp hi))
  have mnodup : ms.Nodup := (mperm.trans perm).nodup_iff.mpr List.nodup_range
  have mup : ms.Pairwise fun a b => ltD (D a) (D b) = true := (mnd.and mnodup).imp_of_mem fun {a b} ha hb h => by
    cases e : ltD (D a) (D b) with
    | true => rfl
    | false =>
      have one := keys.one _ (List.mem_map.mpr ⟨a, mperm.mem_iff.mp ha, rfl⟩) _ (List.mem_map.mpr ⟨b, mperm.mem_iff.mp hb, rfl⟩)
      exact absurd (dist a (mlt a ha) b (mlt b hb) (ltD_tot _ _ one e h.1)) h.2
  have hzl : zs.length = ms.length := a2.1
  have hml : ms.length = N := by rw [mperm.length_eq, hjl]
  have t4 := t3.trans s4
  have e4i : H4 ip = some (.dG []) := s4 _ _ e3
  have nqi : q ≠ ip := fun z => by rw [z, e3] at g4; cases g4
  refine ⟨q, rfl, ⟨_, SqL.of e4⟩, for_list (xs := zs) (fun j σ Hx => ∃ (kvs : List (KD × V × V)) (u2 u3 u4 : Option V), σ = [some (.ref p), some (.ref ip), u2, u3, u4, none, none] ∧ Same (del H4 ip) Hx ∧ Hx ip = some (.dG kvs) ∧ kvs.length ≤ j ∧ INN nk bh N (ms.take j) ip Hx kvs) ⟨[], _, _, _, rfl, del_same, e4i, Nat.le_refl _, fun k _ => .inl ⟨rfl, rfl⟩⟩ (fun j σ Hx _ ⟨_, _, _, _, _, sx, _⟩ => SqL.of (sx _ _ (by rw [del_ne nqi]; exact e4))) ?_ ?_⟩
  · rintro j x σ Hx hx ⟨kvs, u2, u3, u4, rfl, sx, ex, hkl, inn⟩
    obtain ⟨m, em, pl⟩ := a2.at hx
    have tx : Same Hd Hx := (t4.cut dip).trans sx
    have hmm : m ∈ ms := List.mem_of_getElem? em
    have hj : j < ms.length := (List.getElem?_eq_some_iff.mp em).1
    have htk : ms.take (j + 1) = ms.take j ++ [m] := by rw [List.take_add_one, em]; rfl
    have hbk0 : ∀ i, bh m = some i → i < N := fun i e => by have := mlt m hmm; have := back m this i e; omega
    obtain ⟨b, vn, vb, vk, rfl, eb, hn', hbk, hd⟩ := pl.tups tx.tups
    refine ⟨b, _, rfl, SqT.of eb, rfl, _, _, rfl, _, _, rfl, _, _, rfl, rfl, ?_⟩
    refine ⟨_, rfl, szOk rfl, fun z1 Ha ga sa ea => ?_⟩
    refine ⟨_, rfl, .inr (.inr (.inl ⟨rfl, .inr (.inr ⟨kvs, sa _ _ ex⟩)⟩)), _, rfl, szOk rfl, fun z0 Hb gb sb eb' => ?_⟩
    have sab := sa.trans sb
    obtain ⟨a, vs, eav, eva, ava⟩ := (inn.same sab).get eb' (bh m) hbk0
    refine ⟨ip, kvs, kd nk (bh m), vb, .ref z0, rfl, rfl, sab _ _ ex, hbk.tups sab.tups, ?_⟩
    rw [show (vG kvs (kd nk (bh m))).getD (V.ref z0) = .ref a from eav]
    have vl : vs.length ≤ 64 := by
      rw [ava.1, List.length_reverse]
      unfold kids
      exact Nat.le_trans (List.length_filter_le _ _) (by rw [List.length_take]; omega)
    refine ⟨z1, a, _, _, rfl, rfl, sb _ _ ea, eva, big (by show 1 + vs.length ≤ 1000; omega), fun c Hc gc sc ec => ?_⟩
    have sxc := sab.trans sc
    have exc := sxc _ _ ex
    refine ⟨_, rfl, _, rfl, ip, kvs, kd nk (bh m), rfl, exc, hbk.tups sxc.tups, small1000 (by omega), ?_⟩
    have tw : Tups Hc (L2.upd Hc ip (.dG (pG kvs (kd nk (bh m)) vb (.ref c)))) := Tups.wd exc
    have nci : c ≠ ip := fun z => by rw [z, sab _ _ ex] at gc; cases gc
    refine ⟨_, _, _, _, rfl, (sx.trans sxc).wr del_at, upd_same, Nat.le_trans (pG_len kvs _ _ _) (Nat.succ_le_succ hkl), fun k hk => ?_⟩
    rw [htk, kids_snoc, vG_put]
    by_cases ek : bh m = k
    · subst ek
      rw [if_pos rfl, if_pos rfl, List.reverse_append]
      refine .inr ⟨c, _, rfl, by rw [upd_ne nci]; exact ec, nci, ?_⟩
      exact ((AN.one (hn'.tups sxc.tups)).app (ava.imp fun v i g => g.tups sc.tups)).imp fun v i g => g.tups tw
    · rw [if_neg ek, if_neg (fun z => ek (kd_inj nw.inj (fun i e => List.mem_range.mpr (hbk0 i e)) (fun i e => List.mem_range.mpr (hk i e)) z.symm))]
      rcases (inn.same sxc) k hk with z | ⟨q', vs', h1, h2, h4, h3⟩
      · exact .inl z
      · exact .inr ⟨q', vs', h1, by rw [upd_ne h4]; exact h2, h4, h3.imp fun v i g => g.tups tw⟩
  rintro σ Hx ⟨kvs, u2, u3, u4, rfl, sx, ex, hkl, inn⟩
  rw [hzl, List.take_length] at inn
  have tx : Same Hd Hx := (t4.cut dip).trans sx
  have kmem : ∀ k c, c ∈ (kids bh ms k).reverse ↔ c < N ∧ bh c = k := fun k c => by
    rw [List.mem_reverse]
    unfold kids
    rw [List.mem_filter, mperm.mem_iff, perm.mem_iff, List.mem_range]
    simp
  obtain ⟨rowF, dfs0⟩ := Rga.dfs_ex (f := fun k => (kids bh ms k).reverse) (n := N) (fun i c hc => by
    obtain ⟨h1, h2⟩ := (kmem (some i) c).mp hc
    exact ⟨back c h1 i h2, h1⟩) (fun c hc => ((kmem none c).mp hc).1)
  obtain ⟨rup, rperm⟩ := Rga.dfs_all (f := fun k => (kids bh ms k).reverse) (D := D) back kmem (fun k => by
    rw [List.pairwise_reverse]
    exact mup.filter _) (fun i => ltD_irr _) dfs0
  have rl : rowF.length = N := by rw [rperm.length_eq, List.length_range]
  have rin : ∀ i ∈ rowF, i < N := fun i hi => List.mem_range.mp (rperm.mem_iff.mp hi)
  refine ⟨szOk rfl, fun fp H6 g6 s6 e6 => ?_⟩
  refine ⟨_, rfl, .inr (.inr (.inl ⟨rfl, .inr (.inr ⟨kvs, s6 _ _ ex⟩)⟩)), szOk rfl, fun z0 H7 g7 s7 e7 => ?_⟩
  have s67 := s6.trans s7
  obtain ⟨a0, vs0, ea0, ev0, av0⟩ := (inn.same s67).get e7 none (fun i z => by cases z)
  refine ⟨ip, kvs, .non, .non, .ref z0, rfl, rfl, s67 _ _ ex, rfl, ?_⟩
  rw [show (vG kvs KD.non).getD (V.ref z0) = .ref a0 from ea0]
  have nf : ∀ {a vs}, Hx a = some (.lst vs) → a ≠ fp := fun {a vs} e z => by rw [z, g6] at e; cases e
  have na0 : a0 ≠ fp := by
    rcases inn none (fun i z => by cases z) with ⟨h1, _⟩ | ⟨q', vs', h1, h2, _⟩
    · rw [h1] at ea0
      have : V.ref z0 = V.ref a0 := ea0
      cases this
      exact fun z => by rw [z, e6] at g7; cases g7
    · rw [h1] at ea0
      have : V.ref q' = V.ref a0 := ea0
      cases this
      exact nf h2
  refine ⟨fun mm σ H5 => ∃ (out done st : List Nat) (fv lv : List V) (lp : Addr), σ = [some (.ref p), some (.ref ip), u2, u3, u4, some (.ref fp), some (.ref lp)] ∧ Same Hx H5 ∧ H5 fp = some (.lst fv) ∧ AN (NM nk H5) fv done ∧ H5 lp = some (.lst lv) ∧ AN (NM nk H5) lv st ∧ lp ≠ fp ∧ Rga.Dfs (fun k => (kids bh ms k).reverse) st out ∧ done ++ out = rowF ∧ mm = out.length,
    ⟨_, rowF, [], _, [], vs0, a0, rfl, s67, s7 _ _ e6, .nil, ev0, av0, na0, dfs0, rfl, rfl⟩, ?_⟩
  rintro mm σ H5 ⟨out, done, st, fv, lv, lp, rfl, s5, ef, af, el, al, nlf, dfs, hR, rfl⟩
  have hlen : done.length + out.length = N := by rw [← rl, ← hR, List.length_append]
  have hst := Rga.dfs_len dfs
  have sin : ∀ i ∈ st, i ∈ rowF := fun i hi => by rw [← hR]; exact List.mem_append_right _ ((Rga.dfs_has dfs).1 i hi)
  have nst := nw.sub (ls := st) fun i hi => List.mem_range.mpr (rin i (sin i hi))
  refine ⟨_, rfl, szOk rfl, fun e0 He ge se ee => ?_⟩
  have s5e := s5.trans se
  refine ⟨.list (st.map (dN nk)), .list [], .lst (SqL.of (se _ _ el)) ((al.imp fun v i g => g.tups se.tups).dts fun v i g => NM.dt g).dv, .lst (SqL.of ee) .nil, nst.keys.lay, rfl, ?_, _, rfl, ?_⟩
  · show min (PyData.depthAll _ + 1) (0 + 1) ≤ 64
    omega
  cases st with
  | nil =>
    refine itF rfl ?_
    have := dfs.nil_inv
    subst this
    rw [List.append_nil] at hR
    subst hR
    exact ⟨_, rfl, kk He fp fv _ (tx.trans s5e) (se _ _ ef) (af.imp fun v i g => g.tups se.tups) rup rperm⟩
  | cons x st' =>
    obtain ⟨out', rfl, dfs'⟩ := dfs.cons_inv
    have hxm := rin x (sin x List.mem_cons_self)
    obtain ⟨vx, lv', rfl⟩ : ∃ vx lv', lv = vx :: lv' := by
      have := al.1
      cases lv with
      | nil => simp at this
      | cons v l => exact ⟨v, l, rfl⟩
    have hx := al.2 0 vx x rfl rfl
    have al' : AN (NM nk H5) lv' st' := ⟨by have := al.1; simpa using this, fun m v i e1 e2 => al.2 (m + 1) v i (by simpa using e1) (by simpa using e2)⟩
    rw [List.length_cons] at hlen
    refine itT rfl ?_
    refine ⟨fun σ' H' => ∃ (fv lv : List V) (lp : Addr), σ' = [some (.ref p), some (.ref ip), u2, u3, u4, some (.ref fp), some (.ref lp)] ∧ Same Hx H' ∧ H' fp = some (.lst fv) ∧ AN (NM nk H') fv (done ++ [x]) ∧ H' lp = some (.lst lv) ∧ AN (NM nk H') lv ((kids bh ms (some x)).reverse ++ st') ∧ lp ≠ fp, fun σ' H' ⟨fv', lv2, lp', b1, b2, b3, b4, b5, b6, b7⟩ => ⟨out'.length, by rw [List.length_cons]; omega, out', done ++ [x], _, fv', lv2, lp', b1, b2, b3, b4, b5, b6, b7, dfs', by rw [List.append_assoc]; exact hR, rfl⟩, ?_⟩
    refine ⟨_, rfl, .inl ⟨rfl, _, SqL.of (se _ _ ef)⟩, _, rfl, lp, _, 0, vx, rfl, rfl, SqL.of (se _ _ el), atI_nat (j := 0) rfl, fp, _, _, rfl, rfl, se _ _ ef, (by rw [af.1]; exact small1000 (by omega)), ?_⟩
    have g6' : Hx fp = none := g6
    have s8 : Same Hx (L2.upd He fp (.lst (fv ++ [vx]))) := s5e.wr g6'
    have t8 : Tups He (L2.upd He fp (.lst (fv ++ [vx]))) := Tups.wl (se _ _ ef)
    have el8 : (L2.upd He fp (.lst (fv ++ [vx]))) lp = some (.lst (vx :: lv')) := by rw [upd_ne nlf]; exact se _ _ el
    have ef8 : (L2.upd He fp (.lst (fv ++ [vx]))) fp = some (.lst (fv ++ [vx])) := upd_same
    have t58 : Tups H5 (L2.upd He fp (.lst (fv ++ [vx]))) := se.tups.trans t8
    generalize L2.upd He fp (.lst (fv ++ [vx])) = H8 at s8 t8 el8 ef8 t58
    refine ⟨_, rfl, .inr (.inr (.inl ⟨rfl, .inr (.inr ⟨kvs, s8 _ _ ex⟩)⟩)), _, rfl, lp, _, 0, vx, rfl, rfl, SqL.of el8, atI_nat (j := 0) rfl, szOk rfl, fun z2 H9 g9 s9 e9 => ?_⟩
    have s89 := s8.trans s9
    obtain ⟨a9, vs9, ea9, ev9, av9⟩ := (inn.same s89).get e9 (some x) (fun i z => by cases z; exact hxm)
    refine ⟨ip, kvs, .tup (nk x), vx, .ref z2, rfl, rfl, s89 _ _ ex, hx.tups (t58.trans s9.tups), ?_⟩
    rw [show (vG kvs (KD.tup (nk x))).getD (V.ref z2) = .ref a9 from ea9]
    refine ⟨_, rfl, _, rfl, lp, _, rfl, SqL.of (s9 _ _ el8), fun x4 Ja ga sa ea => ?_⟩
    rw [show cutV (vx :: lv') (some 1) none = lv' from cut_drop (r := 1) (by simp)] at ea
    have kl : vs9.length + lv'.length ≤ 200 := by
      have h1 : (kids bh ms (some x)).reverse.length ≤ 64 := by
        rw [List.length_reverse]
        unfold kids
        exact Nat.le_trans (List.length_filter_le _ _) (by omega)
      have h2 := al'.1
      rw [List.length_cons] at hst
      rw [List.length_cons] at hst
      rw [av9.1]
      omega
    refine ⟨a9, x4, _, _, rfl, rfl, sa _ _ ev9, ea, big (by omega), fun lp2 Jb gb sb eb => ?_⟩
    have s9b := sa.trans sb
    have sAll := s89.trans s9b
    have t5b : Tups H5 Jb := (t58.trans s9.tups).trans s9b.tups
    refine ⟨fv ++ [vx], vs9 ++ lv', lp2, rfl, sAll, s9b _ _ (s9 _ _ ef8), (af.snoc hx).imp (fun v i g => g.tups t5b), eb, (av9.imp fun v i g => g.tups s9b.tups).app (al'.imp fun v i g => g.tups t5b), fun z => ?_⟩
    rw [z, sa _ _ (s9 _ _ ef8)] at gb
    cases gb
theorem ok_f_law_exchanged (T : Txt K mg d tk) (gf_law_draw : FnOk P w K mg base CX0 1 d.f_law_draw d.f_law_drawd ["_law_state", "_law_many"] (sp_f_law_draw K)) : FnOk P w K mg base CX0 2 d.f_law_exchanged d.f_law_exchangedd ["_law_state", "_law_places_here"] (sp_f_law_exchanged K) := by
  refine T.F_f_law_exchanged.ok sc_f_law_exchanged (fun vs H Q E h => len_f_law_exchanged h) (fun cdv A outer s H vs Q E hr h => ?_)
  have hu : (A.deeper (envOfC "_law_exchanged" (defScope s_f_law_exchanged) s.heap.objs.size d.f_law_exchanged cdv)).units < cLine := hr.units0
  refine ⟨_, (@pss_cons _ _ _ _ _ (@ps_setC _ (2) _ _ _ _ _ _ _ _ _ (["_law_place"]) ([]) _ _ _ _ _ sc_f_law_exchanged.nd rfl (Or.inl rfl) rfl (@pi_list _ _ _ _ (@pv _ 1 _ _ rfl (Or.inl rfl) rfl rfl)) ⟨rfl, by decide +kernel, by decide +kernel⟩ (caps0 (by decide +kernel)) (fun _ _ _ => (@pg_name _ _ (0) _ (by show List.Nodup (["_law_place"] : List Str); decide +kernel) rfl (Or.inl rfl) (by first | exact .inl rfl | exact .inr rfl))) (fun _ => fresh_name rfl) (fun _ _ _ => (@pts_nil _)) (fun _ _ _ => (@pe_ix _ _ _ _ _ _ _ (ix_tupK (K := K) rfl) (@pv _ 0 _ _ rfl (Or.inl rfl) rfl rfl) (@pe_int _ _ _ _) (fun _ _ => rfl))) (by intro _; rfl) (by rfl) (by first | exact .inl rfl | exact .inr rfl)) (@pss_cons _ _ _ _ _ (@ps_for _ _ _ _ _ _ _ _ PassesOwn.never rfl (@pi_range1 _ _ _ _ _ _ (by rfl) T.b_range (@pa_cons _ _ _ _ _ (@pe_callB _ _ _ _ _ _ _ _ _ call_len_seq (by rfl) T.b_len boot_len (@pa_cons _ _ _ _ _ (@pv _ 2 _ _ rfl (Or.inl rfl) rfl rfl) (@pa_nil _) (by rfl)) (by decide) (by decide) (by rfl) (by rfl)) (@pa_nil _) (by rfl)) (by rfl)) (@pg_name _ _ (3) _ sc_f_law_exchanged.nd rfl (Or.inl rfl) (by first | exact .inl rfl | exact .inr rfl)) (@pss_cons _ _ _ _ _ (@ps_set _ _ (4) _ _ _ _ sc_f_law_exchanged.nd rfl (Or.inl rfl) (@pe_call _ _ _ _ _ _ _ _ _ _ _ _ _ _ _ _ gf_law_draw (hr.mono (by decide)) (by rfl) T.m_f_law_draw T.k_f_law_draw T.d_f_law_draw .nil pass0 (@pa_cons _ _ _ _ _ (@pv _ 0 _ _ rfl (Or.inl rfl) rfl rfl) (@pa_cons _ _ _ _ _ (@pe_op _ _ _ _ _ _ _ _ op_add (@pv _ 3 _ _ rfl (Or.inl rfl) rfl rfl) (@pe_int _ _ _ _)) (@pa_nil _) (by rfl)) (by rfl)) (by decide) (by rfl) (by rfl)) (by rfl) (by first | exact .inl rfl | exact .inr rfl)) (@pss_cons _ _ _ _ _ (@ps_set _ _ (5) _ _ _ _ sc_f_law_exchanged.nd rfl (Or.inl rfl) (@pe_ix _ _ _ _ _ _ _ ix_list (@pv _ 2 _ _ rfl (Or.inl rfl) rfl rfl) (@pv _ 3 _ _ rfl (Or.inl rfl) rfl rfl) (fun _ _ => rfl)) (by rfl) (by first | exact .inl rfl | exact .inr rfl)) (@pss_cons _ _ _ _ _ (@ps_asg _ _ _ _ _ _ (@pe_ix _ _ _ _ _ _ _ ix_list (@pv _ 2 _ _ rfl (Or.inl rfl) rfl rfl) (@pv _ 4 _ _ rfl (Or.inl rfl) rfl rfl) (fun _ _ => rfl)) (@pg_sub _ _ _ _ _ _ _ (@pv _ 2 _ _ rfl (Or.inl rfl) rfl rfl) (@pv _ 3 _ _ rfl (Or.inl rfl) rfl rfl) set_list (by intro _; rfl)) (by rfl) (by rfl) (by rfl)) (@pss_one _ _ _ (@ps_asg _ _ _ _ _ _ (@pv _ 5 _ _ rfl (Or.inl rfl) rfl rfl) (@pg_sub _ _ _ _ _ _ _ (@pv _ 2 _ _ rfl (Or.inl rfl) rfl rfl) (@pv _ 4 _ _ rfl (Or.inl rfl) rfl rfl) set_list (by intro _; rfl)) (by rfl) (by rfl) (by rfl)))))) (by intro _; rfl)) (@pss_one _ _ _ (@ps_ret _ _ _ _ (@pe_lcomp _ _ _ _ _ _ _ (["_law_place", "_law_rank"]) ([]) _ _ _ _ _ rfl (@pi_zip _ _ _ _ _ _ _ _ _ (by rfl) T.b_zip (@pa_cons _ _ _ _ _ (@pv _ 1 _ _ rfl (Or.inl rfl) rfl rfl) (@pa_cons _ _ _ _ _ (@pv _ 2 _ _ rfl (Or.inl rfl) rfl rfl) (@pa_nil _) (by rfl)) (by rfl)) (by rfl) (by rfl)) ⟨rfl, by decide +kernel, by decide +kernel⟩ (caps0 (by decide +kernel)) (fun _ _ _ => (@pg_tup _ _ _ _ _ (2) rfl (@pgs_cons _ _ _ _ _ (@pg_name _ _ (0) _ (by show List.Nodup (["_law_place", "_law_rank"] : List Str); decide +kernel) rfl (Or.inl rfl) (by first | exact .inl rfl | exact .inr rfl)) (@pgs_cons _ _ _ _ _ (@pg_name _ _ (1) _ (by show List.Nodup (["_law_place", "_law_rank"] : List Str); decide +kernel) rfl (Or.inl rfl) (by first | exact .inl rfl | exact .inr rfl)) (@pgs_nil _) (by rfl)) (by rfl)) (by rfl) (by rfl))) (fun _ => fresh_pair rfl rfl (by decide)) (fun _ _ _ => (@pts_nil _)) (fun _ _ _ => (@pe_tupA _ _ _ _ _ (@pa_cons _ _ _ _ _ (@pe_ix _ _ _ _ _ _ _ (ix_tupK (K := K) rfl) (@pv _ 0 _ _ rfl (Or.inl rfl) rfl rfl) (@pe_int _ _ _ _) (fun _ _ => rfl)) (@pa_cons _ _ _ _ _ (@pe_ix _ _ _ _ _ _ _ (ix_tupK (K := K) rfl) (@pv _ 0 _ _ rfl (Or.inl rfl) rfl rfl) (@pe_int _ _ _ _) (fun _ _ => rfl)) (@pa_cons _ _ _ _ _ (@pv _ 1 _ _ rfl (Or.inl rfl) rfl rfl) (@pa_nil _) (by rfl)) (by rfl)) (by rfl)))) (by intro _; rfl)))))), ?_⟩
  obtain ⟨st, p, pv, nk, bh, D, js, n, rfl, hp, an, nd, hjl, hS, hn, kk⟩ := h
  have hpst : p ≠ st := fun z => by rw [z, del_at] at hp; cases hp
  have hp0 : H p = some (.lst pv) := by rw [del_ne hpst] at hp; exact hp
  have hpl := an.1
  refine ⟨_, rfl, p, rfl, ⟨_, SqL.of hp0⟩, lc_any (xs := pv) (big (by omega)) (fun j vs H' => Same H H' ∧ AN (fun v i => DT H' v (D i)) vs (js.take j)) ⟨Same.refl _, .nil⟩ (fun _ _ H' s' => SqL.of (s'.1 _ _ hp0)) (fun j x vs H' K1 K0 hx s' k1 k0 => ?_) fun H0 rq rv0 s' hy0 hq0 => ?_⟩
  · obtain ⟨s', av⟩ := s'
    obtain ⟨m, em, pl⟩ := an.at hx
    obtain ⟨b, vn, vb, vk, rfl, h1, h2, h3, h4⟩ := pl.tups s'.tups
    refine iteT (B := K0 H') ?_
    refine ⟨_, rfl, b, _, 2, _, rfl, rfl, SqT.of h1, rfl, k1 _ _ ⟨s', ?_⟩⟩
    rw [List.take_add_one, em]
    exact av.snoc h4
  obtain ⟨s0, av0⟩ := s'
  rw [hpl, List.take_length] at av0
  have nA : Same H0 (L2.upd H0 rq (.lst rv0)) := Same.new hq0
  have erq : (L2.upd H0 rq (.lst rv0)) rq = some (.lst rv0) := upd_same
  have sA := s0.trans nA
  have avA : AN (fun v i => DT (L2.upd H0 rq (.lst rv0)) v (D i)) rv0 js := av0.imp fun v i g => g.tups nA.tups
  have frq : H rq = none := s0.free hq0
  generalize L2.upd H0 rq (.lst rv0) = HA at nA erq sA avA
  have rA := hS.same sA
  have nrs : rq ≠ st := fun z => by
    obtain ⟨_, _, _, _, h, _⟩ := hS
    rw [z, h] at frq
    cases frq
  have nrp : p ≠ rq := fun z => by rw [z, frq] at hp0; cases hp0
  have cS : Same (del H st) HA := del_same.trans sA
  have cst : del H st st = none := del_at
  have crq : del H st rq = none := del_free frq
  have tD : Tups H (del H st) := hS.cut (Same.refl _)
  have anD : AN (PL nk bh D (del H st)) pv js := an.imp fun v i g => g.tups tD
  have hrl : rv0.length = js.length := avA.1
  have hlr : ((rv0.length : Int)).toNat = js.length := by omega
  refine ⟨_, rfl, rq, _, rfl, .inl (SqL.of erq), _, rfl, by omega, by omega, for_range (lo := 0) (n := ((rv0.length : Int)).toNat) (fun j σ Hx => ∃ (rv : List V) (rs : List Nat) (u3 u4 u5 : Option V), σ = [some (.ref st), some (.ref p), some (.ref rq), u3, u4, u5] ∧ Same (del H st) Hx ∧ SR Hx st (n + j) ∧ Hx rq = some (.lst rv) ∧ AN (fun v i => DT Hx v (D i)) rv rs ∧ rs.Perm js) ⟨_, js, _, _, _, rfl, cS, rA, erq, avA, .refl _⟩ ?_ ?_⟩
  · rintro j σ Hx hj ⟨rv, rs, u3, u4, u5, rfl, sx, rx, ex, ar, pr⟩
    have hj' : j < js.length := by omega
    have hrs : rs.length = js.length := pr.length_eq
    have hrv : rv.length = js.length := by rw [ar.1, hrs]
    refine ⟨_, rfl, _, rfl, _, _, rfl, rfl, st, _, j + 1, (by rw [show ((j + 1 : Nat) : Int) = 0 + (j : Int) + 1 by omega]; rfl), rx, by omega, by omega, by omega, fun Ha r sa ra hr => ?_⟩
    have exa : Ha rq = some (.lst rv) := sa _ _ (by rw [del_ne nrs]; exact ex)
    have ta : Tups Hx Ha := rx.cut sa
    have hr' : r < rv.length := by omega
    have hjv : j < rv.length := by omega
    have hj1 : rv[j]? = some rv[j] := List.getElem?_eq_getElem hjv
    have hr1 : rv[r]? = some rv[r] := List.getElem?_eq_getElem hr'
    have hj2 : rs[j]? = some (rs[j]'(by omega)) := List.getElem?_eq_getElem (by omega)
    have hr2 : rs[r]? = some (rs[r]'(by omega)) := List.getElem?_eq_getElem (by omega)
    have dj := (ar.2 j _ _ hj1 hj2).tups ta
    have dr := (ar.2 r _ _ hr1 hr2).tups ta
    have atj : atI rv (0 + (j : Int)) = some rv[j] := by rw [show (0 : Int) + (j : Int) = ((j : Nat) : Int) by omega]; exact atI_nat hj1
    have ixj : ∀ m : Nat, j < m → ixN m (0 + (j : Int)) = some j := fun m hm => by
      unfold ixN
      rw [if_pos (by omega), if_pos (by omega)]
      congr 1
      omega
    have ixr : ∀ m : Nat, r < m → ixN m (r : Int) = some r := fun m hm => by
      unfold ixN
      rw [if_pos (by omega), if_pos (by omega), Int.toNat_natCast]
    refine ⟨_, rfl, _, rfl, rq, _, _, _, rfl, rfl, SqL.of exa, atj, ?_⟩
    refine ⟨_, rfl, _, rfl, rq, _, _, _, rfl, rfl, SqL.of exa, atI_nat hr1, _, rfl, _, rfl, rq, _, _, j, rfl, rfl, exa, ixj _ hjv, ?_⟩
    have t1 : Tups Ha (L2.upd Ha rq (.lst (rv.set j rv[r]))) := Tups.wl exa
    refine ⟨_, rfl, _, rfl, _, rfl, rq, _, _, r, rfl, rfl, upd_same, ixr _ (by rw [List.length_set]; exact hr'), ?_⟩
    have t2 : Tups (L2.upd Ha rq (.lst (rv.set j rv[r]))) (L2.upd (L2.upd Ha rq (.lst (rv.set j rv[r]))) rq (.lst ((rv.set j rv[r]).set r rv[j]))) := Tups.wl upd_same
    refine ⟨_, (rs.set j (rs[r]'(by omega))).set r (rs[j]'(by omega)), _, _, _, rfl, (((sx.cut cst).trans sa).wr crq).wr crq, (ra.upd nrs.symm).upd nrs.symm, upd_same, ?_, (List.set_set_perm (by omega) (by omega)).trans pr⟩
    exact (AN.setP (AN.setP (ar.imp (P' := fun v i => DT Ha v (D i)) fun v i g => g.tups ta) j dr) r dj).imp fun v i g => g.tups (t1.trans t2)
  rintro σ Hx ⟨rv, rs, u3, u4, u5, rfl, sx, rx, ex, ar, pr⟩
  rw [hlr] at rx
  have hrs : rs.length = js.length := pr.length_eq
  have hrv : rv.length = js.length := by rw [ar.1, hrs]
  have rnd : rs.Nodup := pr.nodup_iff.mpr nd
  obtain ⟨π, hπ⟩ := pi_ex nd hrs.symm
  have epx : Hx p = some (.lst pv) := sx _ _ hp
  refine ⟨_, rfl, _, rfl, p, rq, rfl, ⟨_, SqL.of epx⟩, ⟨_, SqL.of ex⟩, lc_zip (xs := pv) (ys := rv) (big (by omega)) (fun j vs H' => Same Hx H' ∧ AN (PL nk bh (fun i => D (π i)) H') vs (js.take j)) ⟨Same.refl _, .nil⟩ (fun _ _ H' s' => ⟨SqL.of (s'.1 _ _ epx), SqL.of (s'.1 _ _ ex)⟩) (fun j x y vs H' pp K1 K0 hx hy s' hpp k1 k0 => ?_) fun H' np vs s' hyl hq => ?_⟩
  · obtain ⟨s', av⟩ := s'
    have sN : Same H' (L2.upd H' pp (.tup [x, y])) := Same.new hpp
    obtain ⟨m, em, pl⟩ := anD.at hx
    obtain ⟨m', em', dt⟩ := ar.at hy
    have e3 := hπ j m em
    rw [em'] at e3
    cases e3
    have sAll := (sx.trans s').trans sN
    obtain ⟨b, vn, vb, vk, rfl, h1, h2, h3, h4⟩ := pl.tups sAll.tups
    refine ⟨pp, _, rfl, SqT.of upd_same, rfl, _, _, rfl, _, _, rfl, rfl, ?_⟩
    refine iteT (B := K0 _) ?_
    refine ⟨_, rfl, b, _, 0, _, rfl, rfl, SqT.of h1, rfl, _, rfl, b, _, 1, _, rfl, rfl, SqT.of h1, rfl, _, rfl, szOk rfl, fun t H2 g2 s2 e2 => k1 _ _ ⟨(s'.trans sN).trans s2, ?_⟩⟩
    rw [List.take_add_one, em]
    exact (av.imp fun v i g => g.tups (sN.trans s2).tups).snoc ⟨t, vn, vb, y, rfl, e2, h2.tups s2.tups, h3.tups s2.tups, dt.tups ((s'.trans sN).trans s2).tups⟩
  obtain ⟨s', av⟩ := s'
  rw [show min pv.length rv.length = js.length by omega, List.take_length] at av
  have nH : Same H' (L2.upd H' np (.lst vs)) := Same.new hq
  refine kk _ np vs π ((sx.trans s').trans nH) (((rx.same s').same nH).more (by omega)) upd_same (av.imp fun v i g => g.tups nH.tups) (fun i hi => ?_) (fun i hi i' hi' e => ?_)
  · obtain ⟨m, hm, rfl⟩ := List.mem_iff_getElem.mp hi
    exact pr.mem_iff.mp (List.mem_of_getElem? (hπ m _ (List.getElem?_eq_getElem hm)))
  · obtain ⟨m, hm, rfl⟩ := List.mem_iff_getElem.mp hi
    obtain ⟨m', hm', rfl⟩ := List.mem_iff_getElem.mp hi'
    have q1 := hπ m _ (List.getElem?_eq_getElem hm)
    have q2 := hπ m' _ (List.getElem?_eq_getElem hm')
    rw [← e] at q2
    obtain ⟨l1, r1⟩ := List.getElem?_eq_some_iff.mp q1
    obtain ⟨l2, r2⟩ := List.getElem?_eq_some_iff.mp q2
    have := (List.getElem_inj rnd).mp (r1.trans r2.symm)
    subst this
    rfl
theorem ok_ffollowers_of (T : Txt K mg d tk) (gfkey_of_place : FnOk P w K mg base CX0 1 d.fkey_of_place d.fkey_of_placed ["place"] (sp_fkey_of_place K)) : FnOk P w K mg base CX0 3 d.ffollowers_of d.ffollowers_ofd ["places"] (sp_ffollowers_of K) := by
  refine T.F_ffollowers_of.ok sc_ffollowers_of (fun vs H Q E h => len_ffollowers_of h) (fun cdv A outer s H vs Q E hr h => ?_)
  have hu : (A.deeper (envOfC "followers_of" (defScope s_ffollowers_of) s.heap.objs.size d.ffollowers_of cdv)).units < cLine := hr.units0
  have hu1 : (A.deeper (envOfC "followers_of" (defScope s_ffollowers_of) s.heap.objs.size d.ffollowers_of cdv)).units + 1 < cLine := hu_of hr
  refine ⟨_, (@pss_cons _ _ _ _ _ (@ps_set _ _ (1) _ _ _ _ sc_ffollowers_of.nd rfl (Or.inl rfl) (@pe_dctG _ _) (by rfl) (by first | exact .inl rfl | exact .inr rfl)) (@pss_cons _ _ _ _ _ (@ps_for _ _ _ _ _ _ _ _ PassesOwn.never rfl (@pi_list _ _ _ _ (@pe_sortK _ _ _ _ _ _ _ _ _ _ _ _ _ _ gfkey_of_place (hr.mono (by decide)) (by rfl) T.b_sorted boot_sorted (by rfl) T.m_fkey_of_place T.d_fkey_of_place rfl (@pa_cons _ _ _ _ _ (@pv _ 0 _ _ rfl (Or.inl rfl) rfl rfl) (@pa_nil _) (by rfl)) (by decide) (by decide) (by rfl) (by rfl))) (@pg_name _ _ (2) _ sc_ffollowers_of.nd rfl (Or.inl rfl) (by first | exact .inl rfl | exact .inr rfl)) (@pss_one _ _ _ (@ps_expr _ _ _ _ (@pe_bm _ _ _ _ _ _ _ _ _ _ _ _ PySem.F.plainAttrs_list PySem.F.slot_list_append PySem.F.type_list_append mt_append (@pe_bm _ _ _ _ _ _ _ _ _ _ _ _ PySem.F.plainAttrs_dict PySem.F.slot_dict_setdefault PySem.F.type_dict_setdefault (mt_setdefG hu1) (@pv _ 1 _ _ rfl (Or.inl rfl) rfl rfl) (@pa_cons _ _ _ _ _ (@pe_ix _ _ _ _ _ _ _ ix_tup (@pv _ 2 _ _ rfl (Or.inl rfl) rfl rfl) (@pe_int _ _ _ _) (fun _ _ => rfl)) (@pa_cons _ _ _ _ _ (@pe_lstA _ _ _ _ (@pa_nil _)) (@pa_nil _) (by rfl)) (by rfl)) (by rfl) (by rfl) (by rfl) (by rfl) (by rfl)) (@pa_cons _ _ _ _ _ (@pe_ix _ _ _ _ _ _ _ ix_tup (@pv _ 2 _ _ rfl (Or.inl rfl) rfl rfl) (@pe_int _ _ _ _) (fun _ _ => rfl)) (@pa_nil _) (by rfl)) (by rfl) (by rfl) (by rfl) (by rfl) (by rfl)) (by rfl))) (by intro _; rfl)) (@pss_one _ _ _ (@ps_ret _ _ _ _ (@pv _ 1 _ _ rfl (Or.inl rfl) rfl rfl))))), ?_⟩
  obtain ⟨p, ys, nk, bh, D, js, N, row, rfl, hp, an, perm, R, kk⟩ := h
  intro dq H1 g1 s1 e1
  have hjl : js.length = N := by rw [perm.length_eq, List.length_range]
  have hyl : ys.length = N := by rw [an.1, hjl]
  have few := R.few
  have keys : KeysAre (js.map D) 2 := rk_keys fun d hd => by obtain ⟨i, _, rfl⟩ := List.mem_map.mp hd; exact R.rk i
  refine ⟨_, rfl, p, ys, js.map D, 2, rfl, hp.same s1, by rw [List.length_map, an.1], keys, by omega, fun m y d H' Q' q1 q2 s q => ?_, fun q H2 ix g2 s2 six e2 => ?_⟩
  · obtain ⟨k, ek, pl⟩ := an.at q1
    rw [List.getElem?_map, ek] at q2
    cases Option.some.inj q2
    exact ⟨y, nk, bh, D, k, rfl, pl.tups (s1.trans s).tups, fun kv hk => q H' _ (Same.refl _) hk.dv⟩
  have hix : ∀ i ∈ ix, i < ys.length := fun i hi => by
    have := (six.1.mem_iff).mp hi
    rw [List.mem_range, List.length_map] at this
    rw [an.1]
    exact this
  have a2 := an.ix ix hix
  obtain ⟨mperm, mnd⟩ := sort_nd six
  generalize ix.map (fun i => js.getD i 0) = ms at a2 mperm mnd
  generalize ix.map (fun i => ys.getD i .non) = zs at e2 a2
  have mlt : ∀ i ∈ ms, i < N := fun i hi => List.mem_range.mp (perm.mem_iff.mp (mperm.mem_iff.mp hi))
  have mnodup : ms.Nodup := (mperm.trans perm).nodup_iff.mpr List.nodup_range
  have mup : ms.Pairwise fun a b => ltD (D a) (D b) = true := (mnd.and mnodup).imp_of_mem fun {a b} ha hb h => by
    cases e : ltD (D a) (D b) with
    | true => rfl
    | false =>
      have one := keys.one _ (List.mem_map.mpr ⟨a, mperm.mem_iff.mp ha, rfl⟩) _ (List.mem_map.mpr ⟨b, mperm.mem_iff.mp hb, rfl⟩)
      exact absurd (R.dist a (mlt a ha) b (mlt b hb) (ltD_tot _ _ one e h.1)) h.2
  have hml : ms.length = N := by rw [mperm.length_eq, hjl]
  have minj : ∀ i ∈ ms, ∀ j ∈ ms, nk i = nk j → i = j := fun i hi j hj e => R.names.inj i (List.mem_range.mpr (mlt i hi)) j (List.mem_range.mpr (mlt j hj)) e
  have hzl : zs.length = ms.length := a2.1
  have s02 := s1.trans s2
  have fq : H q = none := s1.free g2
  refine ⟨q, rfl, ⟨_, SqL.of e2⟩, for_list (xs := zs) (fun j σ H3 => ∃ kvs u2, σ = [some (.ref p), some (.ref dq), u2] ∧ Same H H3 ∧ H3 q = some (.lst zs) ∧ FD nk bh ms (ms.take j) H H3 dq kvs ∧ kvs.length ≤ j ∧ ∀ k, vG kvs k ≠ some (.ref q)) ⟨[], none, rfl, s02, e2, ⟨s2 _ _ e1, g1, fun k _ => .inl ⟨rfl, rfl⟩, fun k k' q z => (by cases z), fun k q z => (by cases z)⟩, Nat.le_refl _, fun k z => (by cases z)⟩ (fun j σ H3 _ ⟨_, _, _, _, e, _⟩ => SqL.of e) ?_ ?_⟩
  · rintro j x σ H3 hx ⟨kvs, u2, rfl, s3, eq, fd, hkl, nq⟩
    obtain ⟨m, em, pl⟩ := a2.at hx
    have hmm : m ∈ ms := List.mem_of_getElem? em
    have hj : j < ms.length := (List.getElem?_eq_some_iff.mp em).1
    have htk : ms.take (j + 1) = ms.take j ++ [m] := by rw [List.take_add_one, em]; rfl
    have hb : ∀ i, bh m = some i → i ∈ ms := fun i e => mperm.mem_iff.mpr (perm.mem_iff.mpr (List.mem_range.mpr (by have h1 := mlt m hmm; have := R.back m h1 i e; omega)))
    obtain ⟨b, vn, vb, vk, rfl, eb, hn, hbk, hd⟩ := pl.tups s3.tups
    refine ⟨_, rfl, .inr (.inr (.inl ⟨rfl, .inr (.inr ⟨kvs, fd.has⟩)⟩)), _, rfl, b, _, 1, _, rfl, rfl, SqT.of eb, rfl, szOk rfl, fun z0 H4 g4 s4 e4 => ?_⟩
    have fd4 := fd.same s4
    have t4 := s3.trans s4
    have f0 : H z0 = none := s3.free g4
    refine ⟨dq, kvs, kd nk (bh m), vb, .ref z0, rfl, rfl, fd4.has, hbk.tups s4.tups, small2000 (by omega), fun u hu => ?_, fun hu => ?_⟩
    · rcases fd4.each (bh m) hb with ⟨h1, _⟩ | ⟨q', vs, h1, h2, h3, h4⟩
      · rw [h1] at hu; cases hu
      · rw [h1] at hu
        cases hu
        have vl : vs.length ≤ 1600 := by
          rw [h3.1]
          unfold kids
          exact Nat.le_trans (List.length_filter_le _ _) (by rw [List.length_take]; omega)
        refine ⟨.inl ⟨rfl, _, SqL.of h2⟩, _, rfl, b, _, 0, _, rfl, rfl, SqT.of (s4 _ _ eb), rfl, q', _, _, rfl, rfl, h2, small2000 (by omega), ?_⟩
        refine ⟨kvs, _, rfl, t4.wr h4, ?_, ?_, by omega, nq⟩
        · rw [upd_ne (fun z => nq _ (by rw [z]; exact h1))]
          exact s4 _ _ eq
        · rw [htk]
          exact fd4.old minj hb h1 h2 (hn.tups s4.tups)
    · have nz : z0 ≠ dq := fun z => by rw [z, fd.has] at g4; cases g4
      refine ⟨.inl ⟨rfl, _, SqL.of (by rw [upd_ne nz]; exact e4)⟩, _, rfl, b, _, 0, _, rfl, rfl, SqT.of (Tups.wd fd4.has _ _ (s4 _ _ eb)), rfl, z0, _, _, rfl, rfl, (by rw [upd_ne nz]; exact e4), small2000 (by show 0 ≤ _; omega), ?_⟩
      have hqn : ∀ k, vG kvs k ≠ some (.ref z0) := fun k z => by
        obtain ⟨xs, y⟩ := fd.live k z0 z
        rw [y] at g4
        cases g4
      refine ⟨pG kvs (kd nk (bh m)) vb (.ref z0), _, rfl, (t4.wr g1).wr f0, ?_, ?_, Nat.le_trans (pG_len kvs _ _ _) (Nat.succ_le_succ hkl), fun k z => ?_⟩
      · have n1 : q ≠ z0 := fun z => by rw [← z, eq] at g4; cases g4
        have n2 : q ≠ dq := fun z => by rw [z, fd.has] at eq; cases eq
        rw [upd_ne n1, upd_ne n2]
        exact s4 _ _ eq
      · rw [htk]
        exact fd4.first minj hb hu f0 e4 hqn (hn.tups s4.tups)
      · rw [vG_put] at z
        by_cases ek : k = kd nk (bh m)
        · rw [if_pos ek] at z
          cases z
          rw [eq] at g4
          cases g4
        · rw [if_neg ek] at z
          exact nq k z
  · rintro σ H3 ⟨kvs, u2, rfl, s3, eq, fd, hkl, nq⟩
    rw [hzl, List.take_length] at fd
    exact ⟨_, rfl, kk H3 dq kvs ms s3 mperm mup fd⟩
theorem ok_f_law_places (T : Txt K mg d tk) (gf_law_begun : FnOk P w K mg base CX0 1 d.f_law_begun d.f_law_begund ["_law_script", "_law_k"] (sp_f_law_begun K)) (gf_law_draw : FnOk P w K mg base CX0 1 d.f_law_draw d.f_law_drawd ["_law_state", "_law_many"] (sp_f_law_draw K)) (gf_law_key : FnOk P w K mg base CX0 2 d.f_law_key d.f_law_keyd ["_law_state", "_law_last", "_law_many"] (sp_f_law_key K)) (gf_law_name : FnOk P w K mg base CX0 2 d.f_law_name d.f_law_named ["_law_state", "_law_k", "_law_paces"] (sp_f_law_name K)) : FnOk P w K mg base CX0 3 d.f_law_places d.f_law_placesd ["_law_script"] (sp_f_law_places K) := by
  refine T.F_f_law_places.ok sc_f_law_places (fun vs H Q E h => len_f_law_places h) (fun cdv A outer s H vs Q E hr h => ?_)
  have hu : (A.deeper (envOfC "_law_places" (defScope s_f_law_places) s.heap.objs.size d.f_law_places cdv)).units < cLine := hr.units0
  refine ⟨_, (@pss_cons _ _ _ _ _ (@ps_set _ _ (1) _ _ _ _ sc_f_law_places.nd rfl (Or.inl rfl) (@pe_call _ _ _ _ _ _ _ _ _ _ _ _ _ _ _ _ gf_law_begun (hr.mono (by decide)) (by rfl) T.m_f_law_begun T.k_f_law_begun T.d_f_law_begun .nil pass0 (@pa_cons _ _ _ _ _ (@pv _ 0 _ _ rfl (Or.inl rfl) rfl rfl) (@pa_cons _ _ _ _ _ (@pe_int _ _ _ _) (@pa_nil _) (by rfl)) (by rfl)) (by decide) (by rfl) (by rfl)) (by rfl) (by first | exact .inl rfl | exact .inr rfl)) (@pss_cons _ _ _ _ _ (@ps_set _ _ (2) _ _ _ _ sc_f_law_places.nd rfl (Or.inl rfl) (@pe_lstA _ _ _ _ (@pa_cons _ _ _ _ _ (@pe_call _ _ _ _ _ _ _ _ _ _ _ _ _ _ _ _ gf_law_draw (hr.mono (by decide)) (by rfl) T.m_f_law_draw T.k_f_law_draw T.d_f_law_draw .nil pass0 (@pa_cons _ _ _ _ _ (@pv _ 1 _ _ rfl (Or.inl rfl) rfl rfl) (@pa_cons _ _ _ _ _ (@pe_int _ _ _ _) (@pa_nil _) (by rfl)) (by rfl)) (by decide) (by rfl) (by rfl)) (@pa_cons _ _ _ _ _ (@pe_call _ _ _ _ _ _ _ _ _ _ _ _ _ _ _ _ gf_law_draw (hr.mono (by decide)) (by rfl) T.m_f_law_draw T.k_f_law_draw T.d_f_law_draw .nil pass0 (@pa_cons _ _ _ _ _ (@pv _ 1 _ _ rfl (Or.inl rfl) rfl rfl) (@pa_cons _ _ _ _ _ (@pe_int _ _ _ _) (@pa_nil _) (by rfl)) (by rfl)) (by decide) (by rfl) (by rfl)) (@pa_cons _ _ _ _ _ (@pe_call _ _ _ _ _ _ _ _ _ _ _ _ _ _ _ _ gf_law_draw (hr.mono (by decide)) (by rfl) T.m_f_law_draw T.k_f_law_draw T.d_f_law_draw .nil pass0 (@pa_cons _ _ _ _ _ (@pv _ 1 _ _ rfl (Or.inl rfl) rfl rfl) (@pa_cons _ _ _ _ _ (@pe_int _ _ _ _) (@pa_nil _) (by rfl)) (by rfl)) (by decide) (by rfl) (by rfl)) (@pa_nil _) (by rfl)) (by rfl)) (by rfl))) (by rfl) (by first | exact .inl rfl | exact .inr rfl)) (@pss_cons _ _ _ _ _ (@ps_set _ _ (3) _ _ _ _ sc_f_law_places.nd rfl (Or.inl rfl) (@pe_ix _ _ _ _ _ _ _ ix_list (@pe_lstA _ _ _ _ (@pa_cons _ _ _ _ _ (@pe_int _ _ _ _) (@pa_cons _ _ _ _ _ (@pe_int _ _ _ _) (@pa_cons _ _ _ _ _ (@pe_op _ _ _ _ _ _ _ _ op_pow (@pe_int _ _ _ _) (@pe_int _ _ _ _)) (@pa_nil _) (by rfl)) (by rfl)) (by rfl))) (@pe_call _ _ _ _ _ _ _ _ _ _ _ _ _ _ _ _ gf_law_draw (hr.mono (by decide)) (by rfl) T.m_f_law_draw T.k_f_law_draw T.d_f_law_draw .nil pass0 (@pa_cons _ _ _ _ _ (@pv _ 1 _ _ rfl (Or.inl rfl) rfl rfl) (@pa_cons _ _ _ _ _ (@pe_int _ _ _ _) (@pa_nil _) (by rfl)) (by rfl)) (by decide) (by rfl) (by rfl)) (fun _ _ => rfl)) (by rfl) (by first | exact .inl rfl | exact .inr rfl)) (@pss_cons _ _ _ _ _ (@ps_set _ _ (4) _ _ _ _ sc_f_law_places.nd rfl (Or.inl rfl) (@pe_tupA _ _ _ _ _ (@pa_cons _ _ _ _ _ (@pe_op _ _ _ _ _ _ _ _ op_add (@pe_int _ _ _ _) (@pe_call _ _ _ _ _ _ _ _ _ _ _ _ _ _ _ _ gf_law_draw (hr.mono (by decide)) (by rfl) T.m_f_law_draw T.k_f_law_draw T.d_f_law_draw .nil pass0 (@pa_cons _ _ _ _ _ (@pv _ 1 _ _ rfl (Or.inl rfl) rfl rfl) (@pa_cons _ _ _ _ _ (@pv _ 3 _ _ rfl (Or.inl rfl) rfl rfl) (@pa_nil _) (by rfl)) (by rfl)) (by decide) (by rfl) (by rfl))) (@pa_cons _ _ _ _ _ (@pe_call _ _ _ _ _ _ _ _ _ _ _ _ _ _ _ _ gf_law_draw (hr.mono (by decide)) (by rfl) T.m_f_law_draw T.k_f_law_draw T.d_f_law_draw .nil pass0 (@pa_cons _ _ _ _ _ (@pv _ 1 _ _ rfl (Or.inl rfl) rfl rfl) (@pa_cons _ _ _ _ _ (@pe_int _ _ _ _) (@pa_nil _) (by rfl)) (by rfl)) (by decide) (by rfl) (by rfl)) (@pa_cons _ _ _ _ _ (@pe_int _ _ _ _) (@pa_nil _) (by rfl)) (by rfl)) (by rfl))) (by rfl) (by first | exact .inl rfl | exact .inr rfl)) (@pss_cons _ _ _ _ _ (@ps_set _ _ (5) _ _ _ _ sc_f_law_places.nd rfl (Or.inl rfl) (@pe_lstA _ _ _ _ (@pa_nil _)) (by rfl) (by first | exact .inl rfl | exact .inr rfl)) (@pss_cons _ _ _ _ _ (@ps_set _ _ (6) _ _ _ _ sc_f_law_places.nd rfl (Or.inl rfl) (@pe_lstA _ _ _ _ (@pa_nil _)) (by rfl) (by first | exact .inl rfl | exact .inr rfl)) (@pss_cons _ _ _ _ _ (@ps_for _ _ _ _ _ _ _ _ PassesOwn.never rfl (@pi_range2 _ _ _ _ _ _ _ (by rfl) T.b_range (@pa_cons _ _ _ _ _ (@pe_int _ _ _ _) (@pa_cons _ _ _ _ _ (@pe_callB _ _ _ _ _ _ _ _ _ (call_min2 rfl) (by rfl) T.b_min boot_min (@pa_cons _ _ _ _ _ (@pe_callB _ _ _ _ _ _ _ _ _ call_len_seq (by rfl) T.b_len boot_len (@pa_cons _ _ _ _ _ (@pv _ 0 _ _ rfl (Or.inl rfl) rfl rfl) (@pa_nil _) (by rfl)) (by decide) (by decide) (by rfl) (by rfl)) (@pa_cons _ _ _ _ _ (@pe_int _ _ _ _) (@pa_nil _) (by rfl)) (by rfl)) (by decide) (by decide) (by rfl) (by rfl)) (@pa_nil _) (by rfl)) (by rfl)) (by rfl) (by rfl)) (@pg_name _ _ (7) _ sc_f_law_places.nd rfl (Or.inl rfl) (by first | exact .inl rfl | exact .inr rfl)) (@pss_cons _ _ _ _ _ (@ps_set _ _ (8) _ _ _ _ sc_f_law_places.nd rfl (Or.inl rfl) (@pe_call _ _ _ _ _ _ _ _ _ _ _ _ _ _ _ _ gf_law_begun (hr.mono (by decide)) (by rfl) T.m_f_law_begun T.k_f_law_begun T.d_f_law_begun .nil pass0 (@pa_cons _ _ _ _ _ (@pv _ 0 _ _ rfl (Or.inl rfl) rfl rfl) (@pa_cons _ _ _ _ _ (@pv _ 7 _ _ rfl (Or.inl rfl) rfl rfl) (@pa_nil _) (by rfl)) (by rfl)) (by decide) (by rfl) (by rfl)) (by rfl) (by first | exact .inl rfl | exact .inr rfl)) (@pss_cons _ _ _ _ _ (@ps_set _ _ (4) _ _ _ _ sc_f_law_places.nd rfl (Or.inl rfl) (@pe_call _ _ _ _ _ _ _ _ _ _ _ _ _ _ _ _ gf_law_key (hr.mono (by decide)) (by rfl) T.m_f_law_key T.k_f_law_key T.d_f_law_key .nil pass0 (@pa_cons _ _ _ _ _ (@pv _ 8 _ _ rfl (Or.inl rfl) rfl rfl) (@pa_cons _ _ _ _ _ (@pv _ 4 _ _ rfl (Or.inl rfl) rfl rfl) (@pa_cons _ _ _ _ _ (@pv _ 3 _ _ rfl (Or.inl rfl) rfl rfl) (@pa_nil _) (by rfl)) (by rfl)) (by rfl)) (by decide) (by rfl) (by rfl)) (by rfl) (by first | exact .inl rfl | exact .inr rfl)) (@pss_cons _ _ _ _ _ (@ps_set _ _ (9) _ _ _ _ sc_f_law_places.nd rfl (Or.inl rfl) (@pe_call _ _ _ _ _ _ _ _ _ _ _ _ _ _ _ _ gf_law_name (hr.mono (by decide)) (by rfl) T.m_f_law_name T.k_f_law_name T.d_f_law_name .nil pass0 (@pa_cons _ _ _ _ _ (@pv _ 8 _ _ rfl (Or.inl rfl) rfl rfl) (@pa_cons _ _ _ _ _ (@pv _ 7 _ _ rfl (Or.inl rfl) rfl rfl) (@pa_cons _ _ _ _ _ (@pv _ 2 _ _ rfl (Or.inl rfl) rfl rfl) (@pa_nil _) (by rfl)) (by rfl)) (by rfl)) (by decide) (by rfl) (by rfl)) (by rfl) (by first | exact .inl rfl | exact .inr rfl)) (@pss_cons _ _ _ _ _ (@ps_set _ _ (10) _ _ _ _ sc_f_law_places.nd rfl (Or.inl rfl) (@pe_call _ _ _ _ _ _ _ _ _ _ _ _ _ _ _ _ gf_law_draw (hr.mono (by decide)) (by rfl) T.m_f_law_draw T.k_f_law_draw T.d_f_law_draw .nil pass0 (@pa_cons _ _ _ _ _ (@pv _ 8 _ _ rfl (Or.inl rfl) rfl rfl) (@pa_cons _ _ _ _ _ (@pe_op _ _ _ _ _ _ _ _ op_add (@pe_callB _ _ _ _ _ _ _ _ _ call_len_seq (by rfl) T.b_len boot_len (@pa_cons _ _ _ _ _ (@pv _ 5 _ _ rfl (Or.inl rfl) rfl rfl) (@pa_nil _) (by rfl)) (by decide) (by decide) (by rfl) (by rfl)) (@pe_int _ _ _ _)) (@pa_nil _) (by rfl)) (by rfl)) (by decide) (by rfl) (by rfl)) (by rfl) (by first | exact .inl rfl | exact .inr rfl)) (@pss_cons _ _ _ _ _ (@ps_set _ _ (11) _ _ _ _ sc_f_law_places.nd rfl (Or.inl rfl) (@pe_ix _ _ _ _ _ _ _ ix_list (@pe_op _ _ _ _ _ _ _ _ op_catA (@pe_lstA _ _ _ _ (@pa_cons _ _ _ _ _ (@pe_non _ _ _) (@pa_nil _) (by rfl))) (@pv _ 5 _ _ rfl (Or.inl rfl) rfl rfl)) (@pv _ 10 _ _ rfl (Or.inl rfl) rfl rfl) (fun _ _ => rfl)) (by rfl) (by first | exact .inl rfl | exact .inr rfl)) (@pss_cons _ _ _ _ _ (@ps_expr _ _ _ _ (@pe_bm _ _ _ _ _ _ _ _ _ _ _ _ PySem.F.plainAttrs_list PySem.F.slot_list_insert PySem.F.type_list_insert mt_insert (@pv _ 5 _ _ rfl (Or.inl rfl) rfl rfl) (@pa_cons _ _ _ _ _ (@pv _ 10 _ _ rfl (Or.inl rfl) rfl rfl) (@pa_cons _ _ _ _ _ (@pv _ 9 _ _ rfl (Or.inl rfl) rfl rfl) (@pa_nil _) (by rfl)) (by rfl)) (by rfl) (by rfl) (by rfl) (by rfl) (by rfl)) (by rfl)) (@pss_cons _ _ _ _ _ (@ps_set _ _ (12) _ _ _ _ sc_f_law_places.nd rfl (Or.inl rfl) (@pv _ 4 _ _ rfl (Or.inl rfl) rfl rfl) (by rfl) (by first | exact .inl rfl | exact .inr rfl)) (@pss_cons _ _ _ _ _ (@ps_if _ _ _ _ _ _ _ _ (@pt_cmpR _ _ _ _ _ _ _ _ op_eq (@pe_ix _ _ _ _ _ _ _ ix_list (@pv _ 2 _ _ rfl (Or.inl rfl) rfl rfl) (@pe_int _ _ _ _) (fun _ _ => rfl)) (@pe_int _ _ _ _) (nomark _)) (@pss_one _ _ _ (@ps_set _ _ (12) _ _ _ _ sc_f_law_places.nd rfl (Or.inl rfl) (@pe_tupA _ _ _ _ _ (@pa_cons _ _ _ _ _ (@pe_ix _ _ _ _ _ _ _ ix_tup (@pv _ 4 _ _ rfl (Or.inl rfl) rfl rfl) (@pe_int _ _ _ _) (fun _ _ => rfl)) (@pa_cons _ _ _ _ _ (@pe_op _ _ _ _ _ _ _ _ op_add (@pe_op _ _ _ _ _ _ _ _ op_mul (@pe_ix _ _ _ _ _ _ _ ix_tup (@pv _ 4 _ _ rfl (Or.inl rfl) rfl rfl) (@pe_int _ _ _ _) (fun _ _ => rfl)) (@pe_int _ _ _ _)) (@pe_ix _ _ _ _ _ _ _ ix_tup (@pv _ 4 _ _ rfl (Or.inl rfl) rfl rfl) (@pe_int _ _ _ _) (fun _ _ => rfl))) (@pa_nil _) (by rfl)) (by rfl))) (by rfl) (by first | exact .inl rfl | exact .inr rfl))) (@pss_nil _)) (@pss_one _ _ _ (@ps_expr _ _ _ _ (@pe_bm _ _ _ _ _ _ _ _ _ _ _ _ PySem.F.plainAttrs_list PySem.F.slot_list_insert PySem.F.type_list_insert mt_insert (@pv _ 6 _ _ rfl (Or.inl rfl) rfl rfl) (@pa_cons _ _ _ _ _ (@pe_call _ _ _ _ _ _ _ _ _ _ _ _ _ _ _ _ gf_law_draw (hr.mono (by decide)) (by rfl) T.m_f_law_draw T.k_f_law_draw T.d_f_law_draw .nil pass0 (@pa_cons _ _ _ _ _ (@pv _ 8 _ _ rfl (Or.inl rfl) rfl rfl) (@pa_cons _ _ _ _ _ (@pe_op _ _ _ _ _ _ _ _ op_add (@pe_callB _ _ _ _ _ _ _ _ _ call_len_seq (by rfl) T.b_len boot_len (@pa_cons _ _ _ _ _ (@pv _ 6 _ _ rfl (Or.inl rfl) rfl rfl) (@pa_nil _) (by rfl)) (by decide) (by decide) (by rfl) (by rfl)) (@pe_int _ _ _ _)) (@pa_nil _) (by rfl)) (by rfl)) (by decide) (by rfl) (by rfl)) (@pa_cons _ _ _ _ _ (@pe_tupA _ _ _ _ _ (@pa_cons _ _ _ _ _ (@pv _ 9 _ _ rfl (Or.inl rfl) rfl rfl) (@pa_cons _ _ _ _ _ (@pv _ 11 _ _ rfl (Or.inl rfl) rfl rfl) (@pa_cons _ _ _ _ _ (@pv _ 12 _ _ rfl (Or.inl rfl) rfl rfl) (@pa_nil _) (by rfl)) (by rfl)) (by rfl))) (@pa_nil _) (by rfl)) (by rfl)) (by rfl) (by rfl) (by rfl) (by rfl) (by rfl)) (by rfl))))))))))) (by intro _; rfl)) (@pss_one _ _ _ (@ps_ret _ _ _ _ (@pe_tupA _ _ _ _ _ (@pa_cons _ _ _ _ _ (@pv _ 6 _ _ rfl (Or.inl rfl) rfl rfl) (@pa_cons _ _ _ _ _ (@pv _ 5 _ _ rfl (Or.inl rfl) rfl rfl) (@pa_nil _) (by rfl)) (by rfl)))))))))))), ?_⟩
  obtain ⟨sp, ns, rfl, hs, hl, kk⟩ := h
  refine ⟨_, rfl, sp, ns, 1, rfl, hs, by omega, fun H1 fp s1 g1 r1 => ?_⟩
  refine ⟨_, rfl, fp, 0, 67, rfl, r1, by omega, by omega, by omega, fun H2 p0 s2 r2 hp0 => ?_⟩
  refine ⟨_, rfl, fp, _, 66, rfl, r2, by omega, by omega, by omega, fun H3 p1 s3 r3 hp1 => ?_⟩
  refine ⟨_, rfl, fp, _, 3, rfl, r3, by omega, by omega, by omega, fun H4 p2 s4 r4 hp2 => ?_⟩
  have go : ∀ {Ha Hb : Hp}, Same H Ha → Same (del Ha fp) Hb → Same H Hb := fun s t => (s.cut g1).trans t
  have t4 := go (go (go s1 s2) s3) s4
  refine ⟨szOk rfl, fun pq H5 g5 s5 e5 => ?_⟩
  refine ⟨_, _, rfl, rfl, ⟨by decide, by decide, by decide⟩, szOk rfl, fun mq H6 g6 s6 e6 => ?_⟩
  have r6 := (r4.same s5).same s6
  have t6 := (t4.trans s5).trans s6
  refine ⟨_, rfl, fp, _, 3, rfl, r6, by omega, by omega, by omega, fun H7 mi s7 r7 hmi => ?_⟩
  have nmf : mq ≠ fp := fun z => by obtain ⟨u, hu⟩ := (r4.same s5).some; rw [z, hu] at g6; cases g6
  have npf : pq ≠ fp := fun z => by obtain ⟨u, hu⟩ := r4.some; rw [z, hu] at g5; cases g5
  have e67 : H7 mq = _ := s7 _ _ (by rw [del_ne nmf]; exact e6)
  have e57 : H7 pq = _ := s7 _ _ (by rw [del_ne npf]; exact s6 _ _ e5)
  obtain ⟨m, hm0, hm1, hmv⟩ : ∃ m : Nat, 0 < m ∧ m ≤ 1000000 ∧ atI [V.int 2, V.int 60, V.int (10 ^ (6 : Int).toNat)] (mi : Int) = some (.int (m : Int)) := by
    rcases mi with _ | _ | _ | mi
    · exact ⟨2, by omega, by omega, rfl⟩
    · exact ⟨60, by omega, by omega, rfl⟩
    · exact ⟨1000000, by omega, by omega, rfl⟩
    · omega
  refine ⟨mq, _, mi, .int (m : Int), rfl, rfl, SqL.of e67, hmv, ?_⟩
  have t7 := go t6 s7
  refine ⟨_, rfl, _, rfl, fp, _, m, rfl, r7, by omega, hm0, hm1, fun H8 x s8 r8 hx => ?_⟩
  refine ⟨_, _, rfl, rfl, _, rfl, fp, _, 6, rfl, r8, by omega, by omega, by omega, fun H9 y s9 r9 hy => ?_⟩
  refine ⟨szOk rfl, fun lq Ha ga sa ea => ?_⟩
  have t9 := go (go t7 s8) s9
  have ta := t9.trans sa
  have e5a : Ha pq = _ := sa _ _ (s9 _ _ (by rw [del_ne npf]; exact s8 _ _ (by rw [del_ne npf]; exact e57)))
  refine ⟨szOk rfl, fun dp Hb gb sb eb => ?_⟩
  refine ⟨szOk rfl, fun pp Hc gc sc ec => ?_⟩
  have tc := (ta.trans sb).trans sc
  have ndp : dp ≠ pp := fun z => by rw [← z, eb] at gc; cases gc
  have fdp : H dp = none := ta.free gb
  have fpp : H pp = none := (ta.trans sb).free gc
  have npq : pq ≠ dp := fun z => by rw [← z, e5a] at gb; cases gb
  have npp : pq ≠ pp := fun z => by rw [← z, sb _ _ e5a] at gc; cases gc
  refine ⟨_, rfl, sp, _, rfl, .inl (hs.same tc), ?_⟩
  rw [List.length_map]
  refine ⟨_, _, rfl, ?_⟩
  obtain ⟨mn, hmn⟩ : ∃ mn : Int, mn = (if (62 : Int) < (ns.length : Int) then 62 else (ns.length : Int)) := ⟨_, rfl⟩
  have hmn0 : 0 ≤ mn ∧ mn ≤ 62 := by rw [hmn]; split <;> omega
  refine ⟨2, mn, by rw [hmn], ⟨by omega, by omega, by omega, by omega⟩, for_range (lo := 2) (n := (mn - 2).toNat) (fun j σ H7 => ∃ (TS : List Dr) (js : List Nat) (dv pv : List V) (a b c : Nat) (lq : Addr) (u7 u8 u9 u10 u11 u12 : Option V), σ = [some (.ref sp), some (.ref fp), some (.ref pq), some (.int (m : Int)), some (.ref lq), some (.ref dp), some (.ref pp), u7, u8, u9, u10, u11, u12] ∧ Same H H7 ∧ H7 pq = some (.lst [.int (p0 : Int), .int (p1 : Int), .int (p2 : Int)]) ∧ H7 lq = some (.tup [.int (a : Int), .int (b : Int), .int (c : Int)]) ∧ H7 dp = some (.lst dv) ∧ H7 pp = some (.lst pv) ∧ TS.length = j ∧ TOk p0 p1 p2 TS ∧ AN (PL (nkT TS) (bhT TS) (dT p2 TS) H7) pv js ∧ js.Perm (List.range j) ∧ AN (NM (nkT TS) H7) dv (Rga.rowR (Rga.qsOf (bhT TS) (List.range j))) ∧ b ≤ 5 ∧ c ≤ 12 * j ∧ ∀ i, i < j → ((TS.getD i d0).2.2.1 = a ∧ (TS.getD i d0).2.2.2.1 = b ∧ (TS.getD i d0).2.2.2.2 = c) ∨ Up3 (TS.getD i d0).2.2.1 (TS.getD i d0).2.2.2.1 (TS.getD i d0).2.2.2.2 a b c)
    ⟨[], [], [], [], 1 + x, y, 0, lq, none, none, none, none, none, none, rfl, tc, sc _ _ (sb _ _ e5a), sc _ _ (sb _ _ (by rw [show ((1 + x : Nat) : Int) = 1 + (x : Int) by omega]; exact ea)), sc _ _ eb, ec, rfl, ⟨fun i z => (nomatch z), fun i z => (nomatch z), fun i z => (nomatch z), fun i z => (nomatch z), fun i j _ z => (nomatch z)⟩, .nil, .refl _, .nil, by omega, by omega, fun i z => (nomatch z)⟩ ?_ ?_⟩
  · clear e5a e57 e67 ea eb ec sa sb sc s9 s8 r9 r8 hx hy
    rintro j σ H7 hj ⟨TS, js, dv, pv, a, b, c, lq, u7, u8, u9, u10, u11, u12, rfl, s7, e_p, e_l, e_d, e_pl, hT, ok, apl, perm, adu, hb, hc, hle⟩
    have hj60 : j < 60 := by omega
    refine ⟨_, rfl, _, rfl, sp, ns, j + 2, (by rw [show ((j + 2 : Nat) : Int) = 2 + (j : Int) by omega]; rfl), hs.same s7, by omega, fun H8 st s8 g8 r8 => ?_⟩
    have go7 : ∀ {Ha Hb : Hp}, Same H7 Ha → Same (del Ha st) Hb → Same H7 Hb := fun s t => (s.cut g8).trans t
    have nds : dp ≠ st := ne_of_none e_d g8
    have nps : pp ≠ st := ne_of_none e_pl g8
    have nqs : pq ≠ st := ne_of_none e_p g8
    refine ⟨_, rfl, _, rfl, _, rfl, st, lq, 0, a, b, c, m, rfl, r8, by omega, s8 _ _ e_l, hb, hm0, hm1, fun H9 lq' a' b' c' s9 r9 up hb' hc' e9 => ?_⟩
    have t9 := go7 s8 s9
    refine ⟨_, rfl, _, rfl, _, rfl, st, pq, _, j + 2, p0, p1, p2, (by rw [show ((j + 2 : Nat) : Int) = 2 + (j : Int) by omega]; rfl), r9, by omega, t9 _ _ e_p, by omega, by omega, by omega, fun Ha nq w e sa ra hw ea => ?_⟩
    have ta := go7 t9 sa
    refine ⟨_, rfl, _, rfl, dp, _, rfl, .inl (SqL.of (ta _ _ e_d)), _, _, rfl, rfl, st, _, dv.length + 1, (by rw [show ((dv.length + 1 : Nat) : Int) = (dv.length : Int) + 1 by omega]; rfl), ra, by omega, by omega, ?_, fun Hb r sb rb hr => ?_⟩
    · have := adu.1
      rw [Rga.row_len (Rga.wf_range fun i hi => ok.back i (by omega)), List.length_range] at this
      omega
    have tb := go7 ta sb
    obtain ⟨row, hrow⟩ : ∃ row, row = Rga.rowR (Rga.qsOf (bhT TS) (List.range j)) := ⟨_, rfl⟩
    have wfr : Rga.WF (Rga.qsOf (bhT TS) (List.range j)) := Rga.wf_range fun i hi => ok.back i (by omega)
    have hnd : row.Nodup := by rw [hrow]; exact Rga.row_nodup wfr
    have hrm : ∀ i ∈ row, i < TS.length := fun i hi => by
      rw [hrow] at hi
      rw [hT]
      exact List.mem_range.mp (Rga.row_mem wfr hi)
    have hrl : row.length = j := by rw [hrow, Rga.row_len wfr, List.length_range]
    rw [← hrow] at adu
    have hdl : dv.length = j := by rw [adu.1, hrl]
    have hpl : pv.length = j := by rw [apl.1, perm.length_eq, List.length_range]
    refine ⟨szOk rfl, fun z1 Hc gc sc ec => ?_⟩
    refine ⟨_, rfl, z1, dp, _, _, rfl, rfl, ec, sc _ _ (tb _ _ e_d), big (by show 1 + dv.length ≤ 1000; omega), fun z2 Hd gd sd ed => ?_⟩
    have td := (tb.trans sc).trans sd
    have hbk : ∀ i, Rga.bhAt row r = some i → i < TS.length := fun i hi => by
      cases r with
      | zero => cases hi
      | succ r => exact hrm i (List.mem_of_getElem? hi)
    obtain ⟨vb, hvb, hgk⟩ : ∃ vb, atI ([.non] ++ dv) (r : Int) = some vb ∧ GK Hd (kd (nkT TS) (Rga.bhAt row r)) vb := by
      cases r with
      | zero => exact ⟨.non, atI_nat (j := 0) rfl, rfl⟩
      | succ r =>
        have hr' : r < dv.length := by omega
        have hr2 : row[r]? = some row[r] := List.getElem?_eq_getElem (by omega)
        refine ⟨dv[r], atI_nat (j := r + 1) (by show dv[r]? = _; rw [List.getElem?_eq_getElem hr']), ?_⟩
        show GK Hd (kd (nkT TS) row[r]?) dv[r]
        rw [hr2]
        exact (adu.2 r dv[r] _ (List.getElem?_eq_getElem hr') hr2).tups td.tups
    refine ⟨_, rfl, z2, _, (r : Int), vb, rfl, rfl, SqL.of ed, hvb, ?_⟩
    have edd := td _ _ e_d
    refine ⟨_, rfl, .inl ⟨rfl, _, SqL.of edd⟩, _, rfl, _, rfl, dp, dv, (r : Int), _, rfl, rfl, edd, by omega, by omega, small1000 (by omega), ?_⟩
    rw [show min (r : Int).toNat dv.length = r by omega]
    refine ⟨_, rfl, ?_⟩
    have epe : (upd Hd dp (.lst (insV dv r (.ref nq)))) pq = some (.lst [.int (p0 : Int), .int (p1 : Int), .int (p2 : Int)]) := by rw [upd_ne npq]; exact td _ _ e_p
    have twe : Tups Hd (upd Hd dp (.lst (insV dv r (.ref nq)))) := Tups.wl edd
    have ele := twe _ _ (((ra.cut sb).trans (sc.trans sd).tups) _ _ ((r9.cut sa) _ _ e9))
    have ple : (upd Hd dp (.lst (insV dv r (.ref nq)))) pp = some (.lst pv) := by rw [upd_ne ndp.symm]; exact td _ _ e_pl
    have sre : SR (upd Hd dp (.lst (insV dv r (.ref nq)))) st 60 := (((rb.same sc).same sd).upd nds.symm).more (by omega)
    have sHe : Same H (upd Hd dp (.lst (insV dv r (.ref nq)))) := (s7.trans td).wr fdp
    have tu7e : Tups H7 (upd Hd dp (.lst (insV dv r (.ref nq)))) := td.tups.trans twe
    have tuae : Tups Ha (upd Hd dp (.lst (insV dv r (.ref nq)))) := ((ra.cut sb).trans (sc.trans sd).tups).trans twe
    have ede : (upd Hd dp (.lst (insV dv r (.ref nq)))) dp = some (.lst (insV dv r (.ref nq))) := upd_same
    generalize upd Hd dp (.lst (insV dv r (.ref nq))) = He at epe twe ele ple sre sHe tu7e tuae ede ⊢
    refine ⟨_, rfl, pq, _, 2, _, rfl, rfl, SqL.of epe, rfl, rfl, _, rfl, ?_⟩
    by_cases hp20 : p2 = 0
    · refine itT (decide_eq_true (by rw [hp20]; rfl)) ?_
      refine ⟨_, rfl, lq', _, 0, _, rfl, rfl, SqT.of ele, rfl, _, rfl, lq', _, 1, _, rfl, rfl, SqT.of ele, rfl, _, _, rfl, rfl, .inr ⟨by decide, by decide⟩, _, rfl, lq', _, 2, _, rfl, rfl, SqT.of ele, rfl, _, _, rfl, rfl, szOk rfl, fun rq Hf gf sf ef => ?_⟩
      have dvr : DT Hf (.ref rq) (rkD p2 a' b' c') := by
        unfold rkD
        rw [if_pos hp20]
        exact .tup ef (.cons (.int _) (.cons (.int _) .nil))
      have plf := sf _ _ ple
      have srf := sre.same sf
      have sHf := sHe.trans sf
      have tu7f := tu7e.trans sf.tups
      have tuaf := tuae.trans sf.tups
      have tudf := twe.trans sf.tups
      have epf := sf _ _ epe
      have edf := sf _ _ ede
      have elf := sf _ _ ele
      refine ⟨_, rfl, .inl ⟨rfl, _, SqL.of plf⟩, _, rfl, _, rfl, pp, _, rfl, .inl (SqL.of plf), _, _, rfl, rfl, st, _, pv.length + 1, (by rw [show ((pv.length + 1 : Nat) : Int) = (pv.length : Int) + 1 by omega]; rfl), srf, by omega, by omega, by omega, fun Hg r' sg rg hr' => ?_⟩
      refine ⟨_, rfl, _, rfl, _, rfl, szOk rfl, fun tq Hh gh sh eh => ?_⟩
      have plg : Hg pp = some (.lst pv) := sg _ _ (by rw [del_ne nps]; exact plf)
      refine ⟨pp, pv, (r' : Int), _, rfl, rfl, sh _ _ plg, by omega, by omega, small1000 (by omega), ?_⟩
      rw [show min (r' : Int).toNat pv.length = r' by omega]
      have tuh : Tups Hf Hh := (srf.cut sg).trans sh.tups
      have tuz : Tups Hf (upd Hh pp (.lst (insV pv r' (.ref tq)))) := tuh.trans (Tups.wl (sh _ _ plg))
      have tz : Tups H7 (upd Hh pp (.lst (insV pv r' (.ref tq)))) := tu7f.trans tuz
      have nmz : NM (nkT (TS ++ [(nkOf p2 w (numOf p0 p1 TS.length) e, Rga.bhAt row r, a', b', c')])) (upd Hh pp (.lst (insV pv r' (.ref tq)))) (.ref nq) j := by
        unfold NM nkT
        rw [← hT, ts_new]
        refine ⟨nq, rfl, ?_⟩
        rw [nkOf_kV]
        refine (tuaf.trans tuz) _ _ ?_
        rw [hT]
        exact ea
      have bkz : GK (upd Hh pp (.lst (insV pv r' (.ref tq)))) (kd (nkT (TS ++ [(nkOf p2 w (numOf p0 p1 TS.length) e, Rga.bhAt row r, a', b', c')])) (bhT (TS ++ [(nkOf p2 w (numOf p0 p1 TS.length) e, Rga.bhAt row r, a', b', c')]) j)) vb := by
        have eb : bhT (TS ++ [(nkOf p2 w (numOf p0 p1 TS.length) e, Rga.bhAt row r, a', b', c')]) j = Rga.bhAt row r := by unfold bhT; rw [← hT, ts_new]
        rw [eb, ← kd_old hbk]
        exact hgk.tups (tudf.trans tuz)
      have dz : DT (upd Hh pp (.lst (insV pv r' (.ref tq)))) (.ref rq) (dT p2 (TS ++ [(nkOf p2 w (numOf p0 p1 TS.length) e, Rga.bhAt row r, a', b', c')]) j) := by
        unfold dT
        rw [← hT, ts_new]
        exact dvr.tups tuz
      have plz : PL (nkT (TS ++ [(nkOf p2 w (numOf p0 p1 TS.length) e, Rga.bhAt row r, a', b', c')])) (bhT (TS ++ [(nkOf p2 w (numOf p0 p1 TS.length) e, Rga.bhAt row r, a', b', c')])) (dT p2 (TS ++ [(nkOf p2 w (numOf p0 p1 TS.length) e, Rga.bhAt row r, a', b', c')])) (upd Hh pp (.lst (insV pv r' (.ref tq)))) (.ref tq) j := ⟨tq, .ref nq, vb, .ref rq, rfl, Tups.wl (sh _ _ plg) _ _ eh, nmz, bkz, dz⟩
      have hml : ∀ i ∈ js, i < TS.length := fun i hi => by rw [hT]; exact List.mem_range.mp (perm.mem_iff.mp hi)
      refine ⟨TS ++ [(nkOf p2 w (numOf p0 p1 TS.length) e, Rga.bhAt row r, a', b', c')], Rga.insN js r' j, insV dv r (.ref nq), insV pv r' (.ref tq), a', b', c', lq', _, _, _, _, _, _, rfl, (((sHf.cut (s7.free g8)).trans sg).trans sh).wr fpp, ?_, ?_, ?_, upd_same, by rw [List.length_append, hT]; rfl, ok.snoc hw hbk (by omega) hb' (fun i hi => ?_), ?_, ?_, ?_, hb', by omega, fun i hi => ?_⟩
      · rw [upd_ne npp]
        exact sh _ _ (sg _ _ (by rw [del_ne nqs]; exact epf))
      · exact tuz _ _ elf
      · rw [upd_ne ndp]
        exact sh _ _ (sg _ _ (by rw [del_ne nds]; exact edf))
      · rcases hle i (by omega) with z | z
        · rw [z.1, z.2.1, z.2.2]; exact up
        · exact up3_trans z up
      · refine AN.ins ⟨apl.1, fun m v i e1 e2 => ?_⟩ r' plz
        have hi := hml i (List.mem_of_getElem? e2)
        exact ((apl.2 m v i e1 e2).tups tz).congr (nk_old hi) (bh_old hi) (kd_old fun b' hb' => Nat.lt_trans (ok.back i hi b' hb') hi) (d_old hi)
      · rw [List.range_succ]
        refine (Rga.ins_perm _ _ _).trans ((perm.cons j).trans ?_)
        exact (List.perm_append_singleton j (List.range j)).symm
      · have eb : bhT (TS ++ [(nkOf p2 w (numOf p0 p1 TS.length) e, Rga.bhAt row r, a', b', c')]) j = Rga.bhAt row r := by unfold bhT; rw [← hT, ts_new]
        rw [Rga.row_next, eb, Rga.qs_congr (bh := bhT (TS ++ [(nkOf p2 w (numOf p0 p1 TS.length) e, Rga.bhAt row r, a', b', c')])) (bh' := bhT TS) fun i hi => (bh_old (by omega)).symm]
        rw [← hrow]
        rw [Rga.ins_at hnd (by omega)]
        refine AN.ins ⟨adu.1, fun m v i e1 e2 => ?_⟩ r nmz
        exact ((adu.2 m v i e1 e2).tups tz).congr (nk_old (hrm i (List.mem_of_getElem? e2)))
      · by_cases z : i < TS.length
        · rw [ts_old z]
          refine .inr ?_
          rcases hle i (by omega) with y | y
          · rw [y.1, y.2.1, y.2.2]; exact up
          · exact up3_trans y up
        · obtain rfl : i = TS.length := by omega
          rw [ts_new]
          exact .inl ⟨rfl, rfl, rfl⟩
    · refine itF (decide_eq_false fun z => hp20 (by injection z; omega)) ?_
      have dvr : DT He (.ref lq') (rkD p2 a' b' c') := by
        unfold rkD
        rw [if_neg hp20]
        exact .tup ele (.cons (.int _) (.cons (.int _) (.cons (.int _) .nil)))
      obtain ⟨Hf, hHf⟩ : ∃ Hf, Hf = He := ⟨_, rfl⟩
      subst hHf
      have plf := ple
      have srf := sre
      have sHf := sHe
      have tu7f := tu7e
      have tuaf := tuae
      have tudf := twe
      have epf := epe
      have edf := ede
      have elf := ele
      refine ⟨_, rfl, .inl ⟨rfl, _, SqL.of plf⟩, _, rfl, _, rfl, pp, _, rfl, .inl (SqL.of plf), _, _, rfl, rfl, st, _, pv.length + 1, (by rw [show ((pv.length + 1 : Nat) : Int) = (pv.length : Int) + 1 by omega]; rfl), srf, by omega, by omega, by omega, fun Hg r' sg rg hr' => ?_⟩
      refine ⟨_, rfl, _, rfl, _, rfl, szOk rfl, fun tq Hh gh sh eh => ?_⟩
      have plg : Hg pp = some (.lst pv) := sg _ _ (by rw [del_ne nps]; exact plf)
      refine ⟨pp, pv, (r' : Int), _, rfl, rfl, sh _ _ plg, by omega, by omega, small1000 (by omega), ?_⟩
      rw [show min (r' : Int).toNat pv.length = r' by omega]
      have tuh : Tups Hf Hh := (srf.cut sg).trans sh.tups
      have tuz : Tups Hf (upd Hh pp (.lst (insV pv r' (.ref tq)))) := tuh.trans (Tups.wl (sh _ _ plg))
      have tz : Tups H7 (upd Hh pp (.lst (insV pv r' (.ref tq)))) := tu7f.trans tuz
      have nmz : NM (nkT (TS ++ [(nkOf p2 w (numOf p0 p1 TS.length) e, Rga.bhAt row r, a', b', c')])) (upd Hh pp (.lst (insV pv r' (.ref tq)))) (.ref nq) j := by
        unfold NM nkT
        rw [← hT, ts_new]
        refine ⟨nq, rfl, ?_⟩
        rw [nkOf_kV]
        refine (tuaf.trans tuz) _ _ ?_
        rw [hT]
        exact ea
      have bkz : GK (upd Hh pp (.lst (insV pv r' (.ref tq)))) (kd (nkT (TS ++ [(nkOf p2 w (numOf p0 p1 TS.length) e, Rga.bhAt row r, a', b', c')])) (bhT (TS ++ [(nkOf p2 w (numOf p0 p1 TS.length) e, Rga.bhAt row r, a', b', c')]) j)) vb := by
        have eb : bhT (TS ++ [(nkOf p2 w (numOf p0 p1 TS.length) e, Rga.bhAt row r, a', b', c')]) j = Rga.bhAt row r := by unfold bhT; rw [← hT, ts_new]
        rw [eb, ← kd_old hbk]
        exact hgk.tups (tudf.trans tuz)
      have dz : DT (upd Hh pp (.lst (insV pv r' (.ref tq)))) (.ref lq') (dT p2 (TS ++ [(nkOf p2 w (numOf p0 p1 TS.length) e, Rga.bhAt row r, a', b', c')]) j) := by
        unfold dT
        rw [← hT, ts_new]
        exact dvr.tups tuz
      have plz : PL (nkT (TS ++ [(nkOf p2 w (numOf p0 p1 TS.length) e, Rga.bhAt row r, a', b', c')])) (bhT (TS ++ [(nkOf p2 w (numOf p0 p1 TS.length) e, Rga.bhAt row r, a', b', c')])) (dT p2 (TS ++ [(nkOf p2 w (numOf p0 p1 TS.length) e, Rga.bhAt row r, a', b', c')])) (upd Hh pp (.lst (insV pv r' (.ref tq)))) (.ref tq) j := ⟨tq, .ref nq, vb, .ref lq', rfl, Tups.wl (sh _ _ plg) _ _ eh, nmz, bkz, dz⟩
      have hml : ∀ i ∈ js, i < TS.length := fun i hi => by rw [hT]; exact List.mem_range.mp (perm.mem_iff.mp hi)
      refine ⟨TS ++ [(nkOf p2 w (numOf p0 p1 TS.length) e, Rga.bhAt row r, a', b', c')], Rga.insN js r' j, insV dv r (.ref nq), insV pv r' (.ref tq), a', b', c', lq', _, _, _, _, _, _, rfl, (((sHf.cut (s7.free g8)).trans sg).trans sh).wr fpp, ?_, ?_, ?_, upd_same, by rw [List.length_append, hT]; rfl, ok.snoc hw hbk (by omega) hb' (fun i hi => ?_), ?_, ?_, ?_, hb', by omega, fun i hi => ?_⟩
      · rw [upd_ne npp]
        exact sh _ _ (sg _ _ (by rw [del_ne nqs]; exact epf))
      · exact tuz _ _ elf
      · rw [upd_ne ndp]
        exact sh _ _ (sg _ _ (by rw [del_ne nds]; exact edf))
      · rcases hle i (by omega) with z | z
        · rw [z.1, z.2.1, z.2.2]; exact up
        · exact up3_trans z up
      · refine AN.ins ⟨apl.1, fun m v i e1 e2 => ?_⟩ r' plz
        have hi := hml i (List.mem_of_getElem? e2)
        exact ((apl.2 m v i e1 e2).tups tz).congr (nk_old hi) (bh_old hi) (kd_old fun b' hb' => Nat.lt_trans (ok.back i hi b' hb') hi) (d_old hi)
      · rw [List.range_succ]
        refine (Rga.ins_perm _ _ _).trans ((perm.cons j).trans ?_)
        exact (List.perm_append_singleton j (List.range j)).symm
      · have eb : bhT (TS ++ [(nkOf p2 w (numOf p0 p1 TS.length) e, Rga.bhAt row r, a', b', c')]) j = Rga.bhAt row r := by unfold bhT; rw [← hT, ts_new]
        rw [Rga.row_next, eb, Rga.qs_congr (bh := bhT (TS ++ [(nkOf p2 w (numOf p0 p1 TS.length) e, Rga.bhAt row r, a', b', c')])) (bh' := bhT TS) fun i hi => (bh_old (by omega)).symm]
        rw [← hrow]
        rw [Rga.ins_at hnd (by omega)]
        refine AN.ins ⟨adu.1, fun m v i e1 e2 => ?_⟩ r nmz
        exact ((adu.2 m v i e1 e2).tups tz).congr (nk_old (hrm i (List.mem_of_getElem? e2)))
      · by_cases z : i < TS.length
        · rw [ts_old z]
          refine .inr ?_
          rcases hle i (by omega) with y | y
          · rw [y.1, y.2.1, y.2.2]; exact up
          · exact up3_trans y up
        · obtain rfl : i = TS.length := by omega
          rw [ts_new]
          exact .inl ⟨rfl, rfl, rfl⟩
  · rintro σ H7 ⟨TS, js, dv, pv, a, b, c, lq, u7, u8, u9, u10, u11, u12, rfl, s7, e_p, e_l, e_d, e_pl, hT, ok, apl, perm, adu, hb, hc, hle⟩
    refine ⟨_, rfl, _, rfl, szOk rfl, fun q H8 g8 s8 e8 => ?_⟩
    rw [← hT] at perm adu
    exact kk H8 q pp dp pv dv TS js p0 p1 p2 (s7.trans s8) e8 (s8 _ _ e_pl) (s8 _ _ e_d) ndp fpp fdp ok (by omega) hp1 (apl.imp fun v i g => g.tups s8.tups) perm (adu.imp fun v i g => g.tups s8.tups)
theorem ok_fordered (T : Txt K mg d tk) (gffollowers_of : FnOk P w K mg base CX0 3 d.ffollowers_of d.ffollowers_ofd ["places"] (sp_ffollowers_of K)) : FnOk P w K mg base CX0 4 d.fordered d.forderedd ["places"] (sp_fordered K) := by
  refine T.F_fordered.ok sc_fordered (fun vs H Q E h => len_fordered h) (fun cdv A outer s H vs Q E hr h => ?_)
  have hu : (A.deeper (envOfC "ordered" (defScope s_fordered) s.heap.objs.size d.fordered cdv)).units < cLine := hr.units0
  have hu1 : (A.deeper (envOfC "ordered" (defScope s_fordered) s.heap.objs.size d.fordered cdv)).units + 1 < cLine := hu_of hr
  refine ⟨_, (@pss_cons _ _ _ _ _ (@ps_set _ _ (1) _ _ _ _ sc_fordered.nd rfl (Or.inl rfl) (@pe_call _ _ _ _ _ _ _ _ _ _ _ _ _ _ _ _ gffollowers_of (hr.mono (by decide)) (by rfl) T.m_ffollowers_of T.k_ffollowers_of T.d_ffollowers_of .nil pass0 (@pa_cons _ _ _ _ _ (@pv _ 0 _ _ rfl (Or.inl rfl) rfl rfl) (@pa_nil _) (by rfl)) (by decide) (by rfl) (by rfl)) (by rfl) (by first | exact .inl rfl | exact .inr rfl)) (@pss_cons _ _ _ _ _ (@ps_set _ _ (2) _ _ _ _ sc_fordered.nd rfl (Or.inl rfl) (@pe_lstA _ _ _ _ (@pa_nil _)) (by rfl) (by first | exact .inl rfl | exact .inr rfl)) (@pss_cons _ _ _ _ _ (@ps_set _ _ (3) _ _ _ _ sc_fordered.nd rfl (Or.inl rfl) (@pe_callTy _ _ _ _ _ _ _ _ _ call_lstA (by rfl) T.b_list boot_list (@pa_cons _ _ _ _ _ (@pe_bm _ _ _ _ _ _ _ _ _ _ _ _ PySem.F.plainAttrs_dict PySem.F.slot_dict_get PySem.F.type_dict_get (mt_get2G hu1) (@pv _ 1 _ _ rfl (Or.inl rfl) rfl rfl) (@pa_cons _ _ _ _ _ (@pe_non _ _ _) (@pa_cons _ _ _ _ _ (@pe_lstA _ _ _ _ (@pa_nil _)) (@pa_nil _) (by rfl)) (by rfl)) (by rfl) (by rfl) (by rfl) (by rfl) (by rfl)) (@pa_nil _) (by rfl)) (by decide) (by decide) (by rfl) (by rfl)) (by rfl) (by first | exact .inl rfl | exact .inr rfl)) (@pss_cons _ _ _ _ _ (@ps_while _ _ _ _ _ _ PassesOwn.never (@pt_cmpR _ _ _ _ _ _ _ _ op_gt (@pe_callB _ _ _ _ _ _ _ _ _ call_len_seq (by rfl) T.b_len boot_len (@pa_cons _ _ _ _ _ (@pv _ 3 _ _ rfl (Or.inl rfl) rfl rfl) (@pa_nil _) (by rfl)) (by decide) (by decide) (by rfl) (by rfl)) (@pe_int _ _ _ _) (nomark _)) (@pss_cons _ _ _ _ _ (@ps_set _ _ (4) _ _ _ _ sc_fordered.nd rfl (Or.inl rfl) (@pe_bm0 _ _ _ _ _ _ _ _ _ PySem.F.plainAttrs_list PySem.F.slot_list_pop PySem.F.type_list_pop mt_pop (@pv _ 3 _ _ rfl (Or.inl rfl) rfl rfl) (by rfl) (by rfl)) (by rfl) (by first | exact .inl rfl | exact .inr rfl)) (@pss_cons _ _ _ _ _ (@ps_expr _ _ _ _ (@pe_bm _ _ _ _ _ _ _ _ _ _ _ _ PySem.F.plainAttrs_list PySem.F.slot_list_append PySem.F.type_list_append mt_append (@pv _ 2 _ _ rfl (Or.inl rfl) rfl rfl) (@pa_cons _ _ _ _ _ (@pv _ 4 _ _ rfl (Or.inl rfl) rfl rfl) (@pa_nil _) (by rfl)) (by rfl) (by rfl) (by rfl) (by rfl) (by rfl)) (by rfl)) (@pss_one _ _ _ (@ps_expr _ _ _ _ (@pe_bm _ _ _ _ _ _ _ _ _ _ _ _ PySem.F.plainAttrs_list PySem.F.slot_list_extend PySem.F.type_list_extend mt_extend (@pv _ 3 _ _ rfl (Or.inl rfl) rfl rfl) (@pa_cons _ _ _ _ _ (@pe_bm _ _ _ _ _ _ _ _ _ _ _ _ PySem.F.plainAttrs_dict PySem.F.slot_dict_get PySem.F.type_dict_get (mt_get2G hu1) (@pv _ 1 _ _ rfl (Or.inl rfl) rfl rfl) (@pa_cons _ _ _ _ _ (@pv _ 4 _ _ rfl (Or.inl rfl) rfl rfl) (@pa_cons _ _ _ _ _ (@pe_lstA _ _ _ _ (@pa_nil _)) (@pa_nil _) (by rfl)) (by rfl)) (by rfl) (by rfl) (by rfl) (by rfl) (by rfl)) (@pa_nil _) (by rfl)) (by rfl) (by rfl) (by rfl) (by rfl) (by rfl)) (by rfl)))))) (@pss_one _ _ _ (@ps_ret _ _ _ _ (@pv _ 2 _ _ rfl (Or.inl rfl) rfl rfl))))))), ?_⟩
  obtain ⟨p, ys, nk, bh, D, js, N, row, rfl, hp, an, perm, R, kk⟩ := h
  have few := R.few
  refine ⟨_, rfl, p, ys, nk, bh, D, js, N, row, rfl, hp, an, perm, R, fun H1 dq kvs ms s1 mperm mup fd => ?_⟩
  have hml : ms.length = N := by rw [mperm.length_eq, perm.length_eq, List.length_range]
  have kmem : ∀ k c, c ∈ (kids bh ms k).reverse ↔ c < N ∧ bh c = k := fun k c => by
    rw [List.mem_reverse]
    unfold kids
    rw [List.mem_filter, mperm.mem_iff, perm.mem_iff, List.mem_range]
    simp
  obtain ⟨rowF, d0⟩ := Rga.dfs_ex (f := fun k => (kids bh ms k).reverse) (n := N) (fun i c hc => by
    obtain ⟨h1, h2⟩ := (kmem (some i) c).mp hc
    exact ⟨R.back c h1 i h2, h1⟩) (fun c hc => ((kmem none c).mp hc).1)
  obtain ⟨rup, rperm⟩ := Rga.dfs_all (f := fun k => (kids bh ms k).reverse) (D := D) R.back kmem (fun k => by
    rw [List.pairwise_reverse]
    exact mup.filter _) (fun i => ltD_irr _) d0
  have rl : rowF.length = N := by rw [rperm.length_eq, List.length_range]
  have rin : ∀ i ∈ rowF, i ∈ ms := fun i hi => mperm.mem_iff.mpr (perm.mem_iff.mpr (rperm.mem_iff.mp hi))
  have rE := R.same rup rperm
  refine ⟨szOk rfl, fun rp H2 g2 s2 e2 => ?_⟩
  have fd2 := fd.same s2
  refine ⟨_, rfl, .inr (.inr (.inl ⟨rfl, .inr (.inr ⟨kvs, fd2.has⟩)⟩)), szOk rfl, fun z0 H3 g3 s3 e3 => ?_⟩
  have fd3 := fd2.same s3
  obtain ⟨a, vs, ea, eva, ava⟩ := fd3.get e3 none (fun i z => by cases z)
  refine ⟨dq, kvs, .non, .non, .ref z0, rfl, rfl, fd3.has, rfl, ?_⟩
  rw [show (vG kvs KD.non).getD (V.ref z0) = .ref a from ea]
  refine ⟨a, vs, rfl, .inl (SqL.of eva), fun tp H4 g4 s4 e4 => ?_⟩
  have nrt : rp ≠ tp := fun z => by rw [← z, s3 _ _ e2] at g4; cases g4
  have frp : H1 rp = none := g2
  have ftp : H1 tp = none := (s2.trans s3).free g4
  have s14 := (s2.trans s3).trans s4
  refine ⟨fun mm σ H5 => ∃ (out done st : List Nat) (rv tv : List V) (u4 : Option V), σ = [some (.ref p), some (.ref dq), some (.ref rp), some (.ref tp), u4] ∧ Same H1 H5 ∧ H5 rp = some (.lst rv) ∧ AN (NM nk H5) rv done ∧ H5 tp = some (.lst tv) ∧ AN (NM nk H5) tv st ∧ Rga.Dfs (fun k => (kids bh ms k).reverse) st.reverse out ∧ done ++ out = rowF ∧ mm = out.length,
    ⟨_, _, [], kids bh ms none, [], vs, none, rfl, s14, s4 _ _ (s3 _ _ e2), .nil, e4, ava.imp fun v i g => g.tups s4.tups, d0, rfl, rfl⟩, ?_⟩
  rintro mm σ H5 ⟨out, done, st, rv, tv, u4, rfl, s5, er, ar, et, at', dfs, hR, rfl⟩
  have hlen : done.length + out.length = N := by rw [← rl, ← hR, List.length_append]
  have hst := Rga.dfs_len dfs
  rw [List.length_reverse] at hst
  refine ⟨_, rfl, tp, _, rfl, .inl (SqL.of et), _, _, rfl, rfl, _, rfl, ?_⟩
  rcases List.eq_nil_or_concat st with z | ⟨st', x, z⟩
  · subst z
    have h0 : tv = [] := List.length_eq_zero_iff.mp at'.1
    subst h0
    refine itF rfl ?_
    have := dfs.nil_inv
    subst this
    rw [List.append_nil] at hR
    subst hR
    rw [rE] at ar
    exact ⟨_, rfl, kk H5 rp rv (s1.trans s5) (s1.free frp) er ar⟩
  rw [List.concat_eq_append] at z
  subst z
  obtain ⟨us, vx, rfl, au, hx⟩ := at'.last
  rw [List.reverse_append, List.reverse_cons, List.reverse_nil, List.nil_append, List.singleton_append] at dfs
  obtain ⟨out', rfl, dfs'⟩ := dfs.cons_inv
  have hxm : x ∈ ms := rin x (by rw [← hR]; exact List.mem_append_right _ List.mem_cons_self)
  have hl2 := Rga.dfs_len dfs'
  rw [List.length_append, List.length_reverse, List.length_reverse] at hl2
  rw [List.length_cons] at hlen
  refine itT (decide_eq_true (by show (0 : Int) < ((us ++ [vx]).length : Nat); rw [List.length_append, List.length_singleton]; omega)) ?_
  refine ⟨fun σ' H' => ∃ (rv tv : List V) (u4 : Option V), σ' = [some (.ref p), some (.ref dq), some (.ref rp), some (.ref tp), u4] ∧ Same H1 H' ∧ H' rp = some (.lst rv) ∧ AN (NM nk H') rv (done ++ [x]) ∧ H' tp = some (.lst tv) ∧ AN (NM nk H') tv (st' ++ kids bh ms (some x)), fun σ' H' ⟨rv', tv', u4', b1, b2, b3, b4, b5, b6⟩ => ⟨out'.length, by rw [List.length_cons]; omega, out', done ++ [x], _, rv', tv', u4', b1, b2, b3, b4, b5, b6, ?_, ?_, rfl⟩, ?_⟩
  · rw [List.reverse_append]
    exact dfs'
  · rw [List.append_assoc]
    exact hR
  refine ⟨_, rfl, .inl ⟨rfl, _, SqL.of et⟩, tp, _, vx, rfl, rfl, et, (by simp), ?_⟩
  rw [List.dropLast_concat]
  have t6 : Tups H5 (upd H5 tp (.lst us)) := Tups.wl et
  have er6 : (upd H5 tp (.lst us)) rp = some (.lst rv) := by rw [upd_ne nrt]; exact er
  refine ⟨_, rfl, .inl ⟨rfl, _, SqL.of er6⟩, _, rfl, rp, _, _, rfl, rfl, er6, (by rw [ar.1]; exact small2000 (by omega)), ?_⟩
  have t7 : Tups (upd H5 tp (.lst us)) (upd (upd H5 tp (.lst us)) rp (.lst (rv ++ [vx]))) := Tups.wl er6
  have et7 : (upd (upd H5 tp (.lst us)) rp (.lst (rv ++ [vx]))) tp = some (.lst us) := by rw [upd_ne nrt.symm, upd_same]
  have s7 : Same H1 (upd (upd H5 tp (.lst us)) rp (.lst (rv ++ [vx]))) := (s5.wr ftp).wr frp
  have fd7 := fd.same s7
  refine ⟨_, rfl, .inl ⟨rfl, _, SqL.of et7⟩, _, rfl, .inr (.inr (.inl ⟨rfl, .inr (.inr ⟨kvs, fd7.has⟩)⟩)), _, rfl, szOk rfl, fun z1 H8 g8 s8 e8 => ?_⟩
  have fd8 := fd7.same s8
  have t8 := (t6.trans t7).trans s8.tups
  obtain ⟨a8, vs8, ea8, ev8, av8⟩ := fd8.get e8 (some x) (fun i z => by cases z; exact hxm)
  refine ⟨dq, kvs, .tup (nk x), vx, .ref z1, rfl, rfl, fd8.has, hx.tups t8, ?_⟩
  rw [show (vG kvs (KD.tup (nk x))).getD (V.ref z1) = .ref a8 from ea8]
  have et8 := s8 _ _ et7
  refine ⟨tp, a8, us, vs8, rfl, rfl, et8, ev8, big2 (by rw [au.1, av8.1]; omega), ?_⟩
  have t9 : Tups H8 (upd H8 tp (.lst (us ++ vs8))) := Tups.wl et8
  refine ⟨rv ++ [vx], us ++ vs8, _, rfl, (s7.trans s8).wr ftp, ?_, ?_, upd_same, ?_⟩
  · rw [upd_ne nrt]
    exact s8 _ _ upd_same
  · exact ((ar.snoc hx).imp fun v i g => g.tups (t8.trans t9))
  · exact (au.imp fun v i g => g.tups (t8.trans t9)).app (av8.imp fun v i g => g.tups t9)
theorem ok_f_law_row (T : Txt K mg d tk) (gf_law_begun : FnOk P w K mg base CX0 1 d.f_law_begun d.f_law_begund ["_law_script", "_law_k"] (sp_f_law_begun K)) (gf_law_chain : FnOk P w K mg base CX0 2 d.f_law_chain d.f_law_chaind ["_law_state", "_law_places_here", "_law_due"] (sp_f_law_chain K)) (gf_law_draw : FnOk P w K mg base CX0 1 d.f_law_draw d.f_law_drawd ["_law_state", "_law_many"] (sp_f_law_draw K)) (gf_law_exchanged : FnOk P w K mg base CX0 2 d.f_law_exchanged d.f_law_exchangedd ["_law_state", "_law_places_here"] (sp_f_law_exchanged K)) (gf_law_going : FnOk P w K mg base CX0 2 d.f_law_going d.f_law_goingd ["_law_places_here"] (sp_f_law_going K)) (gf_law_places : FnOk P w K mg base CX0 3 d.f_law_places d.f_law_placesd ["_law_script"] (sp_f_law_places K)) : FnOk P w K mg base CX0 4 d.f_law_row d.f_law_rowd ["_law_script"] (sp_f_law_row K) := by
  refine T.F_f_law_row.ok sc_f_law_row (fun vs H Q E h => len_f_law_row h) (fun cdv A outer s H vs Q E hr h => ?_)
  have hu : (A.deeper (envOfC "_law_row" (defScope s_f_law_row) s.heap.objs.size d.f_law_row cdv)).units < cLine := hr.units0
  refine ⟨_, (@pss_cons _ _ _ _ _ (@ps_asg _ _ _ _ _ _ (@pe_call _ _ _ _ _ _ _ _ _ _ _ _ _ _ _ _ gf_law_places (hr.mono (by decide)) (by rfl) T.m_f_law_places T.k_f_law_places T.d_f_law_places .nil pass0 (@pa_cons _ _ _ _ _ (@pv _ 0 _ _ rfl (Or.inl rfl) rfl rfl) (@pa_nil _) (by rfl)) (by decide) (by rfl) (by rfl)) (@pg_tup _ _ _ _ _ _ rfl (@pgs_cons _ _ _ _ _ (@pg_name _ _ (1) _ sc_f_law_row.nd rfl (Or.inl rfl) (by first | exact .inl rfl | exact .inr rfl)) (@pgs_cons _ _ _ _ _ (@pg_name _ _ (2) _ sc_f_law_row.nd rfl (Or.inl rfl) (by first | exact .inl rfl | exact .inr rfl)) (@pgs_nil _) (by rfl)) (by rfl)) (by rfl) (by rfl)) (by rfl) (by rfl) (by rfl)) (@pss_cons _ _ _ _ _ (@ps_set _ _ (3) _ _ _ _ sc_f_law_row.nd rfl (Or.inl rfl) (@pe_call _ _ _ _ _ _ _ _ _ _ _ _ _ _ _ _ gf_law_begun (hr.mono (by decide)) (by rfl) T.m_f_law_begun T.k_f_law_begun T.d_f_law_begun .nil pass0 (@pa_cons _ _ _ _ _ (@pv _ 0 _ _ rfl (Or.inl rfl) rfl rfl) (@pa_cons _ _ _ _ _ (@pe_int _ _ _ _) (@pa_nil _) (by rfl)) (by rfl)) (by decide) (by rfl) (by rfl)) (by rfl) (by first | exact .inl rfl | exact .inr rfl)) (@pss_cons _ _ _ _ _ (@ps_set _ _ (4) _ _ _ _ sc_f_law_row.nd rfl (Or.inl rfl) (@pe_op _ _ _ _ _ _ _ _ op_fdiv (@pe_call _ _ _ _ _ _ _ _ _ _ _ _ _ _ _ _ gf_law_draw (hr.mono (by decide)) (by rfl) T.m_f_law_draw T.k_f_law_draw T.d_f_law_draw .nil pass0 (@pa_cons _ _ _ _ _ (@pe_call _ _ _ _ _ _ _ _ _ _ _ _ _ _ _ _ gf_law_begun (hr.mono (by decide)) (by rfl) T.m_f_law_begun T.k_f_law_begun T.d_f_law_begun .nil pass0 (@pa_cons _ _ _ _ _ (@pv _ 0 _ _ rfl (Or.inl rfl) rfl rfl) (@pa_cons _ _ _ _ _ (@pe_int _ _ _ _) (@pa_nil _) (by rfl)) (by rfl)) (by decide) (by rfl) (by rfl)) (@pa_cons _ _ _ _ _ (@pe_int _ _ _ _) (@pa_nil _) (by rfl)) (by rfl)) (by decide) (by rfl) (by rfl)) (@pe_int _ _ _ _)) (by rfl) (by first | exact .inl rfl | exact .inr rfl)) (@pss_cons _ _ _ _ _ (@ps_if _ _ _ _ _ _ _ _ (@pt_cmpR _ _ _ _ _ _ _ _ op_eq (@pv _ 4 _ _ rfl (Or.inl rfl) rfl rfl) (@pe_int _ _ _ _) (nomark _)) (@pss_one _ _ _ (@ps_expr _ _ _ _ (@pe_call _ _ _ _ _ _ _ _ _ _ _ _ _ _ _ _ gf_law_chain (hr.mono (by decide)) (by rfl) T.m_f_law_chain T.k_f_law_chain T.d_f_law_chain .nil pass0 (@pa_cons _ _ _ _ _ (@pv _ 3 _ _ rfl (Or.inl rfl) rfl rfl) (@pa_cons _ _ _ _ _ (@pv _ 1 _ _ rfl (Or.inl rfl) rfl rfl) (@pa_cons _ _ _ _ _ (@pv _ 2 _ _ rfl (Or.inl rfl) rfl rfl) (@pa_nil _) (by rfl)) (by rfl)) (by rfl)) (by decide) (by rfl) (by rfl)) (by rfl))) (@pss_nil _)) (@pss_cons _ _ _ _ _ (@ps_if _ _ _ _ _ _ _ _ (@PW.pt _ _ _ (@pw_or _ _ _ _ _ _ _ (@pt_cmpR _ _ _ _ _ _ _ _ op_eq (@pv _ 4 _ _ rfl (Or.inl rfl) rfl rfl) (@pe_int _ _ _ _) (nomark _)) (@pw_or1 _ _ _ _ (@pt_cmpR _ _ _ _ _ _ _ _ op_eq (@pv _ 4 _ _ rfl (Or.inl rfl) rfl rfl) (@pe_int _ _ _ _) (nomark _))))) (@pss_cons _ _ _ _ _ (@ps_set _ _ (1) _ _ _ _ sc_f_law_row.nd rfl (Or.inl rfl) (@pe_call _ _ _ _ _ _ _ _ _ _ _ _ _ _ _ _ gf_law_exchanged (hr.mono (by decide)) (by rfl) T.m_f_law_exchanged T.k_f_law_exchanged T.d_f_law_exchanged .nil pass0 (@pa_cons _ _ _ _ _ (@pv _ 3 _ _ rfl (Or.inl rfl) rfl rfl) (@pa_cons _ _ _ _ _ (@pv _ 1 _ _ rfl (Or.inl rfl) rfl rfl) (@pa_nil _) (by rfl)) (by rfl)) (by decide) (by rfl) (by rfl)) (by rfl) (by first | exact .inl rfl | exact .inr rfl)) (@pss_one _ _ _ (@ps_set _ _ (2) _ _ _ _ sc_f_law_row.nd rfl (Or.inl rfl) (@pe_call _ _ _ _ _ _ _ _ _ _ _ _ _ _ _ _ gf_law_going (hr.mono (by decide)) (by rfl) T.m_f_law_going T.k_f_law_going T.d_f_law_going .nil pass0 (@pa_cons _ _ _ _ _ (@pv _ 1 _ _ rfl (Or.inl rfl) rfl rfl) (@pa_nil _) (by rfl)) (by decide) (by rfl) (by rfl)) (by rfl) (by first | exact .inl rfl | exact .inr rfl)))) (@pss_nil _)) (@pss_one _ _ _ (@ps_ret _ _ _ _ (@pe_tupA _ _ _ _ _ (@pa_cons _ _ _ _ _ (@pv _ 1 _ _ rfl (Or.inl rfl) rfl rfl) (@pa_cons _ _ _ _ _ (@pv _ 2 _ _ rfl (Or.inl rfl) rfl rfl) (@pa_nil _) (by rfl)) (by rfl)))))))))), ?_⟩
  obtain ⟨sp, ns, rfl, hs, hl, hT, kk⟩ := h
  refine ⟨_, rfl, sp, ns, rfl, hs, hl, fun H1 q1 pp dp pv dv TS js p0 p1 p2 s1 e1 ep ed ndp fpp fdp ok hn hp1 apl perm adu => ?_⟩
  refine ⟨q1, _, rfl, SqT.of e1, rfl, _, _, rfl, _, _, rfl, rfl, ?_⟩
  refine ⟨_, rfl, sp, ns, 62, rfl, hs.same s1, by omega, fun H2 st s2 g2 r2 => ?_⟩
  refine ⟨_, rfl, sp, ns, 0, rfl, hs.same (s1.trans s2), by omega, fun H3 st0 s3 g3 r3 => ?_⟩
  refine ⟨st0, _, 16, rfl, r3, by omega, by omega, by omega, fun H4 w s4 r4 hw => ?_⟩
  refine ⟨_, _, rfl, rfl, ⟨by decide, by decide⟩, ?_⟩
  have s24 : Same H2 H4 := (s3.cut g3).trans s4
  have s14 : Same H1 H4 := s2.trans s24
  have s04 : Same H H4 := s1.trans s14
  have sD4 : Same (del H (tabP K "_law_going")) H4 := del_same.trans s04
  have fst : H st = none := s1.free g2
  have dst : del H (tabP K "_law_going") st = none := del_free fst
  have dpp : del H (tabP K "_law_going") pp = none := del_free fpp
  have ddp : del H (tabP K "_law_going") dp = none := del_free fdp
  have dtp : del H (tabP K "_law_going") (tabP K "_law_going") = none := del_at
  have rS : SR H4 st 0 := r2.same s24
  have ep4 := s14 _ _ ep
  have ed4 := s14 _ _ ed
  have nps : pp ≠ st := fun z => by rw [z, g2] at ep; cases ep
  have nds : dp ≠ st := fun z => by rw [z, g2] at ed; cases ed
  have W := ok.plw hn hp1
  have jnd : js.Nodup := perm.nodup_iff.mpr List.nodup_range
  have hjl : js.length = TS.length := by rw [perm.length_eq, List.length_range]
  have N0 : NW (nkT TS) (List.range TS.length) := ⟨name_keys ok fun i hi => List.mem_range.mp hi, W.inj⟩
  have apl4 : AN (PL (nkT TS) (bhT TS) (dT p2 TS) H4) pv js := apl.imp fun v i g => g.tups s14.tups
  have adu4 := adu.imp fun v i g => NM.tups (H' := H4) g s14.tups
  refine ⟨_, rfl, rfl, _, rfl, ?_⟩
  refine ite2 (fun c3 => ?_) fun c3 => ?_
  · have w3 : (w : Int) / 2 = 3 := by have := of_decide_eq_true c3; injection this
    refine ⟨_, rfl, _, rfl, _, rfl, st, pp, dp, pv, dv, p0, p1, p2, TS, js, 0, rfl, (by rw [del_ne nps]; exact ep4), (by rw [del_ne nds]; exact ed4), ndp, ok, hn, hp1, apl4, perm, adu4, rS, by omega, fun H5 pv' dv' nk bh D N js' s5 e5p e5d ap5 perm5 ad5 R5 => ?_⟩
    have s45 : Same (del H (tabP K "_law_going")) H5 := (((sD4.cut dst).cut dpp).cut ddp).trans s5
    refine ⟨_, rfl, rfl, _, rfl, ?_⟩
    refine itF (decide_eq_false fun z => by injection z; omega) ?_
    refine ⟨_, rfl, rfl, _, rfl, ?_⟩
    refine itF (decide_eq_false fun z => by injection z; omega) ?_
    refine ⟨_, rfl, _, rfl, szOk rfl, fun q H6 g6 s6 e6 => ?_⟩
    exact kk H6 q pp dp pv' dv' nk bh D N js' _ (s45.trans s6) e6 (s6 _ _ e5p) (s6 _ _ e5d) (ap5.imp fun v i g => g.tups s6.tups) perm5 (ad5.imp fun v i g => g.tups s6.tups) R5
  · have fin : ∀ q H6, Same H4 H6 → H6 q = some (.tup [.ref pp, .ref dp]) → Q (.ref q) H6 := fun q H6 s6 e6 => by
      obtain ⟨h1, h2⟩ := Rga.row_all (D := dT p2 TS) ok.back W.up (fun i => ltD_irr _)
      exact kk H6 q pp dp pv dv _ _ _ TS.length js _ (sD4.trans s6) e6 (s6 _ _ ep4) (s6 _ _ ed4) (apl4.imp fun v i g => g.tups s6.tups) perm (adu4.imp fun v i g => g.tups s6.tups) ⟨N0, ok.back, fun i => ⟨_, iT_D p2 TS i⟩, h2, h1, by omega, fun i hi j hj e => dT_inj ok hi hj e, fun i => rkD_rk _ _ _ _⟩
    refine ⟨_, rfl, rfl, _, rfl, ?_⟩
    have tb4 : TBL K H4 := hT.same s04
    refine ite2 (fun c5 => ?_) fun c5 => ?_
    · refine itT rfl ?_
      refine ⟨_, rfl, _, rfl, st, pp, pv, nkT TS, bhT TS, dT p2 TS, js, 0, rfl, (by rw [del_ne nps]; exact ep4), apl4, jnd, by omega, rS, by omega, fun H5 q5 qv π s5 r5 e5 a5 hin hinj => ?_⟩
      have tb5 : TBL K H5 := by
        obtain ⟨_, _, _, _, h, _⟩ := rS
        exact tb4.cut h (fun ps z => by cases z) (fun φ z => by cases z) s5
      have s05 : Same (del H (tabP K "_law_going")) H5 := (sD4.cut dst).trans s5
      have jlt : ∀ i, i < TS.length → i ∈ js := fun i hi => perm.mem_iff.mpr (List.mem_range.mpr hi)
      have πlt : ∀ i, i < TS.length → π i < TS.length := fun i hi => List.mem_range.mp (perm.mem_iff.mp (hin i (jlt i hi)))
      refine ⟨_, rfl, q5, qv, nkT TS, bhT TS, (fun i => dT p2 TS (π i)), js, TS.length, rfl, e5, a5, perm, by omega, N0, ok.back, rk_keys (fun d hd => by obtain ⟨i, _, rfl⟩ := List.mem_map.mp hd; exact rkD_rk _ _ _ _), (fun i hi j hj e => hinj i (jlt i hi) j (jlt j hj) (dT_inj ok (πlt i hi) (πlt j hj) e)), tb5, fun H6 q6 qv6 row6 s6 e6 a6 up6 perm6 => ?_⟩
      have n5 : q5 ≠ tabP K "_law_going" := fun z => by
        obtain ⟨ps, t'⟩ := tb5.tbl
        rw [← z, e5] at t'
        cases t'
      have e56 : H6 q5 = some (.lst qv) := s6 _ _ (by rw [del_ne n5]; exact e5)
      have t56 : Tups H5 H6 := fun b xs e => s6 _ _ (by
        rw [del_ne (fun z => by obtain ⟨ps, t'⟩ := tb5.tbl; rw [← z, e] at t'; cases t')]
        exact e)
      have s06 : Same (del H (tabP K "_law_going")) H6 := (s05.cut dtp).trans s6
      refine ⟨_, rfl, _, rfl, szOk rfl, fun q H7 g7 s7 e7 => ?_⟩
      exact kk H7 q q5 q6 qv qv6 _ _ _ TS.length js row6 (s06.trans s7) e7 (s7 _ _ e56) (s7 _ _ e6) (a5.imp fun v i g => g.tups (t56.trans s7.tups)) perm (a6.imp fun v i g => g.tups s7.tups) ⟨N0, ok.back, fun i => ⟨_, iT_D p2 TS (π i)⟩, perm6, up6, by omega, fun i hi j hj e => hinj i (jlt i hi) j (jlt j hj) (dT_inj ok (πlt i hi) (πlt j hj) e), fun i => rkD_rk _ _ _ _⟩
    · refine ⟨_, rfl, rfl, _, rfl, ?_⟩
      refine ite2 (fun c6 => ?_) fun c6 => ?_
      · refine ⟨_, rfl, _, rfl, st, pp, pv, nkT TS, bhT TS, dT p2 TS, js, 0, rfl, (by rw [del_ne nps]; exact ep4), apl4, jnd, by omega, rS, by omega, fun H5 q5 qv π s5 r5 e5 a5 hin hinj => ?_⟩
        have tb5 : TBL K H5 := by
          obtain ⟨_, _, _, _, h, _⟩ := rS
          exact tb4.cut h (fun ps z => by cases z) (fun φ z => by cases z) s5
        have s05 : Same (del H (tabP K "_law_going")) H5 := (sD4.cut dst).trans s5
        have jlt : ∀ i, i < TS.length → i ∈ js := fun i hi => perm.mem_iff.mpr (List.mem_range.mpr hi)
        have πlt : ∀ i, i < TS.length → π i < TS.length := fun i hi => List.mem_range.mp (perm.mem_iff.mp (hin i (jlt i hi)))
        refine ⟨_, rfl, q5, qv, nkT TS, bhT TS, (fun i => dT p2 TS (π i)), js, TS.length, rfl, e5, a5, perm, by omega, N0, ok.back, rk_keys (fun d hd => by obtain ⟨i, _, rfl⟩ := List.mem_map.mp hd; exact rkD_rk _ _ _ _), (fun i hi j hj e => hinj i (jlt i hi) j (jlt j hj) (dT_inj ok (πlt i hi) (πlt j hj) e)), tb5, fun H6 q6 qv6 row6 s6 e6 a6 up6 perm6 => ?_⟩
        have n5 : q5 ≠ tabP K "_law_going" := fun z => by
          obtain ⟨ps, t'⟩ := tb5.tbl
          rw [← z, e5] at t'
          cases t'
        have e56 : H6 q5 = some (.lst qv) := s6 _ _ (by rw [del_ne n5]; exact e5)
        have t56 : Tups H5 H6 := fun b xs e => s6 _ _ (by
          rw [del_ne (fun z => by obtain ⟨ps, t'⟩ := tb5.tbl; rw [← z, e] at t'; cases t')]
          exact e)
        have s06 : Same (del H (tabP K "_law_going")) H6 := (s05.cut dtp).trans s6
        refine ⟨_, rfl, _, rfl, szOk rfl, fun q H7 g7 s7 e7 => ?_⟩
        exact kk H7 q q5 q6 qv qv6 _ _ _ TS.length js row6 (s06.trans s7) e7 (s7 _ _ e56) (s7 _ _ e6) (a5.imp fun v i g => g.tups (t56.trans s7.tups)) perm (a6.imp fun v i g => g.tups s7.tups) ⟨N0, ok.back, fun i => ⟨_, iT_D p2 TS (π i)⟩, perm6, up6, by omega, fun i hi j hj e => hinj i (jlt i hi) j (jlt j hj) (dT_inj ok (πlt i hi) (πlt j hj) e), fun i => rkD_rk _ _ _ _⟩
      · exact ⟨_, rfl, _, rfl, szOk rfl, fun q H6 g6 s6 e6 => fin q H6 s6 e6⟩
theorem ok_flaw (T : Txt K mg d tk) (gf_law_are_names : FnOk P w K mg base CX0 1 d.f_law_are_names d.f_law_are_namesd ["_law_found", "_law_due"] (sp_f_law_are_names K)) (gf_law_row : FnOk P w K mg base CX0 4 d.f_law_row d.f_law_rowd ["_law_script"] (sp_f_law_row K)) (gfordered : FnOk P w K mg base CX0 4 d.fordered d.forderedd ["places"] (sp_fordered K)) : FnOk P w K mg base CX0 5 d.flaw d.flawd ["_law_script"] (sp_flaw K) := by
  refine T.F_flaw.ok sc_flaw (fun vs H Q E h => len_flaw h) (fun cdv A outer s H vs Q E hr h => ?_)
  have hu : (A.deeper (envOfC "law" (defScope s_flaw) s.heap.objs.size d.flaw cdv)).units < cLine := hr.units0
  refine ⟨_, (@pss_cons _ _ _ _ _ (@ps_asg _ _ _ _ _ _ (@pe_call _ _ _ _ _ _ _ _ _ _ _ _ _ _ _ _ gf_law_row (hr.mono (by decide)) (by rfl) T.m_f_law_row T.k_f_law_row T.d_f_law_row .nil pass0 (@pa_cons _ _ _ _ _ (@pv _ 0 _ _ rfl (Or.inl rfl) rfl rfl) (@pa_nil _) (by rfl)) (by decide) (by rfl) (by rfl)) (@pg_tup _ _ _ _ _ _ rfl (@pgs_cons _ _ _ _ _ (@pg_name _ _ (1) _ sc_flaw.nd rfl (Or.inl rfl) (by first | exact .inl rfl | exact .inr rfl)) (@pgs_cons _ _ _ _ _ (@pg_name _ _ (2) _ sc_flaw.nd rfl (Or.inl rfl) (by first | exact .inl rfl | exact .inr rfl)) (@pgs_nil _) (by rfl)) (by rfl)) (by rfl) (by rfl)) (by rfl) (by rfl) (by rfl)) (@pss_cons _ _ _ _ _ (@ps_set _ _ (3) _ _ _ _ sc_flaw.nd rfl (Or.inl rfl) (@pe_callTy _ _ _ _ _ _ _ _ _ call_lstA (by rfl) T.b_list boot_list (@pa_cons _ _ _ _ _ (@pv _ 1 _ _ rfl (Or.inl rfl) rfl rfl) (@pa_nil _) (by rfl)) (by decide) (by decide) (by rfl) (by rfl)) (by rfl) (by first | exact .inl rfl | exact .inr rfl)) (@pss_cons _ _ _ _ _ (@ps_for _ _ _ _ _ _ _ _ PassesOwn.never rfl (@pi_range1 _ _ _ _ _ _ (by rfl) T.b_range (@pa_cons _ _ _ _ _ (@pe_int _ _ _ _) (@pa_nil _) (by rfl)) (by rfl)) (@pg_name _ _ (4) _ sc_flaw.nd rfl (Or.inl rfl) (by first | exact .inl rfl | exact .inr rfl)) (@pss_cons _ _ _ _ _ (@ps_set _ _ (5) _ _ _ _ sc_flaw.nd rfl (Or.inl rfl) (@pe_call _ _ _ _ _ _ _ _ _ _ _ _ _ _ _ _ gfordered (hr.mono (by decide)) (by rfl) T.m_fordered T.k_fordered T.d_fordered .nil pass0 (@pa_cons _ _ _ _ _ (@pv _ 3 _ _ rfl (Or.inl rfl) rfl rfl) (@pa_nil _) (by rfl)) (by decide) (by rfl) (by rfl)) (by rfl) (by first | exact .inl rfl | exact .inr rfl)) (@pss_cons _ _ _ _ _ (@ps_if _ _ _ _ _ _ _ _ (@PW.pt _ _ _ (@pw_or _ _ _ _ _ _ _ (@pt_not _ _ _ _ (@pt_val _ _ _ (@pe_call _ _ _ _ _ _ _ _ _ _ _ _ _ _ _ _ gf_law_are_names (hr.mono (by decide)) (by rfl) T.m_f_law_are_names T.k_f_law_are_names T.d_f_law_are_names .nil pass0 (@pa_cons _ _ _ _ _ (@pv _ 5 _ _ rfl (Or.inl rfl) rfl rfl) (@pa_cons _ _ _ _ _ (@pv _ 2 _ _ rfl (Or.inl rfl) rfl rfl) (@pa_nil _) (by rfl)) (by rfl)) (by decide) (by rfl) (by rfl)) (by intro _; rfl))) (@pw_or1 _ _ _ _ (@pt_cmpR _ _ _ _ _ _ _ _ (op_neD (hu64 hr)) (@pv _ 3 _ _ rfl (Or.inl rfl) rfl rfl) (@pv _ 1 _ _ rfl (Or.inl rfl) rfl rfl) (nomark _))))) (@pss_one _ _ _ (@ps_ret _ _ _ _ (@pe_bl _ _ _ _))) (@pss_nil _)) (@pss_one _ _ _ (@ps_expr _ _ _ _ (@pe_bm _ _ _ _ _ _ _ _ _ _ _ _ PySem.F.plainAttrs_list PySem.F.slot_list_append PySem.F.type_list_append mt_append (@pv _ 5 _ _ rfl (Or.inl rfl) rfl rfl) (@pa_cons _ _ _ _ _ (@pe_non _ _ _) (@pa_nil _) (by rfl)) (by rfl) (by rfl) (by rfl) (by rfl) (by rfl)) (by rfl))))) (by intro _; rfl)) (@pss_one _ _ _ (@ps_ret _ _ _ _ (@pe_and _ _ _ _ _ _ _ (@pe_call _ _ _ _ _ _ _ _ _ _ _ _ _ _ _ _ gf_law_are_names (hr.mono (by decide)) (by rfl) T.m_f_law_are_names T.k_f_law_are_names T.d_f_law_are_names .nil pass0 (@pa_cons _ _ _ _ _ (@pe_call _ _ _ _ _ _ _ _ _ _ _ _ _ _ _ _ gfordered (hr.mono (by decide)) (by rfl) T.m_fordered T.k_fordered T.d_fordered .nil pass0 (@pa_cons _ _ _ _ _ (@pe_revL _ _ _ _ _ _ _ (@pv _ 1 _ _ rfl (Or.inl rfl) rfl rfl) (@po_some _ _ _ (@pe_un _ _ _ _ _ _ un_neg (@pe_int _ _ _ _)))) (@pa_nil _) (by rfl)) (by decide) (by rfl) (by rfl)) (@pa_cons _ _ _ _ _ (@pv _ 2 _ _ rfl (Or.inl rfl) rfl rfl) (@pa_nil _) (by rfl)) (by rfl)) (by decide) (by rfl) (by rfl)) (@pe_one _ _ _ _ _ (@pe_cmpR _ _ _ _ _ _ _ _ (op_eqNil hu) (@pe_call _ _ _ _ _ _ _ _ _ _ _ _ _ _ _ _ gfordered (hr.mono (by decide)) (by rfl) T.m_fordered T.k_fordered T.d_fordered .nil pass0 (@pa_cons _ _ _ _ _ (@pe_lstA _ _ _ _ (@pa_nil _)) (@pa_nil _) (by rfl)) (by decide) (by rfl) (by rfl)) (@pe_lstA _ _ _ _ (@pa_nil _)) (nomark _))))))))), ?_⟩
  obtain ⟨sp, ns, rfl, hs, hl, hT0, kk⟩ := h
  refine ⟨_, rfl, sp, ns, rfl, hs, hl, .inl hT0, fun H1 q1 pp dp pv dv nk bh D N js row s1 e1 ep ed ap perm ad R => ?_⟩
  refine ⟨q1, _, rfl, SqT.of e1, rfl, _, _, rfl, _, _, rfl, rfl, ?_⟩
  have few := R.few
  have hrl : row.length = N := by rw [R.perm.length_eq, List.length_range]
  have hjl : js.length = N := by rw [perm.length_eq, List.length_range]
  have hpl : pv.length = N := by rw [ap.1, hjl]
  have rlt : ∀ i ∈ row, i < N := fun i hi => List.mem_range.mp (R.perm.mem_iff.mp hi)
  have jlt : ∀ i ∈ js, i < N := fun i hi => List.mem_range.mp (perm.mem_iff.mp hi)
  have lay : PyData.canLayAll0 (js.map (plD nk bh D)) = true := lays_all fun d hd => by
    obtain ⟨i, hi, rfl⟩ := List.mem_map.mp hd
    exact (plD_ok R (jlt i hi)).1
  have deep : PyData.depthAll (js.map (plD nk bh D)) ≤ 61 := deeps_le fun d hd => by
    obtain ⟨i, hi, rfl⟩ := List.mem_map.mp hd
    exact (plD_ok R (jlt i hi)).2.1
  have eself : PyData.eqv (.list (js.map (plD nk bh D))) (.list (js.map (plD nk bh D))) = true := eqs_self fun d hd => by
    obtain ⟨i, hi, rfl⟩ := List.mem_map.mp hd
    exact (plD_ok R (jlt i hi)).2.2
  refine ⟨_, rfl, pp, pv, rfl, .inl (SqL.of ep), fun hp H2 g2 s2 e2 => ?_⟩
  have ep2 := s2 _ _ ep
  have ed2 := s2 _ _ ed
  have ap2 : AN (PL nk bh D H2) pv js := ap.imp fun v i g => g.tups s2.tups
  have ad2 : AN (NM nk H2) dv row := ad.imp fun v i g => g.tups s2.tups
  refine ⟨_, rfl, by omega, by omega, for_range (lo := 0) (n := 2) (fun j σ Hx => ∃ (u4 u5 : Option V), σ = [some (.ref sp), some (.ref pp), some (.ref dp), some (.ref hp), u4, u5] ∧ Same H2 Hx) ⟨_, _, rfl, Same.refl _⟩ ?_ ?_⟩
  · rintro j σ Hx hj ⟨u4, u5, rfl, sx⟩
    refine ⟨_, rfl, hp, pv, nk, bh, D, js, N, row, rfl, SqL.of (sx _ _ e2), ap2.imp (fun v i g => g.tups sx.tups), perm, R, fun Ha fq zs sa ga ea aa => ?_⟩
    have sxa := sx.trans sa
    refine ⟨_, rfl, _, rfl, fq, dp, zs, dv, nk, N, row, rfl, ea, sxa _ _ ed2, aa, ad2.imp (fun v i g => NM.tups g sxa.tups), R.names, rlt, by omega, fun Hb sb => ?_⟩
    have sxb := sxa.trans sb
    have apb : AN (PL nk bh D Hb) pv js := ap2.imp fun v i g => g.tups sxb.tups
    refine ⟨_, rfl, itF rfl ?_⟩
    refine ⟨_, rfl, _, rfl, .list (js.map (plD nk bh D)), .list (js.map (plD nk bh D)), .lst (SqL.of (sxb _ _ e2)) (apb.dts fun v i g => PL.dt g).dv, .lst (SqL.of (sxb _ _ ep2)) (apb.dts fun v i g => PL.dt g).dv, lay, lay, ?_, _, rfl, ?_⟩
    · show min (PyData.depthAll _ + 1) (PyData.depthAll _ + 1) ≤ 64
      omega
    rw [eself]
    refine itF rfl ?_
    have eab := sb _ _ ea
    refine ⟨_, rfl, .inl ⟨rfl, _, SqL.of eab⟩, fq, _, _, rfl, rfl, eab, (by rw [aa.1]; exact small2000 (by omega)), ?_⟩
    exact ⟨_, _, rfl, sxb.wr (sx.free ga)⟩
  rintro σ Hx ⟨u4, u5, rfl, sx⟩
  refine ⟨_, rfl, _, rfl, ?_⟩
  refine ⟨_, rfl, rfl, pp, pv, rfl, SqL.of (sx _ _ ep2), fun rp H3 g3 s3 e3 => ?_⟩
  have sx3 := sx.trans s3
  refine ⟨rp, pv.reverse, nk, bh, D, js.reverse, N, row, rfl, SqL.of e3, (ap2.imp fun v i g => g.tups sx3.tups).rev, (List.reverse_perm js).trans perm, R, fun Ha fq zs sa ga ea aa => ?_⟩
  have sxa := sx3.trans sa
  refine ⟨_, rfl, fq, dp, zs, dv, nk, N, row, rfl, ea, sxa _ _ ed2, aa, ad2.imp (fun v i g => NM.tups g sxa.tups), R.names, rlt, by omega, fun Hb sb => ?_⟩
  refine ⟨true, rfl, ?_⟩
  rw [if_pos rfl]
  refine ⟨szOk rfl, fun z H4 g4 s4 e4 => ?_⟩
  have R0 : RowOk (fun _ => []) (fun _ => none) (fun _ => .tuple [.int 0, .int 0]) [] 0 := ⟨⟨⟨rfl, (fun d hd => absurd hd (by simp)), (fun a ha => absurd ha (by simp)), fun d hd => absurd hd (by simp)⟩, fun i hi => absurd hi (by simp)⟩, (fun i hi => absurd hi (by omega)), (fun i => ⟨[0, 0], rfl⟩), .refl _, .nil, by omega, (fun i hi => absurd hi (by omega)), fun i => .inl ⟨0, 0, rfl⟩⟩
  refine ⟨z, [], _, _, _, [], 0, [], rfl, SqL.of e4, .nil, .refl _, R0, fun Hc f2 zs2 sc gc ec ac => ?_⟩
  have z0 : zs2 = [] := List.length_eq_zero_iff.mp ac.1
  subst z0
  refine ⟨szOk rfl, fun z2 H5 g5 s5 e5 => ?_⟩
  exact ⟨f2, z2, [], rfl, rfl, SqL.of (s5 _ _ ec), SqL.of e5, kk _⟩
end
theorem all_mk {l : PySem.W.OpenLaw} {w : World} {K : PySem.W.Frag} {h : Heap} {mg : Str → Option Value} {fa : Addr} (X : K.In h) (G : h.Ns mainGlobals mg) (hfa : mg "law" = some (.ref fa))
    {a_fkey_of_place : Addr} {od_fkey_of_place an_fkey_of_place : Option Addr} {sl_fkey_of_place : Array (Option Value)} {oc_fkey_of_place kV_fkey_of_place dc_fkey_of_place pm_fkey_of_place cd_fkey_of_place ct_fkey_of_place : Value} {a_ffollowers_of : Addr} {od_ffollowers_of an_ffollowers_of : Option Addr} {sl_ffollowers_of : Array (Option Value)} {oc_ffollowers_of kV_ffollowers_of dc_ffollowers_of pm_ffollowers_of cd_ffollowers_of ct_ffollowers_of : Value} {a_fordered : Addr} {od_fordered an_fordered : Option Addr} {sl_fordered : Array (Option Value)} {oc_fordered kV_fordered dc_fordered pm_fordered cd_fordered ct_fordered : Value} {a_f_law_begun : Addr} {od_f_law_begun an_f_law_begun : Option Addr} {sl_f_law_begun : Array (Option Value)} {oc_f_law_begun kV_f_law_begun dc_f_law_begun pm_f_law_begun cd_f_law_begun ct_f_law_begun : Value} {a_f_law_draw : Addr} {od_f_law_draw an_f_law_draw : Option Addr} {sl_f_law_draw : Array (Option Value)} {oc_f_law_draw kV_f_law_draw dc_f_law_draw pm_f_law_draw cd_f_law_draw ct_f_law_draw : Value} {a_f_law_name : Addr} {od_f_law_name an_f_law_name : Option Addr} {sl_f_law_name : Array (Option Value)} {oc_f_law_name kV_f_law_name dc_f_law_name pm_f_law_name cd_f_law_name ct_f_law_name : Value} {a_f_law_key : Addr} {od_f_law_key an_f_law_key : Option Addr} {sl_f_law_key : Array (Option Value)} {oc_f_law_key kV_f_law_key dc_f_law_key pm_f_law_key cd_f_law_key ct_f_law_key : Value} {a_f_law_places : Addr} {od_f_law_places an_f_law_places : Option Addr} {sl_f_law_places : Array (Option Value)} {oc_f_law_places kV_f_law_places dc_f_law_places pm_f_law_places cd_f_law_places ct_f_law_places : Value} {a_f_law_chain : Addr} {od_f_law_chain an_f_law_chain : Option Addr} {sl_f_law_chain : Array (Option Value)} {oc_f_law_chain kV_f_law_chain dc_f_law_chain pm_f_law_chain cd_f_law_chain ct_f_law_chain : Value} {a_f_law_going : Addr} {od_f_law_going an_f_law_going : Option Addr} {sl_f_law_going : Array (Option Value)} {oc_f_law_going kV_f_law_going dc_f_law_going pm_f_law_going ct_f_law_going : Value} {lc_f_law_going : Addr} {a_f_law_exchanged : Addr} {od_f_law_exchanged an_f_law_exchanged : Option Addr} {sl_f_law_exchanged : Array (Option Value)} {oc_f_law_exchanged kV_f_law_exchanged dc_f_law_exchanged pm_f_law_exchanged cd_f_law_exchanged ct_f_law_exchanged : Value} {a_f_law_row : Addr} {od_f_law_row an_f_law_row : Option Addr} {sl_f_law_row : Array (Option Value)} {oc_f_law_row kV_f_law_row dc_f_law_row pm_f_law_row cd_f_law_row ct_f_law_row : Value} {a_f_law_are_names : Addr} {od_f_law_are_names an_f_law_are_names : Option Addr} {sl_f_law_are_names : Array (Option Value)} {oc_f_law_are_names kV_f_law_are_names dc_f_law_are_names pm_f_law_are_names cd_f_law_are_names ct_f_law_are_names : Value} {a_flaw : Addr} {od_flaw an_flaw : Option Addr} {sl_flaw : Array (Option Value)} {oc_flaw kV_flaw dc_flaw pm_flaw cd_flaw ct_flaw : Value}
    (zb_isinstance : PySem.W.nsIn K mainGlobals "isinstance" = some none)
    (zb_len : PySem.W.nsIn K mainGlobals "len" = some none)
    (zb_list : PySem.W.nsIn K mainGlobals "list" = some none)
    (zb_max : PySem.W.nsIn K mainGlobals "max" = some none)
    (zb_min : PySem.W.nsIn K mainGlobals "min" = some none)
    (zb_range : PySem.W.nsIn K mainGlobals "range" = some none)
    (zb_sorted : PySem.W.nsIn K mainGlobals "sorted" = some none)
    (zb_tuple : PySem.W.nsIn K mainGlobals "tuple" = some none)
    (zb_zip : PySem.W.nsIn K mainGlobals "zip" = some none)
    (z1_fkey_of_place : PySem.W.nsIn K mainGlobals "key_of_place" = some (some (.ref a_fkey_of_place)))
    (z2_fkey_of_place : K.lookup a_fkey_of_place = some ⟨oc_fkey_of_place, od_fkey_of_place, .func (PySem.W.fnOf "key_of_place" "key_of_place" (defArgs s_fkey_of_place) (defBody s_fkey_of_place) (defScope s_fkey_of_place) .none kV_fkey_of_place dc_fkey_of_place pm_fkey_of_place an_fkey_of_place cd_fkey_of_place ct_fkey_of_place), sl_fkey_of_place⟩)
    (z3_fkey_of_place : PySem.W.codeIn K cd_fkey_of_place "key_of_place" = true) (z4_fkey_of_place : PySem.W.keepIn K (.ref a_fkey_of_place) = true)
    (z1_ffollowers_of : PySem.W.nsIn K mainGlobals "followers_of" = some (some (.ref a_ffollowers_of)))
    (z2_ffollowers_of : K.lookup a_ffollowers_of = some ⟨oc_ffollowers_of, od_ffollowers_of, .func (PySem.W.fnOf "followers_of" "followers_of" (defArgs s_ffollowers_of) (defBody s_ffollowers_of) (defScope s_ffollowers_of) .none kV_ffollowers_of dc_ffollowers_of pm_ffollowers_of an_ffollowers_of cd_ffollowers_of ct_ffollowers_of), sl_ffollowers_of⟩)
    (z3_ffollowers_of : PySem.W.codeIn K cd_ffollowers_of "followers_of" = true) (z4_ffollowers_of : PySem.W.keepIn K (.ref a_ffollowers_of) = true)
    (z1_fordered : PySem.W.nsIn K mainGlobals "ordered" = some (some (.ref a_fordered)))
    (z2_fordered : K.lookup a_fordered = some ⟨oc_fordered, od_fordered, .func (PySem.W.fnOf "ordered" "ordered" (defArgs s_fordered) (defBody s_fordered) (defScope s_fordered) .none kV_fordered dc_fordered pm_fordered an_fordered cd_fordered ct_fordered), sl_fordered⟩)
    (z3_fordered : PySem.W.codeIn K cd_fordered "ordered" = true) (z4_fordered : PySem.W.keepIn K (.ref a_fordered) = true)
    (z1_f_law_begun : PySem.W.nsIn K mainGlobals "_law_begun" = some (some (.ref a_f_law_begun)))
    (z2_f_law_begun : K.lookup a_f_law_begun = some ⟨oc_f_law_begun, od_f_law_begun, .func (PySem.W.fnOf "_law_begun" "_law_begun" (defArgs s_f_law_begun) (defBody s_f_law_begun) (defScope s_f_law_begun) .none kV_f_law_begun dc_f_law_begun pm_f_law_begun an_f_law_begun cd_f_law_begun ct_f_law_begun), sl_f_law_begun⟩)
    (z3_f_law_begun : PySem.W.codeIn K cd_f_law_begun "_law_begun" = true) (z4_f_law_begun : PySem.W.keepIn K (.ref a_f_law_begun) = true)
    (z1_f_law_draw : PySem.W.nsIn K mainGlobals "_law_draw" = some (some (.ref a_f_law_draw)))
    (z2_f_law_draw : K.lookup a_f_law_draw = some ⟨oc_f_law_draw, od_f_law_draw, .func (PySem.W.fnOf "_law_draw" "_law_draw" (defArgs s_f_law_draw) (defBody s_f_law_draw) (defScope s_f_law_draw) .none kV_f_law_draw dc_f_law_draw pm_f_law_draw an_f_law_draw cd_f_law_draw ct_f_law_draw), sl_f_law_draw⟩)
    (z3_f_law_draw : PySem.W.codeIn K cd_f_law_draw "_law_draw" = true) (z4_f_law_draw : PySem.W.keepIn K (.ref a_f_law_draw) = true)
    (z1_f_law_name : PySem.W.nsIn K mainGlobals "_law_name" = some (some (.ref a_f_law_name)))
    (z2_f_law_name : K.lookup a_f_law_name = some ⟨oc_f_law_name, od_f_law_name, .func (PySem.W.fnOf "_law_name" "_law_name" (defArgs s_f_law_name) (defBody s_f_law_name) (defScope s_f_law_name) .none kV_f_law_name dc_f_law_name pm_f_law_name an_f_law_name cd_f_law_name ct_f_law_name), sl_f_law_name⟩)
    (z3_f_law_name : PySem.W.codeIn K cd_f_law_name "_law_name" = true) (z4_f_law_name : PySem.W.keepIn K (.ref a_f_law_name) = true)
    (z1_f_law_key : PySem.W.nsIn K mainGlobals "_law_key" = some (some (.ref a_f_law_key)))
    (z2_f_law_key : K.lookup a_f_law_key = some ⟨oc_f_law_key, od_f_law_key, .func (PySem.W.fnOf "_law_key" "_law_key" (defArgs s_f_law_key) (defBody s_f_law_key) (defScope s_f_law_key) .none kV_f_law_key dc_f_law_key pm_f_law_key an_f_law_key cd_f_law_key ct_f_law_key), sl_f_law_key⟩)
    (z3_f_law_key : PySem.W.codeIn K cd_f_law_key "_law_key" = true) (z4_f_law_key : PySem.W.keepIn K (.ref a_f_law_key) = true)
    (z1_f_law_places : PySem.W.nsIn K mainGlobals "_law_places" = some (some (.ref a_f_law_places)))
    (z2_f_law_places : K.lookup a_f_law_places = some ⟨oc_f_law_places, od_f_law_places, .func (PySem.W.fnOf "_law_places" "_law_places" (defArgs s_f_law_places) (defBody s_f_law_places) (defScope s_f_law_places) .none kV_f_law_places dc_f_law_places pm_f_law_places an_f_law_places cd_f_law_places ct_f_law_places), sl_f_law_places⟩)
    (z3_f_law_places : PySem.W.codeIn K cd_f_law_places "_law_places" = true) (z4_f_law_places : PySem.W.keepIn K (.ref a_f_law_places) = true)
    (z1_f_law_chain : PySem.W.nsIn K mainGlobals "_law_chain" = some (some (.ref a_f_law_chain)))
    (z2_f_law_chain : K.lookup a_f_law_chain = some ⟨oc_f_law_chain, od_f_law_chain, .func (PySem.W.fnOf "_law_chain" "_law_chain" (defArgs s_f_law_chain) (defBody s_f_law_chain) (defScope s_f_law_chain) .none kV_f_law_chain dc_f_law_chain pm_f_law_chain an_f_law_chain cd_f_law_chain ct_f_law_chain), sl_f_law_chain⟩)
    (z3_f_law_chain : PySem.W.codeIn K cd_f_law_chain "_law_chain" = true) (z4_f_law_chain : PySem.W.keepIn K (.ref a_f_law_chain) = true)
    (z1_f_law_going : PySem.W.nsIn K mainGlobals "_law_going" = some (some (.ref a_f_law_going)))
    (z2_f_law_going : K.lookup a_f_law_going = some ⟨oc_f_law_going, od_f_law_going, .func (PySem.W.fnOf "_law_going" "_law_going" (defArgs s_f_law_going) (defBody s_f_law_going) (defScope s_f_law_going) .none kV_f_law_going dc_f_law_going pm_f_law_going an_f_law_going (.ref lc_f_law_going) ct_f_law_going), sl_f_law_going⟩)
    (z3_f_law_going : PySem.W.codeIn K (.ref lc_f_law_going) "_law_going" = true) (z4_f_law_going : PySem.W.keepIn K (.ref a_f_law_going) = true)
    (z5_f_law_going : PySem.W.codeHdIn K lc_f_law_going (tabP K "_law_going") = true)
    (z1_f_law_exchanged : PySem.W.nsIn K mainGlobals "_law_exchanged" = some (some (.ref a_f_law_exchanged)))
    (z2_f_law_exchanged : K.lookup a_f_law_exchanged = some ⟨oc_f_law_exchanged, od_f_law_exchanged, .func (PySem.W.fnOf "_law_exchanged" "_law_exchanged" (defArgs s_f_law_exchanged) (defBody s_f_law_exchanged) (defScope s_f_law_exchanged) .none kV_f_law_exchanged dc_f_law_exchanged pm_f_law_exchanged an_f_law_exchanged cd_f_law_exchanged ct_f_law_exchanged), sl_f_law_exchanged⟩)
    (z3_f_law_exchanged : PySem.W.codeIn K cd_f_law_exchanged "_law_exchanged" = true) (z4_f_law_exchanged : PySem.W.keepIn K (.ref a_f_law_exchanged) = true)
    (z1_f_law_row : PySem.W.nsIn K mainGlobals "_law_row" = some (some (.ref a_f_law_row)))
    (z2_f_law_row : K.lookup a_f_law_row = some ⟨oc_f_law_row, od_f_law_row, .func (PySem.W.fnOf "_law_row" "_law_row" (defArgs s_f_law_row) (defBody s_f_law_row) (defScope s_f_law_row) .none kV_f_law_row dc_f_law_row pm_f_law_row an_f_law_row cd_f_law_row ct_f_law_row), sl_f_law_row⟩)
    (z3_f_law_row : PySem.W.codeIn K cd_f_law_row "_law_row" = true) (z4_f_law_row : PySem.W.keepIn K (.ref a_f_law_row) = true)
    (z1_f_law_are_names : PySem.W.nsIn K mainGlobals "_law_are_names" = some (some (.ref a_f_law_are_names)))
    (z2_f_law_are_names : K.lookup a_f_law_are_names = some ⟨oc_f_law_are_names, od_f_law_are_names, .func (PySem.W.fnOf "_law_are_names" "_law_are_names" (defArgs s_f_law_are_names) (defBody s_f_law_are_names) (defScope s_f_law_are_names) .none kV_f_law_are_names dc_f_law_are_names pm_f_law_are_names an_f_law_are_names cd_f_law_are_names ct_f_law_are_names), sl_f_law_are_names⟩)
    (z3_f_law_are_names : PySem.W.codeIn K cd_f_law_are_names "_law_are_names" = true) (z4_f_law_are_names : PySem.W.keepIn K (.ref a_f_law_are_names) = true)
    (z1_flaw : PySem.W.nsIn K mainGlobals "law" = some (some (.ref a_flaw)))
    (z2_flaw : K.lookup a_flaw = some ⟨oc_flaw, od_flaw, .func (PySem.W.fnOf "law" "law" (defArgs s_flaw) (defBody s_flaw) (defScope s_flaw) .none kV_flaw dc_flaw pm_flaw an_flaw cd_flaw ct_flaw), sl_flaw⟩)
    (z3_flaw : PySem.W.codeIn K cd_flaw "law" = true) (z4_flaw : PySem.W.keepIn K (.ref a_flaw) = true) :
    ∃ fd : FuncData, (∀ (s : Shared) (v : Value), BindsTo s fd ⟨[v], []⟩ [("_law_script", v)]) ∧ ∀ base : Heap, K.In base → base.Ns mainGlobals mg → base.BuiltinsAt mg (tabP K "_law_going") → FnOk l.prog w K mg base CX0 5 fa fd ["_law_script"] (sp_flaw K) := by
  have e := hfa.symm.trans (PySem.W.mg_of X G z1_flaw)
  cases e
  have T : Txt K mg ⟨a_fkey_of_place, PySem.W.fnOf "key_of_place" "key_of_place" (defArgs s_fkey_of_place) (defBody s_fkey_of_place) (defScope s_fkey_of_place) .none kV_fkey_of_place dc_fkey_of_place pm_fkey_of_place an_fkey_of_place cd_fkey_of_place ct_fkey_of_place, a_ffollowers_of, PySem.W.fnOf "followers_of" "followers_of" (defArgs s_ffollowers_of) (defBody s_ffollowers_of) (defScope s_ffollowers_of) .none kV_ffollowers_of dc_ffollowers_of pm_ffollowers_of an_ffollowers_of cd_ffollowers_of ct_ffollowers_of, a_fordered, PySem.W.fnOf "ordered" "ordered" (defArgs s_fordered) (defBody s_fordered) (defScope s_fordered) .none kV_fordered dc_fordered pm_fordered an_fordered cd_fordered ct_fordered, a_f_law_begun, PySem.W.fnOf "_law_begun" "_law_begun" (defArgs s_f_law_begun) (defBody s_f_law_begun) (defScope s_f_law_begun) .none kV_f_law_begun dc_f_law_begun pm_f_law_begun an_f_law_begun cd_f_law_begun ct_f_law_begun, a_f_law_draw, PySem.W.fnOf "_law_draw" "_law_draw" (defArgs s_f_law_draw) (defBody s_f_law_draw) (defScope s_f_law_draw) .none kV_f_law_draw dc_f_law_draw pm_f_law_draw an_f_law_draw cd_f_law_draw ct_f_law_draw, a_f_law_name, PySem.W.fnOf "_law_name" "_law_name" (defArgs s_f_law_name) (defBody s_f_law_name) (defScope s_f_law_name) .none kV_f_law_name dc_f_law_name pm_f_law_name an_f_law_name cd_f_law_name ct_f_law_name, a_f_law_key, PySem.W.fnOf "_law_key" "_law_key" (defArgs s_f_law_key) (defBody s_f_law_key) (defScope s_f_law_key) .none kV_f_law_key dc_f_law_key pm_f_law_key an_f_law_key cd_f_law_key ct_f_law_key, a_f_law_places, PySem.W.fnOf "_law_places" "_law_places" (defArgs s_f_law_places) (defBody s_f_law_places) (defScope s_f_law_places) .none kV_f_law_places dc_f_law_places pm_f_law_places an_f_law_places cd_f_law_places ct_f_law_places, a_f_law_chain, PySem.W.fnOf "_law_chain" "_law_chain" (defArgs s_f_law_chain) (defBody s_f_law_chain) (defScope s_f_law_chain) .none kV_f_law_chain dc_f_law_chain pm_f_law_chain an_f_law_chain cd_f_law_chain ct_f_law_chain, a_f_law_going, PySem.W.fnOf "_law_going" "_law_going" (defArgs s_f_law_going) (defBody s_f_law_going) (defScope s_f_law_going) .none kV_f_law_going dc_f_law_going pm_f_law_going an_f_law_going (.ref lc_f_law_going) ct_f_law_going, lc_f_law_going, a_f_law_exchanged, PySem.W.fnOf "_law_exchanged" "_law_exchanged" (defArgs s_f_law_exchanged) (defBody s_f_law_exchanged) (defScope s_f_law_exchanged) .none kV_f_law_exchanged dc_f_law_exchanged pm_f_law_exchanged an_f_law_exchanged cd_f_law_exchanged ct_f_law_exchanged, a_f_law_row, PySem.W.fnOf "_law_row" "_law_row" (defArgs s_f_law_row) (defBody s_f_law_row) (defScope s_f_law_row) .none kV_f_law_row dc_f_law_row pm_f_law_row an_f_law_row cd_f_law_row ct_f_law_row, a_f_law_are_names, PySem.W.fnOf "_law_are_names" "_law_are_names" (defArgs s_f_law_are_names) (defBody s_f_law_are_names) (defScope s_f_law_are_names) .none kV_f_law_are_names dc_f_law_are_names pm_f_law_are_names an_f_law_are_names cd_f_law_are_names ct_f_law_are_names, fa, PySem.W.fnOf "law" "law" (defArgs s_flaw) (defBody s_flaw) (defScope s_flaw) .none kV_flaw dc_flaw pm_flaw an_flaw cd_flaw ct_flaw⟩ (fun x => 0) := by
    refine ⟨PySem.W.mg_none_of X G zb_isinstance, PySem.W.mg_none_of X G zb_len, PySem.W.mg_none_of X G zb_list, PySem.W.mg_none_of X G zb_max, PySem.W.mg_none_of X G zb_min, PySem.W.mg_none_of X G zb_range, PySem.W.mg_none_of X G zb_sorted, PySem.W.mg_none_of X G zb_tuple, PySem.W.mg_none_of X G zb_zip, fun_mk (st := s_fkey_of_place) z2_fkey_of_place z3_fkey_of_place z4_fkey_of_place, PySem.W.mg_of X G z1_fkey_of_place, z4_fkey_of_place, (fun_mk (st := s_fkey_of_place) z2_fkey_of_place z3_fkey_of_place z4_fkey_of_place).binds (ps := ["place"]) fun _ _ _ _ _ _ us hl => match us, hl with | [_], _ => rfl, fun_mk (st := s_ffollowers_of) z2_ffollowers_of z3_ffollowers_of z4_ffollowers_of, PySem.W.mg_of X G z1_ffollowers_of, z4_ffollowers_of, (fun_mk (st := s_ffollowers_of) z2_ffollowers_of z3_ffollowers_of z4_ffollowers_of).binds (ps := ["places"]) fun _ _ _ _ _ _ us hl => match us, hl with | [_], _ => rfl, fun_mk (st := s_fordered) z2_fordered z3_fordered z4_fordered, PySem.W.mg_of X G z1_fordered, z4_fordered, (fun_mk (st := s_fordered) z2_fordered z3_fordered z4_fordered).binds (ps := ["places"]) fun _ _ _ _ _ _ us hl => match us, hl with | [_], _ => rfl, fun_mk (st := s_f_law_begun) z2_f_law_begun z3_f_law_begun z4_f_law_begun, PySem.W.mg_of X G z1_f_law_begun, z4_f_law_begun, (fun_mk (st := s_f_law_begun) z2_f_law_begun z3_f_law_begun z4_f_law_begun).binds (ps := ["_law_script", "_law_k"]) fun _ _ _ _ _ _ us hl => match us, hl with | [_, _], _ => rfl, fun_mk (st := s_f_law_draw) z2_f_law_draw z3_f_law_draw z4_f_law_draw, PySem.W.mg_of X G z1_f_law_draw, z4_f_law_draw, (fun_mk (st := s_f_law_draw) z2_f_law_draw z3_f_law_draw z4_f_law_draw).binds (ps := ["_law_state", "_law_many"]) fun _ _ _ _ _ _ us hl => match us, hl with | [_, _], _ => rfl, fun_mk (st := s_f_law_name) z2_f_law_name z3_f_law_name z4_f_law_name, PySem.W.mg_of X G z1_f_law_name, z4_f_law_name, (fun_mk (st := s_f_law_name) z2_f_law_name z3_f_law_name z4_f_law_name).binds (ps := ["_law_state", "_law_k", "_law_paces"]) fun _ _ _ _ _ _ us hl => match us, hl with | [_, _, _], _ => rfl, fun_mk (st := s_f_law_key) z2_f_law_key z3_f_law_key z4_f_law_key, PySem.W.mg_of X G z1_f_law_key, z4_f_law_key, (fun_mk (st := s_f_law_key) z2_f_law_key z3_f_law_key z4_f_law_key).binds (ps := ["_law_state", "_law_last", "_law_many"]) fun _ _ _ _ _ _ us hl => match us, hl with | [_, _, _], _ => rfl, fun_mk (st := s_f_law_places) z2_f_law_places z3_f_law_places z4_f_law_places, PySem.W.mg_of X G z1_f_law_places, z4_f_law_places, (fun_mk (st := s_f_law_places) z2_f_law_places z3_f_law_places z4_f_law_places).binds (ps := ["_law_script"]) fun _ _ _ _ _ _ us hl => match us, hl with | [_], _ => rfl, fun_mk (st := s_f_law_chain) z2_f_law_chain z3_f_law_chain z4_f_law_chain, PySem.W.mg_of X G z1_f_law_chain, z4_f_law_chain, (fun_mk (st := s_f_law_chain) z2_f_law_chain z3_f_law_chain z4_f_law_chain).binds (ps := ["_law_state", "_law_places_here", "_law_due"]) fun _ _ _ _ _ _ us hl => match us, hl with | [_, _, _], _ => rfl, fun_mk (st := s_f_law_going) z2_f_law_going z3_f_law_going z4_f_law_going, PySem.W.mg_of X G z1_f_law_going, z4_f_law_going, (fun_mk (st := s_f_law_going) z2_f_law_going z3_f_law_going z4_f_law_going).binds (ps := ["_law_places_here"]) fun _ _ _ _ _ _ us hl => match us, hl with | [_], _ => rfl, rfl, z5_f_law_going, fun_mk (st := s_f_law_exchanged) z2_f_law_exchanged z3_f_law_exchanged z4_f_law_exchanged, PySem.W.mg_of X G z1_f_law_exchanged, z4_f_law_exchanged, (fun_mk (st := s_f_law_exchanged) z2_f_law_exchanged z3_f_law_exchanged z4_f_law_exchanged).binds (ps := ["_law_state", "_law_places_here"]) fun _ _ _ _ _ _ us hl => match us, hl with | [_, _], _ => rfl, fun_mk (st := s_f_law_row) z2_f_law_row z3_f_law_row z4_f_law_row, PySem.W.mg_of X G z1_f_law_row, z4_f_law_row, (fun_mk (st := s_f_law_row) z2_f_law_row z3_f_law_row z4_f_law_row).binds (ps := ["_law_script"]) fun _ _ _ _ _ _ us hl => match us, hl with | [_], _ => rfl, fun_mk (st := s_f_law_are_names) z2_f_law_are_names z3_f_law_are_names z4_f_law_are_names, PySem.W.mg_of X G z1_f_law_are_names, z4_f_law_are_names, (fun_mk (st := s_f_law_are_names) z2_f_law_are_names z3_f_law_are_names z4_f_law_are_names).binds (ps := ["_law_found", "_law_due"]) fun _ _ _ _ _ _ us hl => match us, hl with | [_, _], _ => rfl, fun_mk (st := s_flaw) z2_flaw z3_flaw z4_flaw, PySem.W.mg_of X G z1_flaw, z4_flaw, (fun_mk (st := s_flaw) z2_flaw z3_flaw z4_flaw).binds (ps := ["_law_script"]) fun _ _ _ _ _ _ us hl => match us, hl with | [_], _ => rfl⟩
  refine ⟨PySem.W.fnOf "law" "law" (defArgs s_flaw) (defBody s_flaw) (defScope s_flaw) .none kV_flaw dc_flaw pm_flaw an_flaw cd_flaw ct_flaw, fun s v => .of_eq rfl, fun base _ _ hB => ?_⟩
  have r_fkey_of_place := ok_fkey_of_place (P := l.prog) (w := w) (base := base) T
  have r_f_law_begun := ok_f_law_begun (P := l.prog) (w := w) (base := base) T
  have r_f_law_draw := ok_f_law_draw (P := l.prog) (w := w) (base := base) T
  have r_f_law_are_names := ok_f_law_are_names (P := l.prog) (w := w) (base := base) T
  have r_f_law_name := ok_f_law_name (P := l.prog) (w := w) (base := base) T r_f_law_draw
  have r_f_law_key := ok_f_law_key (P := l.prog) (w := w) (base := base) T r_f_law_draw
  have r_f_law_chain := ok_f_law_chain (P := l.prog) (w := w) (base := base) T r_f_law_draw
  have r_f_law_going := ok_f_law_going (P := l.prog) (w := w) (base := base) T hB
  have r_f_law_exchanged := ok_f_law_exchanged (P := l.prog) (w := w) (base := base) T r_f_law_draw
  have r_ffollowers_of := ok_ffollowers_of (P := l.prog) (w := w) (base := base) T r_fkey_of_place
  have r_f_law_places := ok_f_law_places (P := l.prog) (w := w) (base := base) T r_f_law_begun r_f_law_draw r_f_law_key r_f_law_name
  have r_fordered := ok_fordered (P := l.prog) (w := w) (base := base) T r_ffollowers_of
  have r_f_law_row := ok_f_law_row (P := l.prog) (w := w) (base := base) T r_f_law_begun r_f_law_chain r_f_law_draw r_f_law_exchanged r_f_law_going r_f_law_places
  exact ok_flaw T r_f_law_are_names r_f_law_row r_fordered
end My
open PySem PySem.W PyProof.Rows
set_option maxRecDepth 100000 in
set_option maxHeartbeats 0 in
theorem PySem.Challenge.cw_pagefolk_k12_rows_in_order_holds : PySem.Challenge.rw_pagefolk_k12_rows_in_order.Holds := by
  w_on; o_law; k_head; (case hw => w_witness2)
  k_fill
  refine L2.walk_ofT (l := PySem.Challenge.rw_pagefolk_k12_rows_in_order) (n := 63) (k := 5) (x := "_law_script") (CX := L2.CX0) (sp := My.sp_flaw) (tp := fun K => L2.tabP K "_law_going") (tc := fun K => L2.tabC K "_law_going") rfl (by decide) rfl ⟨rfl, by decide, by decide⟩ (fun w h Y => PySem.W.km_in_of Y) (fun w h Y => PySem.W.km_tabs_of Y) ?hC ?hnt ?htp ?F My.law_spec (fun _ _ _ _ z => z)
  case hC => exact fun w => List.forall_mem_cons.mpr ⟨by kernel_rfl, fun _ h => nomatch h⟩
  case hnt => (intro w; kernel_rfl)
  case htp => (intro w; refine List.mem_singleton.mpr ?_; kernel_rfl)
  case F =>
    intro w mg fa h KX G hmg
    refine' My.all_mk KX G hmg ?zb_isinstance ?zb_len ?zb_list ?zb_max ?zb_min ?zb_range ?zb_sorted ?zb_tuple ?zb_zip ?z1_fkey_of_place ?z2_fkey_of_place ?z3_fkey_of_place ?z4_fkey_of_place ?z1_ffollowers_of ?z2_ffollowers_of ?z3_ffollowers_of ?z4_ffollowers_of ?z1_fordered ?z2_fordered ?z3_fordered ?z4_fordered ?z1_f_law_begun ?z2_f_law_begun ?z3_f_law_begun ?z4_f_law_begun ?z1_f_law_draw ?z2_f_law_draw ?z3_f_law_draw ?z4_f_law_draw ?z1_f_law_name ?z2_f_law_name ?z3_f_law_name ?z4_f_law_name ?z1_f_law_key ?z2_f_law_key ?z3_f_law_key ?z4_f_law_key ?z1_f_law_places ?z2_f_law_places ?z3_f_law_places ?z4_f_law_places ?z1_f_law_chain ?z2_f_law_chain ?z3_f_law_chain ?z4_f_law_chain ?z1_f_law_going ?z2_f_law_going ?z3_f_law_going ?z4_f_law_going ?z5_f_law_going ?z1_f_law_exchanged ?z2_f_law_exchanged ?z3_f_law_exchanged ?z4_f_law_exchanged ?z1_f_law_row ?z2_f_law_row ?z3_f_law_row ?z4_f_law_row ?z1_f_law_are_names ?z2_f_law_are_names ?z3_f_law_are_names ?z4_f_law_are_names ?z1_flaw ?z2_flaw ?z3_flaw ?z4_flaw
    (case zb_isinstance => k_is)
    (case zb_len => k_is)
    (case zb_list => k_is)
    (case zb_max => k_is)
    (case zb_min => k_is)
    (case zb_range => k_is)
    (case zb_sorted => k_is)
    (case zb_tuple => k_is)
    (case zb_zip => k_is)
    (case z1_fkey_of_place => k_is)
    (case z2_fkey_of_place => k_is)
    (case z3_fkey_of_place => k_is)
    (case z4_fkey_of_place => k_is)
    (case z1_ffollowers_of => k_is)
    (case z2_ffollowers_of => k_is)
    (case z3_ffollowers_of => k_is)
    (case z4_ffollowers_of => k_is)
    (case z1_fordered => k_is)
    (case z2_fordered => k_is)
    (case z3_fordered => k_is)
    (case z4_fordered => k_is)
    (case z1_f_law_begun => k_is)
    (case z2_f_law_begun => k_is)
    (case z3_f_law_begun => k_is)
    (case z4_f_law_begun => k_is)
    (case z1_f_law_draw => k_is)
    (case z2_f_law_draw => k_is)
    (case z3_f_law_draw => k_is)
    (case z4_f_law_draw => k_is)
    (case z1_f_law_name => k_is)
    (case z2_f_law_name => k_is)
    (case z3_f_law_name => k_is)
    (case z4_f_law_name => k_is)
    (case z1_f_law_key => k_is)
    (case z2_f_law_key => k_is)
    (case z3_f_law_key => k_is)
    (case z4_f_law_key => k_is)
    (case z1_f_law_places => k_is)
    (case z2_f_law_places => k_is)
    (case z3_f_law_places => k_is)
    (case z4_f_law_places => k_is)
    (case z1_f_law_chain => k_is)
    (case z2_f_law_chain => k_is)
    (case z3_f_law_chain => k_is)
    (case z4_f_law_chain => k_is)
    (case z1_f_law_going => k_is)
    (case z2_f_law_going => k_is)
    (case z3_f_law_going => k_is)
    (case z4_f_law_going => k_is)
    (case z5_f_law_going => kernel_rfl)
    (case z1_f_law_exchanged => k_is)
    (case z2_f_law_exchanged => k_is)
    (case z3_f_law_exchanged => k_is)
    (case z4_f_law_exchanged => k_is)
    (case z1_f_law_row => k_is)
    (case z2_f_law_row => k_is)
    (case z3_f_law_row => k_is)
    (case z4_f_law_row => k_is)
    (case z1_f_law_are_names => k_is)
    (case z2_f_law_are_names => k_is)
    (case z3_f_law_are_names => k_is)
    (case z4_f_law_are_names => k_is)
    (case z1_flaw => k_is)
    (case z2_flaw => k_is)
    (case z3_flaw => k_is)
    (case z4_flaw => k_is)
