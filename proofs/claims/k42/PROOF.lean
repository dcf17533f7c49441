import PyProof.Rows.All
import Wide.All
import OpenK.AllK
import Wide.FinOn
import Lean
import PyProof.EqAt
import PyProof.EqKinds
import PyProof.TupleCall
import KE.KSortTup
import KE.KDictOf
import PyProof.AttrMissHeap
import KE.KSortKey
import KE.KEqDict
import KE.KNestM
import KE.KLam
import PySem.Challenge.RW_pagefolk_k42_whole_tables_grow
set_option Elab.async false
set_option linter.all false
set_option maxRecDepth 100000
namespace L2
open PySem PySem.Spec PyProof.Rows
abbrev Key := Sum Int Str
def keyIs : Key → Value → Bool
  | .inl k, v => Value.isInt k v
  | .inr x, v => Value.isStrOf x v
def keyH (w : World) : Key → Int
  | .inl k => hashInt k
  | .inr x => hashStr w x
theorem keyIs_shape : ∀ {k : Key} {v : Value}, keyIs k v = true → (∃ i t, k = Sum.inl i ∧ v = Value.int i t) ∨ (∃ x t, k = Sum.inr x ∧ v = Value.str x t)
  | .inl i, v, h => by
    obtain ⟨t, e⟩ := Value.isInt_shape (k := i) (v := v) h
    exact .inl ⟨i, t, rfl, e⟩
  | .inr x, v, h => by
    obtain ⟨t, e⟩ := Value.isStrOf_shape (x := x) (v := v) h
    exact .inr ⟨x, t, rfl, e⟩
theorem keyIs_int (i : Int) (t : Tok) : keyIs (.inl i) (.int i t) = true := by simp [keyIs, Value.isInt]
theorem keyIs_str (x : Str) (t : Tok) : keyIs (.inr x) (.str x t) = true := by simp [keyIs, Value.isStrOf]
theorem key_ll (a b : Int) : decide ((Sum.inl a : Key) = Sum.inl b) = (a == b) := by
  by_cases e : a = b
  · subst e; simp
  · have h : ¬ (Sum.inl a : Key) = Sum.inl b := fun q => e (Sum.inl.inj q)
    rw [decide_eq_false h]
    exact (beq_eq_false_iff_ne.mpr e).symm
theorem key_rr (a b : Str) : decide ((Sum.inr a : Key) = Sum.inr b) = decide (a = b) := by
  by_cases e : a = b
  · subst e; simp
  · have h : ¬ (Sum.inr a : Key) = Sum.inr b := fun q => e (Sum.inr.inj q)
    rw [decide_eq_false h, decide_eq_false e]
theorem key_lr (a : Int) (b : Str) : decide ((Sum.inl a : Key) = Sum.inr b) = false := decide_eq_false (fun q => nomatch q)
theorem key_rl (a : Str) (b : Int) : decide ((Sum.inr a : Key) = Sum.inl b) = false := decide_eq_false (fun q => nomatch q)
def mixKind (prog : Program) (w : World) : PySem.KeyKind prog w Key where
  is := keyIs
  hash := keyH w
  inj := fun v a b ha hb => by
    rcases keyIs_shape ha with ⟨i, t, rfl, rfl⟩ | ⟨x, t, rfl, rfl⟩
    · rcases keyIs_shape hb with ⟨j, u, rfl, e⟩ | ⟨y, u, rfl, e⟩
      · injection e with e1 _; rw [e1]
      · exact nomatch e
    · rcases keyIs_shape hb with ⟨j, u, rfl, e⟩ | ⟨y, u, rfl, e⟩
      · exact nomatch e
      · injection e with e1 _; rw [e1]
  byValue := fun k v h => by
    rcases keyIs_shape h with ⟨i, t, rfl, rfl⟩ | ⟨x, t, rfl, rfl⟩ <;> rfl
  pyHash := fun hv h => by
    rcases keyIs_shape hv with ⟨i, t, rfl, rfl⟩ | ⟨x, t, rfl, rfl⟩
    · exact wpAny_pyHash_int h
    · exact wpAny_pyHash_str h
  eqBool := fun hu hv h => by
    rcases keyIs_shape hu with ⟨i, t, rfl, rfl⟩ | ⟨x, t, rfl, rfl⟩
    · rcases keyIs_shape hv with ⟨j, u, rfl, rfl⟩ | ⟨y, u, rfl, rfl⟩
      · rw [key_ll] at h; exact wpAny_eqBool_int h
      · rw [key_lr] at h; exact SeqAt.EqAt.int_str i t y u _ _ _ _ h
    · rcases keyIs_shape hv with ⟨j, u, rfl, rfl⟩ | ⟨y, u, rfl, rfl⟩
      · rw [key_rl] at h; exact SeqAt.EqAt.str_int x t j u _ _ _ _ h
      · rw [key_rr] at h; exact wpAny_eqBool_str h
  «strs» := fun k x t v h => by
    rcases keyIs_shape h with ⟨i, u, rfl, e⟩ | ⟨y, u, rfl, e⟩
    · exact nomatch e
    · injection e with e1 _
      subst e1
      cases v <;> rfl
theorem mixKind_int (prog : Program) (w : World) (i : Int) (t : Tok) : (mixKind prog w).is (.inl i) (.int i t) = true := keyIs_int i t
theorem mixKind_str (prog : Program) (w : World) (x : Str) (t : Tok) : (mixKind prog w).is (.inr x) (.str x t) = true := keyIs_str x t
end L2
namespace L2
open PySem PySem.Spec PyProof.Rows
inductive V where
  | non | bl (b : Bool) | int (i : Int) | str (x : Str) | byt (b : Array UInt8) | flt (b : UInt64) | ref (a : Addr) | ty (n : String)
  deriving DecidableEq
def RelV : V → Value → Prop
  | .non, u => u = Value.none
  | .bl b, u => u = Value.bool b
  | .int i, u => ∃ t, u = Value.int i t
  | .str x, u => ∃ t, u = Value.str x t
  | .byt b, u => ∃ t, u = Value.bytes b t
  | .flt b, u => ∃ t, u = Value.float b t
  | .ref a, u => u = Value.ref a
  | .ty n, u => u = Value.type n
abbrev Vals : List V → List Value → Prop := Paired RelV
theorem Vals.length {xs : List V} {us : List Value} (r : Vals xs us) : xs.length = us.length := Paired.length r
theorem Vals.get : ∀ {xs : List V} {us : List Value} {i : Nat} {x : V}, Vals xs us → xs[i]? = some x → ∃ u, us[i]? = some u ∧ RelV x u
  | _, _, _, _, .nil, e => by simp at e
  | _, _, 0, _, .cons r _, e => by simp at e; subst e; exact ⟨_, rfl, r⟩
  | _, _, i + 1, x, .cons _ t, e => by
    obtain ⟨u, h1, h2⟩ := Vals.get (i := i) (x := x) t (by simpa using e)
    exact ⟨u, by simpa using h1, h2⟩
theorem Vals.set {x : V} {u : Value} (r : RelV x u) : ∀ {xs : List V} {us : List Value} (i : Nat), Vals xs us → Vals (xs.set i x) (us.set i u)
  | _, _, _, .nil => .nil
  | _, _, 0, .cons _ t => .cons r t
  | _, _, i + 1, .cons q t => .cons q (Vals.set r i t)
theorem Vals.append : ∀ {xs ys : List V} {us ws : List Value}, Vals xs us → Vals ys ws → Vals (xs ++ ys) (us ++ ws)
  | _, _, _, _, .nil, s => s
  | _, _, _, _, .cons r t, s => .cons r (Vals.append t s)
theorem Vals.take : ∀ {xs : List V} {us : List Value} (n : Nat), Vals xs us → Vals (xs.take n) (us.take n)
  | _, _, 0, _ => .nil
  | _, _, _ + 1, .nil => .nil
  | _, _, n + 1, .cons r t => .cons r (Vals.take n t)
theorem Vals.drop : ∀ {xs : List V} {us : List Value} (n : Nat), Vals xs us → Vals (xs.drop n) (us.drop n)
  | _, _, 0, r => r
  | _, _, _ + 1, .nil => .nil
  | _, _, n + 1, .cons _ t => Vals.drop n t
def RelO : Option V → Option Value → Prop
  | some v, some u => RelV v u
  | none, none => True
  | _, _ => False
def KV {κ : Type} : List (κ × V) → List (κ × Value) → Prop := Paired fun (p : κ × V) (q : κ × Value) => p.1 = q.1 ∧ RelV p.2 q.2
def kV : Key → V
  | .inl i => .int i
  | .inr x => .str x
inductive KD where
  | non
  | int (i : Int)
  | tup (ks : List Key)
  | two (ks ls : List Key)
deriving DecidableEq
def gHash (P : Program) (w : World) : KD → Int
  | .non => 4238894112
  | .int i => hashInt i
  | .tup ks => (tupleKind (mixKind P w)).hash ks
  | .two ks ls => reduceHash (Builtin.Tuple.tupleHashOf [(tupleKind (mixKind P w)).hash ks, (tupleKind (mixKind P w)).hash ls])
def gEnt (P : Program) (w : World) (x : KD × Value × Value) : DictEntry := ⟨gHash P w x.1, x.2.1, x.2.2⟩
inductive HO where
  | lst (xs : List V)
  | tup (xs : List V)
  | dK (kvs : List (Key × V)) | dT (kvs : List (List Key × V))
  | dG (kvs : List (KD × V × V))
  | set (S : Int → Bool) (n : Nat)
  | ins (C dx : Addr) (fs : List (Str × V))
  | own (x : Addr)
  | xd (fs : List (Str × V))
  | met (f x : Addr)
  | rng (lo hi : Int)
  | frz (o : Obj) (u : HO)
  | tbl (ps : Array Value)
  | ext (φ : Heap → Prop)
abbrev Hp := Addr → Option HO
def GK (H : Hp) : KD → V → Prop
  | .non, v => v = .non
  | .int i, v => v = .int i
  | .tup ks, v => ∃ b, v = .ref b ∧ H b = some (.tup (ks.map kV))
  | .two ks ls, v => ∃ b c d, v = .ref b ∧ H b = some (.tup [.ref c, .ref d]) ∧ H c = some (.tup (ks.map kV)) ∧ H d = some (.tup (ls.map kV))
def upd (H : Hp) (a : Addr) (o : HO) : Hp := fun b => if b = a then some o else H b
theorem upd_same {H : Hp} {a : Addr} {o : HO} : upd H a o a = some o := by unfold upd; rw [if_pos rfl]
theorem upd_ne {H : Hp} {a b : Addr} {o : HO} (h : b ≠ a) : upd H a o b = H b := by unfold upd; rw [if_neg h]
theorem ne_of {H : Hp} {a b : Addr} {o u : HO} (h : H a = some o) (h' : H b = some u) (d : o ≠ u) : a ≠ b := by
  intro e; subst e; rw [h] at h'; exact d (Option.some.inj h')
theorem ne_of_none {H : Hp} {a b : Addr} {o : HO} (h : H a = some o) (h' : H b = none) : a ≠ b := by
  intro e; subst e; rw [h] at h'; cases h'
section
variable (P : Program) (w : World)
def ObjOk (H : Hp) (h : Heap) (a : Addr) : HO → Prop
  | .lst xs => xs.length ≤ sizeLine ∧ ∃ (its : List Value) (n : Nat), Vals xs its ∧ h.get? a = some { cls := .type "list", data := .seq its.toArray n }
  | .tup xs => xs.length ≤ sizeLine ∧ ∃ its : List Value, Vals xs its ∧ IsTup h a its.toArray
  | .dK kvs => kvs.length ≤ sizeLine ∧ (a == sysModules) = false ∧ ∃ vs, KV kvs vs ∧ h.DictOf (mixKind P w) a vs
  | .dT kvs => kvs.length ≤ sizeLine ∧ (a == sysModules) = false ∧ ∃ xs : List (List Key × Addr × Value),
      Paired (fun (p : List Key × V) (q : List Key × Addr × Value) => p.1 = q.1 ∧ H q.2.1 = some (.tup (p.1.map kV)) ∧ RelV p.2 q.2.2) kvs xs ∧
      ∃ o es ep, h.get? a = some o ∧ o.ExactDict ∧ o.data = .dict es ep ∧ es.toList = xs.map (entryOfKey (tupleKind (mixKind P w))) ∧ (xs.map (·.1)).Nodup
  | .dG kvs => kvs.length ≤ sizeLine ∧ (a == sysModules) = false ∧ ∃ xs : List (KD × Value × Value),
      Paired (fun (p : KD × V × V) (q : KD × Value × Value) => p.1 = q.1 ∧ GK H p.1 p.2.1 ∧ RelV p.2.1 q.2.1 ∧ RelV p.2.2 q.2.2) kvs xs ∧
      ∃ o es ep, h.get? a = some o ∧ o.ExactDict ∧ o.data = .dict es ep ∧ es.toList = xs.map (gEnt P w) ∧ (xs.map (·.1)).Nodup
  | .set S n => h.SetOf (intKind P w) a S n
  | .ins C dx fs => H dx = some (.own a) ∧ fs.length ≤ 1000 ∧ dx ≠ a ∧ h.get? a = some (PySem.W.instObj C dx) ∧
      ∃ mA, h.Ns1 dx mA ∧ (∀ f, RelO (fs.lookup f) (mA f)) ∧ PySem.Within mA (fs.map (·.1))
  | .own _ => ∃ o, h.get? a = some o
  | .xd fs => ∃ mA, h.Ns1 a mA ∧ ∀ f, RelO (fs.lookup f) (mA f)
  | .rng lo hi => ∃ t u v, h.get? a = some { cls := .type "range", data := .fields #[.int lo t, .int hi u, .int 1 v] }
  | .frz o u => h.get? a = some o ∧ ObjOk H h a u
  | .tbl ps => h.get? a = some { cls := .none, data := .fields ps }
  | .met f x => h.get? a = some (PySem.W.methodObj (.ref f) (.ref x))
  | .ext φ => φ h ∧ (∃ o, h.get? a = some o) ∧ ∀ h1 h2 : Heap, φ h1 → (∀ o, h1.get? a = some o → h2.get? a = some o) → φ h2
def HOk (H : Hp) (h : Heap) : Prop := ∀ a o, H a = some o → ObjOk P w H h a o
end
section
variable {P : Program} {w : World} {H H' : Hp} {h h' : Heap} {a : Addr} {o : HO}
theorem ObjOk.lt (x : ObjOk P w H h a o) : a < h.objs.size := by
  cases o with
  | lst xs => obtain ⟨_, _, _, _, e⟩ := x; exact Heap.lt_size e
  | tup xs => obtain ⟨_, _, _, p⟩ := x; exact p.lt
  | dK kvs => obtain ⟨_, _, _, _, o, _, _, e, _⟩ := x; exact Heap.lt_size e
  | dT kvs => obtain ⟨_, _, _, _, o, _, _, e, _⟩ := x; exact Heap.lt_size e
  | dG kvs => obtain ⟨_, _, _, _, o, _, _, e, _⟩ := x; exact Heap.lt_size e
  | set S n => obtain ⟨o, _, _, _, e, _⟩ := x; exact Heap.lt_size e
  | ins C dx fs => obtain ⟨_, _, _, e, _⟩ := x; exact Heap.lt_size e
  | own y => obtain ⟨_, e⟩ := x; exact Heap.lt_size e
  | xd fs => obtain ⟨_, ⟨_, _, _, e, _⟩, _⟩ := x; exact Heap.lt_size e
  | rng lo hi => obtain ⟨_, _, _, e⟩ := x; exact Heap.lt_size e
  | frz ob u => obtain ⟨e, _⟩ := x; exact Heap.lt_size e
  | tbl ps => exact Heap.lt_size (show h.get? a = some _ from x)
  | met f y => exact Heap.lt_size (show h.get? a = some _ from x)
  | ext φ => obtain ⟨_, ⟨_, e⟩, _⟩ := x; exact Heap.lt_size e
theorem Paired.mapP {α β : Type} {F G : α → β → Prop} : ∀ {l₁ : List α} {l₂ : List β}, Paired F l₁ l₂ → (∀ a b, F a b → G a b) → Paired G l₁ l₂
  | _, _, .nil, _ => .nil
  | _, _, .cons r t, f => .cons (f _ _ r) (Paired.mapP t f)
theorem GK.stay {H H' : Hp} {k : KD} {v : V} (g : GK H k v) (ht : ∀ b xs, H b = some (.tup xs) → H' b = some (.tup xs)) : GK H' k v := by
  cases k with
  | non => exact g
  | int i => exact g
  | tup ks => obtain ⟨b, e, h⟩ := g; exact ⟨b, e, ht _ _ h⟩
  | two ks ls => obtain ⟨b, c, d, e, h1, h2, h3⟩ := g; exact ⟨b, c, d, e, ht _ _ h1, ht _ _ h2, ht _ _ h3⟩
theorem ObjOk.stay (x : ObjOk P w H h a o) (k : ∀ b u, (b = a ∨ H b = some (.own a)) → h.get? b = some u → h'.get? b = some u)
    (ho : ∀ b, H b = some (.own a) → H' b = some (.own a)) (ht : ∀ b xs, H b = some (.tup xs) → H' b = some (.tup xs)) : ObjOk P w H' h' a o := by
  induction o with
  | lst xs => obtain ⟨z, its, n, r, e⟩ := x; exact ⟨z, its, n, r, k _ _ (.inl rfl) e⟩
  | tup xs => obtain ⟨z, its, r, ob, e, c⟩ := x; exact ⟨z, its, r, ob, k _ _ (.inl rfl) e, c⟩
  | dK kvs => obtain ⟨z, y, vs, r, ob, es, ep, e, c⟩ := x; exact ⟨z, y, vs, r, ob, es, ep, k _ _ (.inl rfl) e, c⟩
  | dT kvs =>
    obtain ⟨z, y, xs, r, ob, es, ep, e, c⟩ := x
    exact ⟨z, y, xs, Paired.mapP r fun p q z => ⟨z.1, ht _ _ z.2.1, z.2.2⟩, ob, es, ep, k _ _ (.inl rfl) e, c⟩
  | dG kvs =>
    obtain ⟨z, y, xs, r, ob, es, ep, e, c⟩ := x
    exact ⟨z, y, xs, Paired.mapP r fun p q z => ⟨z.1, z.2.1.stay ht, z.2.2⟩, ob, es, ep, k _ _ (.inl rfl) e, c⟩
  | set S n => obtain ⟨ob, es, ep, t, e, c⟩ := x; exact ⟨ob, es, ep, t, k _ _ (.inl rfl) e, c⟩
  | ins C dx fs =>
    obtain ⟨d, z, ne, e, mA, ⟨od, es, ep, e2, c⟩, r⟩ := x
    exact ⟨ho _ d, z, ne, k _ _ (.inl rfl) e, mA, ⟨od, es, ep, k _ _ (.inr d) e2, c⟩, r⟩
  | own y => obtain ⟨ob, e⟩ := x; exact ⟨ob, k _ _ (.inl rfl) e⟩
  | xd fs => obtain ⟨mA, ⟨od, es, ep, e, c⟩, r⟩ := x; exact ⟨mA, ⟨od, es, ep, k _ _ (.inl rfl) e, c⟩, r⟩
  | rng lo hi => obtain ⟨t, u, v, e⟩ := x; exact ⟨t, u, v, k _ _ (.inl rfl) e⟩
  | frz ob u ih => obtain ⟨e, q⟩ := x; exact ⟨k _ _ (.inl rfl) e, ih q⟩
  | tbl ps =>
    have e : h.get? a = some { cls := .none, data := .fields ps } := x
    show h'.get? a = some { cls := .none, data := .fields ps }
    exact k a _ (.inl rfl) e
  | met f y =>
    have e : h.get? a = some (PySem.W.methodObj (.ref f) (.ref y)) := x
    show h'.get? a = some (PySem.W.methodObj (.ref f) (.ref y))
    exact k a _ (.inl rfl) e
  | ext φ => obtain ⟨p, ⟨o, e⟩, st⟩ := x; exact ⟨st _ _ p fun o q => k _ _ (.inl rfl) q, ⟨o, k _ _ (.inl rfl) e⟩, st⟩
theorem HOk.lt (x : HOk P w H h) (e : H a = some o) : a < h.objs.size := (x a o e).lt
theorem HOk.fresh (x : HOk P w H h) (e : h.objs.size ≤ a) : H a = none := by
  cases q : H a with
  | none => rfl
  | some u => exact absurd (Nat.lt_of_lt_of_le (x.lt q) e) (Nat.lt_irrefl _)
theorem HOk.kept (x : HOk P w H h) (k : ∀ b u, h.get? b = some u → h'.get? b = some u) : HOk P w H h' := fun a o e =>
  (x a o e).stay (fun b u _ q => k b u q) (fun _ q => q) fun _ _ q => q
theorem HOk.laid (x : HOk P w H h) (k : ∀ b u, h.get? b = some u → h'.get? b = some u) (hp : h.objs.size ≤ a) (new : ObjOk P w (upd H a o) h' a o) : HOk P w (upd H a o) h' := fun b u e => by
  have hn := x.fresh hp
  by_cases hb : b = a
  · subst hb; rw [upd_same] at e; cases e; exact new
  · rw [upd_ne hb] at e
    exact (x b u e).stay (fun c v _ q => k c v q) (fun c q => by rw [upd_ne (ne_of_none q hn)]; exact q) fun c xs q => by rw [upd_ne (ne_of_none q hn)]; exact q
end
def Rd (H : Hp) (a : Addr) (u : HO) : Prop := H a = some u ∨ ∃ o, H a = some (.frz o u)
theorem Rd.ok {P : Program} {w : World} {H : Hp} {h : Heap} {a : Addr} {u : HO} (r : Rd H a u) (x : HOk P w H h) : ObjOk P w H h a u := by
  rcases r with r | ⟨o, r⟩
  · exact x a u r
  · obtain ⟨_, q⟩ := x a _ r
    exact q
def Mut : Option HO → Prop
  | some (.lst _) => True
  | some (.dK _) => True
  | some (.dT _) => True
  | some (.dG _) => True
  | some (.set _ _) => True
  | some (.ins _ _ _) => True
  | some (.ext _) => True
  | _ => False
section
variable {P : Program} {w : World} {H : Hp} {h h' : Heap} {x e : Addr} {o' : HO}
theorem HOk.write (ok : HOk P w H h) (mu : Mut (H x)) (he : e = x ∨ H e = some (.own x)) (k : ∀ b u, b ≠ e → h.get? b = some u → h'.get? b = some u) (heo : ∃ u, h'.get? e = some u)
    (new : ObjOk P w (upd H x o') h' x o') : HOk P w (upd H x o') h' := fun b u q => by
  have nown : ∀ c y, H c = some (.own y) → c ≠ x := fun c y r z => by subst z; rw [r] at mu; exact mu
  have ntup : ∀ c xs, H c = some (.tup xs) → c ≠ x := fun c xs r z => by subst z; rw [r] at mu; exact mu
  by_cases hb : b = x
  · subst hb; rw [upd_same] at q; cases q; exact new
  · rw [upd_ne hb] at q
    by_cases hbe : b = e
    · have q' : H b = some (.own x) := by
        rcases he with z | z
        · exact absurd (hbe.trans z) hb
        · rw [hbe]; exact z
      rw [q] at q'; cases q'
      obtain ⟨v, hv⟩ := heo
      exact ⟨v, by rw [hbe]; exact hv⟩
    · refine (ok b u q).stay (fun c v hc r => k c v ?_ r) (fun c r => by rw [upd_ne (nown c b r)]; exact r) fun c xs r => by rw [upd_ne (ntup c xs r)]; exact r
      rcases hc with rfl | hc
      · exact hbe
      · rintro rfl
        rcases he with z | z
        · exact nown c b hc z
        · rw [hc] at z; cases z; exact hb rfl
end
structure Un (fs ex : List Addr) (H H' : Hp) (h h' : Heap) : Prop where
  keep : ∀ b o, h.get? b = some o → H b = none → b ∉ fs → b ∉ ex → h'.get? b = some o
  slot : ∀ b o, h.get? b = some o → H b = none → b ∈ fs → b ∉ ex → ∃ sl, h'.get? b = some { o with slots := sl }
  free : ∀ b o, h.get? b = some o → H b = none → b ∉ ex → H' b = none
  there : ∀ b o, h.get? b = some o → b ∉ ex → ∃ o', h'.get? b = some o'
  tups : ∀ b xs, H b = some (.tup xs) → H' b = some (.tup xs)
  frzs : ∀ b o u, H b = some (.frz o u) → H' b = some (.frz o u)
  tbls : ∀ b ps, H b = some (.tbl ps) → ∃ more, H' b = some (.tbl (ps ++ more))
section
variable {fs fs' ex ex' : List Addr} {H H1 H2 : Hp} {h h1 h2 h' : Heap} {a x e : Addr} {o : HO}
theorem Un.any (u : Un fs ex H H1 h h1) {b : Addr} {ob : Obj} (q : h.get? b = some ob) (n : H b = none) (hx : b ∉ ex) : ∃ sl, h1.get? b = some { ob with slots := sl } := by
  by_cases hb : b ∈ fs
  · exact u.slot b ob q n hb hx
  · exact ⟨ob.slots, u.keep b ob q n hb hx⟩
theorem Un.trans (a : Un fs ex H H1 h h1) (b : Un fs ex H1 H2 h1 h2) : Un fs ex H H2 h h2 where
  keep := fun c ob q n hc hx => b.keep c ob (a.keep c ob q n hc hx) (a.free c ob q n hx) hc hx
  slot := fun c ob q n hc hx => by
    obtain ⟨sl, e1⟩ := a.slot c ob q n hc hx
    obtain ⟨sl', e2⟩ := b.slot c _ e1 (a.free c ob q n hx) hc hx
    exact ⟨sl', e2⟩
  free := fun c ob q n hx => by
    obtain ⟨o', e1⟩ := a.there c ob q hx
    exact b.free c o' e1 (a.free c ob q n hx) hx
  there := fun c ob q hx => by
    obtain ⟨o', e1⟩ := a.there c ob q hx
    exact b.there c o' e1 hx
  tups := fun c xs q => b.tups c xs (a.tups c xs q)
  frzs := fun c ob xs q => b.frzs c ob xs (a.frzs c ob xs q)
  tbls := fun c ps q => by
    obtain ⟨m1, e1⟩ := a.tbls c ps q
    obtain ⟨m2, e2⟩ := b.tbls c _ e1
    exact ⟨m1 ++ m2, by rw [e2, Array.append_assoc]⟩
theorem Un.kept (k : ∀ b u, h.get? b = some u → h'.get? b = some u) : Un fs ex H H h h' :=
  ⟨fun b ob q _ _ _ => k b ob q, fun b ob q _ _ _ => ⟨ob.slots, k b ob q⟩, fun _ _ _ n _ => n, fun b ob q _ => ⟨ob, k b ob q⟩, fun _ _ q => q, fun _ _ _ q => q, fun _ ps q => ⟨#[], by rw [q]; simp⟩⟩
theorem Un.refl : Un fs ex H H h h := Un.kept fun _ _ q => q
theorem Un.laid (k : ∀ b u, h.get? b = some u → h'.get? b = some u) (hp : h.objs.size ≤ a) (hn : H a = none) : Un fs ex H (upd H a o) h h' where
  keep := fun b u q _ _ _ => k b u q
  slot := fun b u q _ _ _ => ⟨u.slots, k b u q⟩
  free := fun b u q n _ => by rw [upd_ne (Nat.ne_of_lt (Nat.lt_of_lt_of_le (Heap.lt_size q) hp))]; exact n
  there := fun b u q _ => ⟨u, k b u q⟩
  tups := fun b xs q => by rw [upd_ne (ne_of_none q hn)]; exact q
  frzs := fun b u xs q => by rw [upd_ne (ne_of_none q hn)]; exact q
  tbls := fun b ps q => ⟨#[], by rw [upd_ne (ne_of_none q hn), q]; simp⟩
theorem Un.write (mu : Mut (H x)) (he : e = x ∨ H e = some (.own x)) (k : ∀ b u, b ≠ e → h.get? b = some u → h'.get? b = some u) (heo : ∃ u, h'.get? e = some u) : Un fs ex H (upd H x o) h h' := by
  have hx : ∀ b, H b = none → b ≠ x := fun b n z => by subst z; rw [n] at mu; exact mu
  have hb : ∀ b, H b = none → b ≠ e := fun b n z => by
    subst z
    rcases he with r | r
    · exact hx b n r
    · rw [n] at r; cases r
  have hm : ∀ b u, H b = some u → ¬ Mut (some u) → b ≠ x := fun b u q nm z => by subst z; rw [q] at mu; exact nm mu
  refine ⟨fun b u q n _ _ => k b u (hb b n) q, fun b u q n _ _ => ⟨u.slots, k b u (hb b n) q⟩, fun b u q n _ => by rw [upd_ne (hx b n)]; exact n, fun b u q _ => ?_,
    fun b xs q => by rw [upd_ne (hm b _ q fun z => z)]; exact q, fun b u xs q => by rw [upd_ne (hm b _ q fun z => z)]; exact q, fun b ps q => ⟨#[], by rw [upd_ne (hm b _ q fun z => z), q]; simp⟩⟩
  by_cases hbe : b = e
  · subst hbe; exact heo
  · exact ⟨u, k b u hbe q⟩
end
def trk (h : Heap) (H : Hp) : List Addr := (List.range h.objs.size).filter fun a => (H a).isSome
def hidT (h : Heap) (H : Hp) : Heap := PySem.W.hideAll h (trk h H)
theorem hidT_size (h : Heap) (H : Hp) : (hidT h H).objs.size = h.objs.size := PySem.W.hideAll_size _ _
theorem hidT_get {h : Heap} {H : Hp} {b : Addr} {o : Obj} (e : h.get? b = some o) (n : H b = none) : (hidT h H).get? b = some o :=
  PySem.W.hideAll_get _ e fun hm => by
    have q : (H b).isSome = true := (List.mem_filter.mp hm).2
    rw [n] at q; simp at q
theorem of_hidT {h : Heap} {H : Hp} {b : Addr} {o : Obj} (e : (hidT h H).get? b = some o) : h.get? b = some o ∧ H b = none := by
  have e' : h.get? b = some o := PySem.W.of_hideAll (trk h H) e
  refine ⟨e', ?_⟩
  cases q : H b with
  | none => rfl
  | some x =>
    have hm : b ∈ trk h H := List.mem_filter.mpr ⟨List.mem_range.mpr (Heap.lt_size e'), by simp [q]⟩
    have z : (hidT h H).get? b = none := PySem.W.hideAll_none (trk h H) hm
    rw [z] at e; cases e
end L2
namespace L2
open PySem PySem.Spec PyProof.Rows
structure Mod (K : PySem.W.Frag) (mg : Str → Option Value) (base : Heap) : Prop where
  kin : K.In base
  glob : base.Ns mainGlobals mg
  blt : ∃ mb, base.Ns builtinsNs mb ∧ ∀ x : Str, x ≠ "__name__" → mb x = bootBuiltins x
  nolimit : base.NoLimit
structure Cx where
  prog : Program
  w : World
  K : PySem.W.Frag
  mg : Str → Option Value
  base : Heap
  A : Around
  N : List Str
  s₀ : Shared
  H₀ : Hp
  env : Env
  outer : List Env
  stack : List Env
  ex : List Addr
  fn : Str → Bool
  calm : Bool
  pn : List (Addr × Obj)
  xe : Value → Shared → Prop
def frs (l : List Env) : List Addr := l.filterMap (·.frame)
abbrev Cx.fs (X : Cx) : List Addr := frs X.outer
def Vis (sc : Scope) (x : Str) : Prop := sc.names.lookup x = some .local ∨ sc.names.lookup x = some .cell ∨ sc.names.lookup x = some .free
def Loc (sc : Scope) (x : Str) : Prop := sc.names.lookup x = some .local ∨ sc.names.lookup x = some .cell
def Look (env : Env) (h : Heap) (m : Str → Option Value) (x : Str) (u : Value) : Prop :=
  (env.kindOf x = some .local ∧ m x = some u) ∨ ((env.kindOf x = some .cell ∨ env.kindOf x = some .free) ∧ ∃ c, env.cells.lookup x = some c ∧ h.IsCell c (some u))
structure Cx.Ok (X : Cx) : Prop where
  mod : Mod X.K X.mg X.base
  kind : X.env.scope.kind = .function
  glob : X.env.globals = mainGlobals
  blt : X.env.builtins = builtinsNs
  above : X.s₀.heap.objs.size ≤ X.env.locals
  inj : ∀ x y c, X.env.cells.lookup x = some c → X.env.cells.lookup y = some c → x = y
  has : ∀ x, (X.env.kindOf x = some .cell ∨ X.env.kindOf x = some .free) → ∃ c, X.env.cells.lookup x = some c
  cab : ∀ x c, X.fn x = true → X.env.cells.lookup x = some c → X.s₀.heap.objs.size ≤ c
  hd : X.calm = true → X.A.handled = none
  frames : X.A.frames = some X.stack
  stk : X.stack = X.outer ∨ (X.stack = X.env :: X.outer ∧ X.env.frame = some X.env.locals)
  exf : ∀ b ∈ X.ex, b ≠ X.env.locals ∧ ∀ x c, X.env.cells.lookup x = some c → c ≠ b
  bs : ∀ b o, X.base.get? b = some o → X.s₀.heap.get? b = some o ∧ X.H₀ b = none
  bsz : X.base.objs.size ≤ X.s₀.heap.objs.size
  noex : ∀ b o, X.base.get? b = some o → b ∉ X.ex
  exfs : ∀ b ∈ X.ex, b ∉ X.fs
  funs : X.s₀.heap.FunFrames X.base X.outer
  frf : ∀ b ∈ X.fs, X.H₀ b = none
structure Inv (X : Cx) (pins : List (Addr × Obj)) (σ : List (Option V)) (H : Hp) (s : Shared) : Prop where
  ok : X.Ok
  os : s.os = X.s₀.os
  bare : AllBare s.gens
  base : Un X.fs X.ex X.H₀ H X.s₀.heap s.heap
  loc : ∃ m, s.heap.Ns X.env.locals m ∧ ∀ (i : Nat) (x : Str) (v : V), X.N[i]? = some x → σ[i]? = some (some v) → Vis X.env.scope x → ∃ u, RelV v u ∧ Look X.env s.heap m x u
  cell : ∀ x c, X.env.cells.lookup x = some c → ∃ v, s.heap.IsCell c v
  free : H X.env.locals = none
  freeC : ∀ x c, X.env.cells.lookup x = some c → H c = none
  pin : ∀ p ∈ X.pn ++ pins, s.heap.get? p.1 = some p.2 ∧ H p.1 = none ∧ p.1 ≠ X.env.locals ∧ p.1 ∉ X.fs ∧ ∀ v, p.2.data ≠ .cell v
  hok : HOk X.prog X.w H s.heap
  len : σ.length = X.N.length
section
variable {X : Cx} {pins : List (Addr × Obj)} {σ : List (Option V)} {H H' : Hp} {s : Shared} {h' : Heap}
theorem Cx.Ok.nofr (ok : X.Ok) {b : Addr} {o : Obj} (e : X.base.get? b = some o) : b ∉ X.fs := fun hb => by
  have := (ok.funs.mem hb).1
  rw [e] at this; cases this
theorem Inv.bs (I : Inv X pins σ H s) : ∀ b o, X.base.get? b = some o → s.heap.get? b = some o ∧ H b = none := fun b o e =>
  ⟨I.base.keep b o (I.ok.bs b o e).1 (I.ok.bs b o e).2 (I.ok.nofr e) (I.ok.noex b o e), I.base.free b o (I.ok.bs b o e).1 (I.ok.bs b o e).2 (I.ok.noex b o e)⟩
theorem Inv.bk (I : Inv X pins σ H s) : ∀ b o, X.base.get? b = some o → s.heap.get? b = some o := fun b o e => (I.bs b o e).1
theorem Inv.mod (I : Inv X pins σ H s) : Mod X.K X.mg X.base := I.ok.mod
theorem Inv.kIn (I : Inv X pins σ H s) : X.K.In s.heap := I.ok.mod.kin.keeps I.bk
theorem Inv.lt (I : Inv X pins σ H s) : X.env.locals < s.heap.objs.size := let ⟨_, hn, _⟩ := I.loc; hn.lt
theorem Inv.sz (I : Inv X pins σ H s) : X.s₀.heap.objs.size ≤ s.heap.objs.size := Nat.le_trans I.ok.above (Nat.le_of_lt I.lt)
theorem Inv.nofs (I : Inv X pins σ H s) {a : Addr} (h : s.heap.objs.size ≤ a) : a ∉ X.fs := fun hb => by
  obtain ⟨_, o, ho, _⟩ := I.ok.funs.mem hb
  exact absurd (Nat.lt_of_lt_of_le (Heap.lt_size ho) (Nat.le_trans I.sz h)) (Nat.lt_irrefl _)
theorem Inv.cne (I : Inv X pins σ H s) : ∀ x c, X.env.cells.lookup x = some c → c ≠ X.env.locals := fun x c e z => by
  obtain ⟨v, o, ho, hd⟩ := I.cell x c e
  obtain ⟨m, ⟨o', es, ep, ho', hd', _⟩, _⟩ := I.loc
  rw [z, ho'] at ho; cases ho; rw [hd'] at hd; cases hd
theorem Inv.funs (I : Inv X pins σ H s) : s.heap.FunFrames X.base X.outer := by
  have all : ∀ (l : List Env), (∀ b ∈ frs l, b ∈ X.fs) → X.s₀.heap.FunFrames X.base l → s.heap.FunFrames X.base l := by
    intro l
    induction l with
    | nil => intro _ _; trivial
    | cons env r ih =>
      intro hs hl
      obtain ⟨hk, ⟨L, o, hf, hn, ho, hd⟩, hr⟩ := hl
      have hL : L ∈ X.fs := hs L (by unfold frs; rw [List.filterMap_cons, hf]; exact List.mem_cons_self)
      obtain ⟨sl, e⟩ := I.base.slot L o ho (I.ok.frf L hL) hL fun z => I.ok.exfs L z hL
      exact ⟨hk, ⟨L, _, hf, hn, e, hd⟩, ih (fun b hb => hs b (by unfold frs; rw [List.filterMap_cons, hf]; exact List.mem_cons_of_mem _ hb)) hr⟩
  exact all X.outer (fun _ hb => hb) I.ok.funs
theorem Inv.stack (I : Inv X pins σ H s) : s.heap.FunFrames X.base X.stack := by
  rcases I.ok.stk with e | ⟨e, hf⟩
  · rw [e]; exact I.funs
  · rw [e]
    obtain ⟨m, hn, _⟩ := I.loc
    refine .cons (by rw [I.ok.kind]; decide) hf hn ?_ I.funs
    exact Heap.get?_none_of_le (Nat.le_trans I.ok.bsz I.ok.above)
theorem Inv.stkSub (I : Inv X pins σ H s) : ∀ b ∈ frs X.stack, b ∈ X.env.locals :: X.fs := fun b hb => by
  rcases I.ok.stk with e | ⟨e, hf⟩
  · rw [e] at hb; exact List.mem_cons_of_mem _ hb
  · rw [e] at hb
    unfold frs at hb
    rw [List.filterMap_cons, hf] at hb
    exact hb
theorem Inv.stkFree (I : Inv X pins σ H s) : ∀ b ∈ frs X.stack, H b = none := fun b hb => by
  rcases List.mem_cons.mp (I.stkSub b hb) with e | hb
  · rw [e]; exact I.free
  · obtain ⟨_, o, ho, _⟩ := I.ok.funs.mem hb
    exact I.base.free b o ho (I.ok.frf b hb) fun z => I.ok.exfs b z hb
theorem Inv.step {g' : Array GenState} {t' : Nat} {d' : Drawn} {ch : List Addr} (I : Inv X pins σ H s)
    (hch : ∀ b ∈ ch, (b ∈ X.ex ∨ X.s₀.heap.objs.size ≤ b) ∧ b ≠ X.env.locals ∧ (∀ x c, X.env.cells.lookup x = some c → c ≠ b) ∧ ∀ p ∈ X.pn ++ pins, p.1 ≠ b)
    (keep : ∀ b o, b ≠ X.env.locals → b ∉ X.fs → b ∉ ch → s.heap.get? b = some o → H b = none → h'.get? b = some o)
    (slot : ∀ b o, b ≠ X.env.locals → b ∈ X.fs → b ∉ ch → s.heap.get? b = some o → H b = none → ∃ sl, h'.get? b = some { o with slots := sl }) (free : ∀ b o, b ∉ ch → s.heap.get? b = some o → H b = none → H' b = none)
    (there : ∀ b o, b ∉ ch → s.heap.get? b = some o → ∃ o', h'.get? b = some o')
    (tups : ∀ b xs, H b = some (.tup xs) → H' b = some (.tup xs)) (frzs : ∀ b o u, H b = some (.frz o u) → H' b = some (.frz o u)) (tbls : ∀ b ps, H b = some (.tbl ps) → ∃ more, H' b = some (.tbl (ps ++ more)))
    (ns : ∀ m, s.heap.Ns X.env.locals m → h'.Ns X.env.locals m) (hok : HOk X.prog X.w H' h') (hg : AllBare g') :
    Inv X pins σ H' { s with heap := h', gens := g', drawn := d', toks := t' } := by
  have neL : ∀ b o, X.s₀.heap.get? b = some o → b ≠ X.env.locals := fun b o e => Nat.ne_of_lt (Nat.lt_of_lt_of_le (Heap.lt_size e) I.ok.above)
  have neC : ∀ b o, X.s₀.heap.get? b = some o → b ∉ X.ex → b ∉ ch := fun b o e hx hb => by
    rcases (hch b hb).1 with z | z
    · exact hx z
    · exact absurd (Nat.lt_of_lt_of_le (Heap.lt_size e) z) (Nat.lt_irrefl _)
  have cellK : ∀ x c, X.env.cells.lookup x = some c → ∀ v, s.heap.IsCell c v → h'.IsCell c v := fun x c e v ⟨o, ho, hd⟩ => by
    have nch : c ∉ ch := fun z => (hch c z).2.2.1 x c e rfl
    by_cases hc : c ∈ X.fs
    · obtain ⟨sl, q⟩ := slot c o (I.cne x c e) hc nch ho (I.freeC x c e)
      exact ⟨_, q, hd⟩
    · exact ⟨o, keep c o (I.cne x c e) hc nch ho (I.freeC x c e), hd⟩
  refine ⟨I.ok, I.os, hg, ⟨fun b o e n hb hx => ?_, fun b o e n hb hx => ?_, fun b o e n hx => ?_, fun b o e hx => ?_, fun b xs e => tups b xs (I.base.tups b xs e), fun b o xs e => frzs b o xs (I.base.frzs b o xs e), fun b ps e => ?_⟩, ?_, fun x c e => ?_, ?_, fun x c e => ?_, fun p hp => ?_, hok, I.len⟩
  · exact keep b o (neL b o e) hb (neC b o e hx) (I.base.keep b o e n hb hx) (I.base.free b o e n hx)
  · obtain ⟨sl, e1⟩ := I.base.slot b o e n hb hx
    obtain ⟨sl', e2⟩ := slot b _ (neL b o e) hb (neC b o e hx) e1 (I.base.free b o e n hx)
    exact ⟨sl', e2⟩
  · obtain ⟨o', e1⟩ := I.base.there b o e hx
    exact free b o' (neC b o e hx) e1 (I.base.free b o e n hx)
  · obtain ⟨o', e1⟩ := I.base.there b o e hx
    exact there b o' (neC b o e hx) e1
  · obtain ⟨m1, e1⟩ := I.base.tbls b ps e
    obtain ⟨m2, e2⟩ := tbls b _ e1
    exact ⟨m1 ++ m2, by rw [e2, Array.append_assoc]⟩
  · obtain ⟨m, hn, hl⟩ := I.loc
    refine ⟨m, ns m hn, fun i x v e1 e2 e3 => ?_⟩
    obtain ⟨u, r, l⟩ := hl i x v e1 e2 e3
    refine ⟨u, r, ?_⟩
    rcases l with l | ⟨k, c, e, z⟩
    · exact .inl l
    · exact .inr ⟨k, c, e, cellK x c e _ z⟩
  · obtain ⟨v, z⟩ := I.cell x c e
    exact ⟨v, cellK x c e v z⟩
  · obtain ⟨m, ⟨o, _, _, ho, _⟩, _⟩ := I.loc
    exact free _ o (fun z => (hch _ z).2.1 rfl) ho I.free
  · obtain ⟨v, o, ho, hd⟩ := I.cell x c e
    exact free c o (fun z => (hch c z).2.2.1 x c e rfl) ho (I.freeC x c e)
  · obtain ⟨e, n, ne, nf, d⟩ := I.pin p hp
    have nch : p.1 ∉ ch := fun z => (hch p.1 z).2.2.2 p hp rfl
    exact ⟨keep p.1 p.2 ne nf nch e n, free p.1 p.2 nch e n, ne, nf, d⟩
theorem Inv.un {t' : Nat} (I : Inv X pins σ H s) (u : Un X.fs [] H H' s.heap h') (hok : HOk X.prog X.w H' h') : Inv X pins σ H' { s with heap := h', toks := t' } := by
  obtain ⟨m, ⟨o, es, ep, ho, r⟩, _⟩ := id I.loc
  obtain ⟨sl, hL⟩ := u.any ho I.free (by simp)
  exact I.step (g' := s.gens) (d' := s.drawn) (ch := []) (fun _ z => nomatch z) (fun b o _ hb _ e n => u.keep b o e n hb (by simp)) (fun b o _ hb _ e n => u.slot b o e n hb (by simp)) (fun b o _ e n => u.free b o e n (by simp)) (fun b o _ e => u.there b o e (by simp)) u.tups u.frzs u.tbls (fun m' hm => by
    obtain ⟨o', es', ep', ho', r'⟩ := hm
    rw [ho] at ho'; cases ho'
    exact ⟨_, es', ep', hL, r'⟩) hok I.bare
theorem Inv.call {g' : Array GenState} {t' : Nat} {d' : Drawn} {ch : List Addr} (I : Inv X pins σ H s) (u : Un (frs X.stack) ch H H' s.heap h') (hok : HOk X.prog X.w H' h') (hg : AllBare g')
    (hch : ∀ b ∈ ch, (b ∈ X.ex ∨ X.s₀.heap.objs.size ≤ b) ∧ b ≠ X.env.locals ∧ (∀ x c, X.env.cells.lookup x = some c → c ≠ b) ∧ ∀ p ∈ X.pn ++ pins, p.1 ≠ b) :
    Inv X pins σ H' { s with heap := h', gens := g', drawn := d', toks := t' } := by
  obtain ⟨m, ⟨o, es, ep, ho, r⟩, _⟩ := id I.loc
  obtain ⟨sl, hL⟩ := u.any ho I.free fun z => (hch _ z).2.1 rfl
  exact I.step (ch := ch) hch (fun b o hL hb hc e n => u.keep b o e n (fun z => (List.mem_cons.mp (I.stkSub b z)).elim hL hb) hc) (fun b o _ _ hc e n => u.any e n hc) (fun b o hc e n => u.free b o e n hc) (fun b o hc e => u.there b o e hc) u.tups u.frzs u.tbls (fun m' hm => by
    obtain ⟨o', es', ep', ho', r'⟩ := hm
    rw [ho] at ho'; cases ho'
    exact ⟨_, es', ep', hL, r'⟩) hok hg
theorem Inv.turned {t' : Nat} {it : Addr} (I : Inv X pins σ H s) (k : ∀ b o, b ≠ it → s.heap.get? b = some o → h'.get? b = some o) (hn : H it = none) (hL : it ≠ X.env.locals)
    (h1 : it ∈ X.ex ∨ X.s₀.heap.objs.size ≤ it) (h2 : ∀ x c, X.env.cells.lookup x = some c → c ≠ it) (h3 : ∀ p ∈ X.pn ++ pins, p.1 ≠ it) : Inv X pins σ H { s with heap := h', toks := t' } := by
  have nit : ∀ b u, H b = some u → b ≠ it := fun b u e z => by rw [z, hn] at e; cases e
  refine I.step (g' := s.gens) (d' := s.drawn) (ch := [it]) (fun b hb => ?_) (fun b o _ _ hc e _ => k b o (fun z => hc (by simp [z])) e) (fun b o _ _ hc e _ => ⟨o.slots, k b o (fun z => hc (by simp [z])) e⟩) (fun _ _ _ _ n => n)
    (fun b o hc e => ⟨o, k b o (fun z => hc (by simp [z])) e⟩) (fun _ _ e => e) (fun _ _ _ e => e) (fun b ps e => ⟨#[], by rw [e]; simp⟩) (fun m hm => ?_) (fun b u e => ?_) I.bare
  · have e : b = it := by simpa using hb
    subst e
    exact ⟨h1, hL, h2, h3⟩
  · obtain ⟨o, es, ep, ho, r⟩ := hm
    exact ⟨o, es, ep, k _ o (Ne.symm hL) ho, r⟩
  · refine (I.hok b u e).stay (fun c v hc q => k c v ?_ q) (fun _ q => q) fun _ _ q => q
    rcases hc with z | z
    · rw [z]; exact nit b u e
    · exact nit c _ z
theorem Inv.tok (I : Inv X pins σ H s) (t : Nat) : Inv X pins σ H { s with toks := t } := I.un (h' := s.heap) (t' := t) Un.refl I.hok
theorem Inv.kept {t' : Nat} (I : Inv X pins σ H s) (k : ∀ b u, s.heap.get? b = some u → h'.get? b = some u) : Inv X pins σ H { s with heap := h', toks := t' } := I.un (Un.kept k) (I.hok.kept k)
theorem Inv.laid {a : Addr} {o : HO} {t' : Nat} (I : Inv X pins σ H s) (k : ∀ b u, s.heap.get? b = some u → h'.get? b = some u) (hp : s.heap.objs.size ≤ a) (new : ObjOk X.prog X.w (upd H a o) h' a o) :
    Inv X pins σ (upd H a o) { s with heap := h', toks := t' } := I.un (Un.laid k hp (I.hok.fresh hp)) (I.hok.laid k hp new)
theorem Inv.write {x e : Addr} {o : HO} {t' : Nat} (I : Inv X pins σ H s) (mu : Mut (H x)) (he : e = x ∨ H e = some (.own x)) (k : ∀ b u, b ≠ e → s.heap.get? b = some u → h'.get? b = some u) (heo : ∃ u, h'.get? e = some u)
    (new : ObjOk X.prog X.w (upd H x o) h' x o) : Inv X pins σ (upd H x o) { s with heap := h', toks := t' } := I.un (Un.write mu he k heo) (I.hok.write mu he k heo new)
theorem Inv.weak {σ' : List (Option V)} (I : Inv X pins σ H s) (hl : σ'.length = σ.length) (w : ∀ (i : Nat) v, σ'[i]? = some (some v) → σ[i]? = some (some v)) : Inv X pins σ' H s :=
  ⟨I.ok, I.os, I.bare, I.base, let ⟨m, hn, hl'⟩ := I.loc; ⟨m, hn, fun i x v e1 e2 e3 => hl' i x v e1 (w i v e2) e3⟩, I.cell, I.free, I.freeC, I.pin, I.hok, hl.trans I.len⟩
theorem Inv.pins_of {pins' : List (Addr × Obj)} (I : Inv X pins σ H s) (h : ∀ p ∈ pins', s.heap.get? p.1 = some p.2 ∧ H p.1 = none ∧ p.1 ≠ X.env.locals ∧ p.1 ∉ X.fs ∧ ∀ v, p.2.data ≠ .cell v) : Inv X pins' σ H s :=
  ⟨I.ok, I.os, I.bare, I.base, I.loc, I.cell, I.free, I.freeC, fun p hp => (List.mem_append.mp hp).elim (fun z => I.pin p (List.mem_append_left _ z)) (h p), I.hok, I.len⟩
theorem nodup_ix {N : List Str} (hN : N.Nodup) {i j : Nat} {x : Str} (a : N[i]? = some x) (b : N[j]? = some x) : i = j := by
  obtain ⟨h1, e1⟩ := List.getElem?_eq_some_iff.mp a
  obtain ⟨h2, e2⟩ := List.getElem?_eq_some_iff.mp b
  exact (List.getElem_inj hN).mp (e1.trans e2.symm)
theorem store_ok2 {M : Model} {A : Around} {E : Value → Shared → Prop} {i : Nat} {x : Str} {v : V} {u : Value} {Q : Unit → Shared → Prop} (I : Inv X pins σ H s) (hN : X.N.Nodup) (hi : X.N[i]? = some x) (hx : Loc X.env.scope x) (r : RelV v u)
    (h : ∀ s', Inv X pins (σ.set i (some v)) H s' → (∃ a, Heap.SameBut a s.heap s'.heap ∧ (a = X.env.locals ∨ X.env.cells.lookup x = some a)) → Q () s') (hf : X.fn x = true ∨ X.env.scope.names.lookup x = some .local := by first | exact .inl rfl | exact .inr rfl | assumption) : wpAny M A (storeName X.env x u) Q E s := by
  obtain ⟨m, hn, hl⟩ := id I.loc
  have hcls : (X.env.scope.kind == .class || (X.env.scope.kind == .module && X.env.locals != X.env.globals)) = false := by rw [I.ok.kind]; rfl
  have hiσ : i < σ.length := by rw [I.len]; exact (List.getElem?_eq_some_iff.mp hi).1
  have cne := I.cne
  have tracked : ∀ {a : Addr} {h' : Heap}, (∃ o, s.heap.get? a = some o ∧ H a = none) → Heap.SameBut a s.heap h' → HOk X.prog X.w H h' := fun {a h'} ha hs b ob e => by
    obtain ⟨_, _, hfree⟩ := ha
    refine (I.hok b ob e).stay (fun c w' hc q => (hs.2 c ?_).trans q) (fun _ q => q) fun _ _ q => q
    rintro rfl
    rcases hc with rfl | hc
    · rw [hfree] at e; cases e
    · rw [hfree] at hc; cases hc
  rcases hx with hk | hk
  · refine wpAny_storeName_local hk hn (fun h' hn' hs => ?_) hcls
    obtain ⟨oL, _, _, hoL, _⟩ := id hn
    refine h _ ⟨I.ok, I.os, I.bare, ⟨fun b o e n hb hx => ?_, fun b o e n hb hx => ?_, I.base.free, fun b o e hx => ?_, I.base.tups, I.base.frzs, I.base.tbls⟩, ⟨_, hn', fun j y v' e1 e2 e3 => ?_⟩, fun y c e => ?_, I.free, I.freeC, fun p hp => ?_, tracked ⟨oL, hoL, I.free⟩ hs, by simpa using I.len⟩ ⟨_, hs, .inl rfl⟩
    · exact (hs.2 b (Nat.ne_of_lt (Nat.lt_of_lt_of_le (Heap.lt_size e) I.ok.above))).trans (I.base.keep b o e n hb hx)
    · obtain ⟨sl, e1⟩ := I.base.slot b o e n hb hx
      exact ⟨sl, (hs.2 b (Nat.ne_of_lt (Nat.lt_of_lt_of_le (Heap.lt_size e) I.ok.above))).trans e1⟩
    · obtain ⟨o', e1⟩ := I.base.there b o e hx
      exact ⟨o', (hs.2 b (Nat.ne_of_lt (Nat.lt_of_lt_of_le (Heap.lt_size e) I.ok.above))).trans e1⟩
    · by_cases hj : j = i
      · subst hj
        rw [hi] at e1; cases e1
        rw [List.getElem?_set_self hiσ] at e2
        cases e2
        exact ⟨u, r, .inl ⟨hk, by simp⟩⟩
      · rw [List.getElem?_set_ne (Ne.symm hj)] at e2
        obtain ⟨u', r', q⟩ := hl j y v' e1 e2 e3
        refine ⟨u', r', ?_⟩
        rcases q with ⟨k, e⟩ | ⟨k, c, e, z⟩
        · refine .inl ⟨k, ?_⟩
          have : y ≠ x := fun e => hj (nodup_ix hN e1 (e ▸ hi))
          simp [this, e]
        · exact .inr ⟨k, c, e, z.sameBut hs (cne y c e)⟩
    · obtain ⟨w', z⟩ := I.cell y c e
      exact ⟨w', z.sameBut hs (cne y c e)⟩
    · obtain ⟨e, n, ne, nf, d⟩ := I.pin p hp
      exact ⟨(hs.2 p.1 ne).trans e, n, ne, nf, d⟩
  · have hfn : X.fn x = true := by
      rcases hf with z | z
      · exact z
      · rw [z] at hk; cases hk
    obtain ⟨c, hc⟩ := I.ok.has x (.inl hk)
    obtain ⟨w', z⟩ := I.cell x c hc
    refine wpAny_storeName_cell I.ok.kind hk hc z (fun h' hc' hs => ?_)
    obtain ⟨oc, hoc, hocd⟩ := id z
    refine h { s with heap := h' } ⟨I.ok, I.os, I.bare, ⟨fun b o e n hb hx => ?_, fun b o e n hb hx => ?_, I.base.free, fun b o e hx => ?_, I.base.tups, I.base.frzs, I.base.tbls⟩, ⟨m, hn.sameBut hs (Ne.symm (cne x c hc)), fun j y v' e1 e2 e3 => ?_⟩, fun y c' e => ?_, I.free, I.freeC, fun p hp => ?_, tracked ⟨oc, hoc, I.freeC x c hc⟩ hs, by simpa using I.len⟩ ⟨c, hs, .inr hc⟩
    · exact (hs.2 b (Nat.ne_of_lt (Nat.lt_of_lt_of_le (Heap.lt_size e) (I.ok.cab x c hfn hc)))).trans (I.base.keep b o e n hb hx)
    · obtain ⟨sl, e1⟩ := I.base.slot b o e n hb hx
      exact ⟨sl, (hs.2 b (Nat.ne_of_lt (Nat.lt_of_lt_of_le (Heap.lt_size e) (I.ok.cab x c hfn hc)))).trans e1⟩
    · obtain ⟨o', e1⟩ := I.base.there b o e hx
      exact ⟨o', (hs.2 b (Nat.ne_of_lt (Nat.lt_of_lt_of_le (Heap.lt_size e) (I.ok.cab x c hfn hc)))).trans e1⟩
    · by_cases hj : j = i
      · subst hj
        rw [hi] at e1; cases e1
        rw [List.getElem?_set_self hiσ] at e2
        cases e2
        exact ⟨u, r, .inr ⟨.inl hk, c, hc, hc'⟩⟩
      · rw [List.getElem?_set_ne (Ne.symm hj)] at e2
        obtain ⟨u', r', q⟩ := hl j y v' e1 e2 e3
        refine ⟨u', r', ?_⟩
        rcases q with q | ⟨k, c', e, z'⟩
        · exact .inl q
        · refine .inr ⟨k, c', e, z'.sameBut hs ?_⟩
          rintro rfl
          exact hj (nodup_ix hN e1 (I.ok.inj _ _ _ e hc ▸ hi))
    · by_cases hcc : c' = c
      · subst hcc; exact ⟨_, hc'⟩
      · obtain ⟨w2, z2⟩ := I.cell y c' e
        exact ⟨w2, z2.sameBut hs hcc⟩
    · obtain ⟨e, n, ne, nf, d⟩ := I.pin p hp
      refine ⟨(hs.2 p.1 ?_).trans e, n, ne, nf, d⟩
      intro q
      rw [q, hoc] at e
      have q' : oc = p.2 := Option.some.inj e
      exact d w' (by rw [← q']; exact hocd)
theorem store_ok {M : Model} {A : Around} {E : Value → Shared → Prop} {i : Nat} {x : Str} {v : V} {u : Value} {Q : Unit → Shared → Prop} (I : Inv X pins σ H s) (hN : X.N.Nodup) (hi : X.N[i]? = some x) (hx : Loc X.env.scope x) (r : RelV v u)
    (h : ∀ s', Inv X pins (σ.set i (some v)) H s' → Q () s') (hf : X.fn x = true ∨ X.env.scope.names.lookup x = some .local := by first | exact .inl rfl | exact .inr rfl | assumption) : wpAny M A (storeName X.env x u) Q E s :=
  store_ok2 I hN hi hx r (fun s' I' _ => h s' I') hf
theorem Inv.call' {s' : Shared} {ch : List Addr} (I : Inv X pins σ H s) (ho : s'.os = s.os) (u : Un (frs X.stack) ch H H' s.heap s'.heap) (hok : HOk X.prog X.w H' s'.heap) (hg : AllBare s'.gens)
    (hch : ∀ b ∈ ch, (b ∈ X.ex ∨ X.s₀.heap.objs.size ≤ b) ∧ b ≠ X.env.locals ∧ (∀ x c, X.env.cells.lookup x = some c → c ≠ b) ∧ ∀ p ∈ X.pn ++ pins, p.1 ≠ b) : Inv X pins σ H' s' := by
  obtain ⟨h', g', d', t', o'⟩ := s'
  have e : o' = s.os := ho
  subst e
  exact I.call (g' := g') (t' := t') (d' := d') u hok hg hch
end
abbrev XK := Value → Option Addr → Hp → Prop
abbrev St := List (Option V)
abbrev VK := V → Hp → Prop
abbrev TE := St → Hp → VK → Prop
abbrev TT := St → Hp → (Bool → Hp → Prop) → Prop
abbrev TA := St → Hp → (List V → Hp → Prop) → Prop
structure Ends where
  nx : St → Hp → Prop
  rt : VK
  bk : St → Hp → Prop := fun _ _ => False
  ct : St → Hp → Prop := fun _ _ => False
abbrev TS := Ends → St → Hp → Prop
def EP (X : Cx) (pins : List (Addr × Obj)) (σ : St) (Q : VK) (u : Value) (s' : Shared) : Prop := ∃ v H', Inv X pins σ H' s' ∧ RelV v u ∧ Q v H'
def TP (X : Cx) (pins : List (Addr × Obj)) (σ : St) (Q : Bool → Hp → Prop) (b : Bool) (s' : Shared) : Prop := ∃ H', Inv X pins σ H' s' ∧ Q b H'
def AP (X : Cx) (pins : List (Addr × Obj)) (σ : St) (Q : List V → Hp → Prop) (us : List Value) (s' : Shared) : Prop := ∃ vs H', Inv X pins σ H' s' ∧ Vals vs us ∧ Q vs H'
def SP (X : Cx) (pins : List (Addr × Obj)) (D : Ends) (f : Flow) (s' : Shared) : Prop :=
  match f with
  | .next => ∃ σ' H', Inv X pins σ' H' s' ∧ D.nx σ' H'
  | .brk => ∃ σ' H', Inv X pins σ' H' s' ∧ D.bk σ' H'
  | .cont => ∃ σ' H', Inv X pins σ' H' s' ∧ D.ct σ' H'
  | .ret u => ∃ v σ' H', Inv X pins σ' H' s' ∧ RelV v u ∧ D.rt v H'
def PE (X : Cx) (e : Expr) (t : TE) : Prop :=
  ∀ (pins : List (Addr × Obj)) (s : Shared) (σ : St) (H : Hp) (Q : VK), Inv X pins σ H s → t σ H Q → wpAny (model X.prog X.w) X.A (eval e X.env) (EP X pins σ Q) X.xe s
def PT (X : Cx) (e : Expr) (t : TT) : Prop :=
  ∀ (pins : List (Addr × Obj)) (s : Shared) (σ : St) (H : Hp) (Q : Bool → Hp → Prop), Inv X pins σ H s → t σ H Q → wpAny (model X.prog X.w) X.A (isTrue e X.env (eval e X.env)) (TP X pins σ Q) X.xe s
def PW (X : Cx) (e : Expr) (t : TT) : Prop :=
  ∀ (whole : Sem Value) (pins : List (Addr × Obj)) (s : Shared) (σ : St) (H : Hp) (Q : Bool → Hp → Prop), Inv X pins σ H s → t σ H Q → wpAny (model X.prog X.w) X.A (isTrue e X.env whole) (TP X pins σ Q) X.xe s
theorem PW.pt {X : Cx} {e : Expr} {t : TT} (h : PW X e t) : PT X e t := h _
def PA (X : Cx) (es : List Expr) (t : TA) : Prop :=
  ∀ (pos : Pos) (pins : List (Addr × Obj)) (s : Shared) (σ : St) (H : Hp) (Q : List V → Hp → Prop), Inv X pins σ H s → t σ H Q → wpAny (model X.prog X.w) X.A (spliced (backTo pos (starEach es X.env))) (AP X pins σ Q) X.xe s
def PS (X : Cx) (st : Stmt) (t : TS) : Prop :=
  ∀ (pins : List (Addr × Obj)) (s : Shared) (σ : St) (H : Hp) (D : Ends), Inv X pins σ H s → t D σ H → wpAny (model X.prog X.w) X.A (exec st X.env) (SP X pins D) X.xe s
def PSs (X : Cx) (st : List Stmt) (t : TS) : Prop :=
  ∀ (pins : List (Addr × Obj)) (s : Shared) (σ : St) (H : Hp) (D : Ends), Inv X pins σ H s → t D σ H → wpAny (model X.prog X.w) X.A (execs st X.env) (SP X pins D) X.xe s
theorem thn {α : Type} {t : Sem α} {Q Q' : α → Shared → Prop} {M : Model} {A : Around} {E : Value → Shared → Prop} {s : Shared} (h : wpAny M A t Q E s) (hQ : ∀ a s, Q a s → Q' a s) : wpAny M A t Q' E s := wpAny_mono h hQ fun _ _ x => x
end L2
namespace L2
open PySem PySem.Spec PyProof.Rows
section
variable {X : Cx}
def tVar (i : Nat) : TE := fun σ H Q => ∃ v, σ[i]? = some (some v) ∧ Q v H
def tC (v : V) : TE := fun _ H Q => Q v H
theorem pe_var {i : Nat} {x : Str} {pos : Pos} (hN : X.N[i]? = some x) (hv : Vis X.env.scope x) (hd : (x == ("__debug__" : Str)) = false := by decide) (hcd : (x == ("__classdict__" : Str)) = false := by decide) : PE X (.Name x pos) (tVar i) := by
  intro pins s σ H Q I h
  obtain ⟨v, e, h⟩ := h
  obtain ⟨m, hn, hl⟩ := I.loc
  obtain ⟨u, r, l⟩ := hl i x v hN e hv
  have fin : EP X pins σ Q u s := ⟨v, H, I, r, h⟩
  rcases l with ⟨hk, hm⟩ | ⟨hk, c, hc, hcell⟩
  · exact wpAny_Name (wpAny_loadName_local I.ok.kind hk hn hm fin) hd
  · rcases hk with hk | hk
    · exact wpAny_Name (wpAny_loadName_cell I.ok.kind hk hc hcell fin) hd
    · exact wpAny_Name (wpAny_loadName_free I.ok.kind hk hc hcell fin hcd) hd
theorem pe_int {i j pos} : PE X (.Constant (.int i) j pos) (tC (.int i)) := fun _ _ _ H _ I h => wpAny_Constant_int ⟨.int i, H, I.tok _, ⟨_, rfl⟩, h⟩
theorem pe_bl {b j pos} : PE X (.Constant (.bool b) j pos) (tC (.bl b)) := fun _ _ _ H _ I h => Constant_bool ⟨.bl b, H, I, rfl, h⟩
theorem pe_non {j pos} : PE X (.Constant .none j pos) (tC .non) := fun _ _ _ H _ I h => Constant_none ⟨.non, H, I, rfl, h⟩
theorem pe_str {x j pos} : PE X (.Constant (.str x) j pos) (tC (.str x)) := fun _ _ _ H _ I h => Calls.Constant_str ⟨.str x, H, I.tok _, ⟨_, rfl⟩, h⟩
def Gl (X : Cx) (x : Str) : Prop := X.env.kindOf x = some .globalImplicit
theorem ld_glob {E : Value → Shared → Prop} {pins : List (Addr × Obj)} {s : Shared} {σ : St} {H : Hp} {x : Str} {u : Value} {pos : Pos} {Q : Value → Shared → Prop} (I : Inv X pins σ H s) (hg : Gl X x) (hm : X.mg x = some u) (h : Q u s)
    (hd : (x == ("__debug__" : Str)) = false := by decide) : wpAny (model X.prog X.w) X.A (eval (.Name x pos) X.env) Q E s :=
  Calls.Name_function_global I.ok.kind hg (Calls.loadGlobal_global (by rw [I.ok.glob]; exact I.mod.glob.keeps I.bk) hm h) hd
theorem ld_blt {E : Value → Shared → Prop} {pins : List (Addr × Obj)} {s : Shared} {σ : St} {H : Hp} {x : Str} {u : Value} {pos : Pos} {Q : Value → Shared → Prop} (I : Inv X pins σ H s) (hg : Gl X x) (hm : X.mg x = none) (hv : bootBuiltins x = some u) (h : Q u s)
    (hn : x ≠ "__name__" := by decide) (hd : (x == ("__debug__" : Str)) = false := by decide) : wpAny (model X.prog X.w) X.A (eval (.Name x pos) X.env) Q E s := by
  obtain ⟨mb, h1, h2⟩ := I.mod.blt
  exact Calls.Name_function_global I.ok.kind hg (Calls.loadGlobal_builtin (by rw [I.ok.glob]; exact I.mod.glob.keeps I.bk) hm (by rw [I.ok.blt]; exact h1.keeps I.bk) ((h2 x hn).trans hv) h) hd
variable {a b : Expr} {ta tb : TE} {pos : Pos}
def tB (t : TE) : TT := fun σ H Q => t σ H fun x H1 => ∃ c, x = .bl c ∧ Q c H1
theorem pt_val {e : Expr} {t : TE} (h : PE X e t) (he : ∀ whole, isTrue e X.env whole = (do let v ← whole; standAt e.pos; holding [v] (truthy v)) := by intro _; rfl) : PT X e (tB t) := by
  intro pins s σ H Q I hw
  refine isTrue_plain (thn (h pins s σ H _ I hw) fun v s1 ⟨x, H1, I1, r1, q1⟩ => ?_) (he _)
  obtain ⟨d, rfl, q⟩ := q1
  cases r1
  exact wpAny_truthy_bool ⟨H1, I1, q⟩
variable {tA tB' : TT} {rest : List Expr}
def tAnd (t u : TT) : TT := fun σ H Q => t σ H fun c H1 => if c = true then u σ H1 Q else Q false H1
def tOr (t u : TT) : TT := fun σ H Q => t σ H fun c H1 => if c = true then Q true H1 else u σ H1 Q
def tNot (t : TT) : TT := fun σ H Q => t σ H fun c H1 => Q (!c) H1
theorem pw_and1 (ha : PT X a tA) : PW X (.BoolOp .And [a] pos) tA := by
  intro wh pins s σ H Q I h
  refine isTrue_and (thn (ha pins s σ H Q I h) fun c s1 e => ?_)
  cases c with
  | true => exact isTrue_and_nil e
  | false => exact e
theorem pw_or1 (ha : PT X a tA) : PW X (.BoolOp .Or [a] pos) tA := by
  intro wh pins s σ H Q I h
  refine isTrue_or (thn (ha pins s σ H Q I h) fun c s1 e => ?_)
  cases c with
  | false => exact isTrue_or_nil e
  | true => exact e
theorem pw_and (ha : PT X a tA) (hb : PW X (.BoolOp .And (b :: rest) pos) tB') : PW X (.BoolOp .And (a :: b :: rest) pos) (tAnd tA tB') := by
  intro wh pins s σ H Q I h
  refine isTrue_and (thn (ha pins s σ H _ I h) fun c s1 ⟨H1, I1, q1⟩ => ?_)
  cases c with
  | true => exact hb wh pins s1 σ H1 Q I1 q1
  | false => exact ⟨H1, I1, q1⟩
theorem pw_or (ha : PT X a tA) (hb : PW X (.BoolOp .Or (b :: rest) pos) tB') : PW X (.BoolOp .Or (a :: b :: rest) pos) (tOr tA tB') := by
  intro wh pins s σ H Q I h
  refine isTrue_or (thn (ha pins s σ H _ I h) fun c s1 ⟨H1, I1, q1⟩ => ?_)
  cases c with
  | true => exact ⟨H1, I1, q1⟩
  | false => exact hb wh pins s1 σ H1 Q I1 q1
theorem pt_not (ha : PT X a tA) : PT X (.UnaryOp .Not a pos) (tNot tA) := by
  intro pins s σ H Q I h
  exact isTrue_not (ha pins s σ H (fun c H1 => Q (!c) H1) I h)
end
end L2
namespace L2
open PySem PySem.Spec PyProof.Rows
def SqL (K : PySem.W.Frag) (H : Hp) (a : Addr) (xs : List V) : Prop :=
  Rd H a (.lst xs) ∨
    ∃ (o : Obj) (its : Array Value) (n : Nat), K.lookup a = some o ∧ o.cls = .type "list" ∧ o.dict = none ∧ o.data = .seq its n ∧ its.size ≤ sizeLine ∧ Vals xs its.toList
def SqT (K : PySem.W.Frag) (H : Hp) (a : Addr) (xs : List V) : Prop :=
  Rd H a (.tup xs) ∨
    ∃ (o : Obj) (its : Array Value) (n : Nat), K.lookup a = some o ∧ o.cls = .type "tuple" ∧ o.data = .seq its n ∧ its.size ≤ sizeLine ∧ Vals xs its.toList
def absV : Value → Option V
  | .none => some .non
  | .bool b => some (.bl b)
  | .int i _ => some (.int i)
  | .str x _ => some (.str x)
  | .bytes b _ => some (.byt b)
  | .float b _ => some (.flt b)
  | .ref a => some (.ref a)
  | .type n => some (.ty n)
  | _ => none
theorem RelV.abs {x : V} {u : Value} (r : RelV x u) : absV u = some x := by
  cases x with
  | non => cases r; rfl
  | bl _ => cases r; rfl
  | int _ => obtain ⟨t, rfl⟩ := r; rfl
  | str _ => obtain ⟨t, rfl⟩ := r; rfl
  | byt _ => obtain ⟨t, rfl⟩ := r; rfl
  | flt _ => obtain ⟨t, rfl⟩ := r; rfl
  | ref _ => cases r; rfl
  | ty _ => cases r; rfl
theorem RelV.inj {x y : V} {u : Value} (r : RelV x u) (q : RelV y u) : x = y := Option.some.inj (r.abs.symm.trans q.abs)
theorem Vals.inj : ∀ {xs ys : List V} {us : List Value}, Vals xs us → Vals ys us → xs = ys
  | _, _, _, .nil, .nil => rfl
  | _, _, _, .cons r t, .cons r' t' => by rw [r.inj r', Vals.inj t t']
section
variable {X : Cx} {pins : List (Addr × Obj)} {σ : St} {H : Hp} {s : Shared} {a : Addr} {xs ys : List V}
theorem SqL.of {K : PySem.W.Frag} (h : H a = some (.lst xs)) : SqL K H a xs := .inl (.inl h)
theorem SqT.of {K : PySem.W.Frag} (h : H a = some (.tup xs)) : SqT K H a xs := .inl (.inl h)
theorem Inv.list (I : Inv X pins σ H s) (h : SqL X.K H a xs) : ∃ its : List Value, Vals xs its ∧ PlainL s.heap a its.toArray ∧ xs.length ≤ sizeLine := by
  rcases h with h | ⟨o, its, n, hk, hc, hd, hs, hz, r⟩
  · obtain ⟨z, its, n, r, e⟩ := h.ok I.hok
    exact ⟨its, r, ⟨_, n, e, rfl, rfl, rfl⟩, z⟩
  · refine ⟨its.toList, r, ⟨o, n, I.kIn a o hk, hc, hd, by simpa using hs⟩, ?_⟩
    have e := r.length
    simp only [Array.length_toList] at e
    omega
theorem Inv.tuple (I : Inv X pins σ H s) (h : SqT X.K H a xs) : ∃ its : List Value, Vals xs its ∧ IsTup s.heap a its.toArray ∧ xs.length ≤ sizeLine := by
  rcases h with h | ⟨o, its, n, hk, hc, hs, hz, r⟩
  · obtain ⟨z, its, r, p⟩ := h.ok I.hok
    exact ⟨its, r, p, z⟩
  · refine ⟨its.toList, r, ⟨o, I.kIn a o hk, hc, n, by simpa using hs⟩, ?_⟩
    have e := r.length
    simp only [Array.length_toList] at e
    omega
theorem Inv.list_inj (I : Inv X pins σ H s) (h : SqL X.K H a xs) (h' : SqL X.K H a ys) : xs = ys := by
  obtain ⟨its, r, ⟨o, n, e, _, _, d⟩, _⟩ := I.list h
  obtain ⟨its', r', ⟨o', n', e', _, _, d'⟩, _⟩ := I.list h'
  rw [e] at e'; cases e'
  rw [d] at d'
  injection d' with d1 _
  have : its = its' := by simpa using congrArg Array.toList d1
  subst this
  exact r.inj r'
end
abbrev Cx.wish (X : Cx) (E : Value → Shared → Prop) : Cx := { X with xe := E }
abbrev Cx.nox (X : Cx) : Cx := X.wish fun _ _ => False
theorem Cx.Ok.wish {X : Cx} (ok : X.Ok) (E : Value → Shared → Prop) : (X.wish E).Ok :=
  ⟨ok.mod, ok.kind, ok.glob, ok.blt, ok.above, ok.inj, ok.has, ok.cab, ok.hd, ok.frames, ok.stk, ok.exf, ok.bs, ok.bsz, ok.noex, ok.exfs, ok.funs, ok.frf⟩
theorem Cx.Ok.unwish {X : Cx} {E : Value → Shared → Prop} (ok : (X.wish E).Ok) : X.Ok :=
  ⟨ok.mod, ok.kind, ok.glob, ok.blt, ok.above, ok.inj, ok.has, ok.cab, ok.hd, ok.frames, ok.stk, ok.exf, ok.bs, ok.bsz, ok.noex, ok.exfs, ok.funs, ok.frf⟩
section
variable {X : Cx} {pins : List (Addr × Obj)} {σ : St} {H : Hp} {s : Shared} {E : Value → Shared → Prop}
theorem Inv.wish (I : Inv X pins σ H s) (E : Value → Shared → Prop) : Inv (X.wish E) pins σ H s := ⟨I.ok.wish E, I.os, I.bare, I.base, I.loc, I.cell, I.free, I.freeC, I.pin, I.hok, I.len⟩
theorem Inv.unwish (I : Inv (X.wish E) pins σ H s) : Inv X pins σ H s := ⟨I.ok.unwish, I.os, I.bare, I.base, I.loc, I.cell, I.free, I.freeC, I.pin, I.hok, I.len⟩
theorem SP.unwish {D : Ends} {f : Flow} {s' : Shared} (h : SP (X.wish E) pins D f s') : SP X pins D f s' := by
  cases f with
  | next => obtain ⟨σ', H', I, q⟩ := h; exact ⟨σ', H', I.unwish, q⟩
  | brk => obtain ⟨σ', H', I, q⟩ := h; exact ⟨σ', H', I.unwish, q⟩
  | cont => obtain ⟨σ', H', I, q⟩ := h; exact ⟨σ', H', I.unwish, q⟩
  | ret u => obtain ⟨v, σ', H', I, r, q⟩ := h; exact ⟨v, σ', H', I.unwish, r, q⟩
theorem PSs.nox {st : List Stmt} {t : TS} (h : PSs X.nox st t) : PSs X st t := fun pins s σ H D I hw =>
  wpAny_mono (h pins s σ H D (I.wish _) hw) (fun _ _ q => q.unwish) fun _ _ z => False.elim z
end
section
variable {X : Cx} {st : Stmt} {rest : List Stmt} {t u : TS} {e : Expr} {te : TE} {pos : Pos}
def tNext : TS := fun D σ H => D.nx σ H
def tSeq (t u : TS) : TS := fun D σ H => t { D with nx := u D } σ H
theorem pss_nil : PSs X [] tNext := fun _ _ σ H _ I h => wpAny_execs_nil ⟨σ, H, I, h⟩
theorem pss_cons (h1 : PS X st t) (h2 : PSs X rest u) : PSs X (st :: rest) (tSeq t u) := by
  intro pins s σ H D I h
  refine wpAny_execs_cons (thn (h1 pins s σ H { D with nx := u D } I h) fun f s1 q => ?_)
  cases f with
  | next =>
    obtain ⟨σ', H', I', q⟩ := q
    exact h2 pins s1 σ' H' D I' q
  | ret v => exact q
  | brk => exact q
  | cont => exact q
theorem pss_one (h1 : PS X st t) : PSs X [st] t := by
  intro pins s σ H D I h
  refine wpAny_execs_cons (thn (h1 pins s σ H D I h) fun f s1 q => ?_)
  cases f with
  | next => exact wpAny_execs_nil q
  | ret v => exact q
  | brk => exact q
  | cont => exact q
theorem Inv.quiet {pins : List (Addr × Obj)} {σ : St} {H : Hp} {s : Shared} (I : Inv X pins σ H s) : interactive X.env = false := by simp [interactive, I.ok.kind]
def tDrop (te : TE) : TS := fun D σ H => te σ H fun _ H1 => D.nx σ H1
theorem ps_expr (he : PE X e te) (hs : swapsWith e none pos.line X.env = pure false := by rfl) : PS X (.Expr e pos) (tDrop te) := by
  intro pins s σ H D I h
  exact wpAny_Expr_any (thn (he pins s σ H _ I h) fun v s1 ⟨x, H1, I1, r1, q1⟩ => ⟨σ, H1, I1, q1⟩) I.quiet hs
def tRet (te : TE) : TS := fun D σ H => te σ H D.rt
theorem ps_ret (he : PE X e te) : PS X (.Return (some e) pos) (tRet te) := by
  intro pins s σ H D I h
  exact wpAny_Return_some (thn (he pins s σ H _ I h) fun v s1 ⟨x, H1, I1, r1, q1⟩ => ⟨x, σ, H1, I1, r1, q1⟩)
def tIfS (c : TT) (t u : TS) : TS := fun D σ H => c σ H fun b H1 => if b = true then t D σ H1 else u D σ H1
theorem ps_if {c : Expr} {a b : List Stmt} {tc : TT} (hc : PT X c tc) (ha : PSs X a t) (hb : PSs X b u) : PS X (.If c a b pos) (tIfS tc t u) := by
  intro pins s σ H D I h
  refine wpAny_If (thn (hc pins s σ H _ I h) fun d s1 ⟨H1, I1, q1⟩ => ?_)
  cases d with
  | true => exact ha pins s1 σ H1 D I1 q1
  | false => exact hb pins s1 σ H1 D I1 q1
end
abbrev TG := V → St → Hp → (St → Hp → Prop) → Prop
abbrev TGs := List V → St → Hp → (St → Hp → Prop) → Prop
def PG (X : Cx) (target : Expr) (t : TG) : Prop :=
  ∀ (pins : List (Addr × Obj)) (s : Shared) (σ : St) (H : Hp) (v : V) (u : Value) (Q : St → Hp → Prop), Inv X pins σ H s → RelV v u → t v σ H Q →
    wpAny (model X.prog X.w) X.A (assign target X.env u) (fun _ s' => ∃ σ' H', Inv X pins σ' H' s' ∧ Q σ' H') X.xe s
def PGs (X : Cx) (ts : List Expr) (t : TGs) : Prop :=
  ∀ (pins : List (Addr × Obj)) (s : Shared) (σ : St) (H : Hp) (vs : List V) (us : List Value) (Q : St → Hp → Prop), Inv X pins σ H s → Vals vs us → t vs σ H Q →
    wpAny (model X.prog X.w) X.A (assignInOrder ((assignEach ts X.env).map (·.2)) us) (fun _ s' => ∃ σ' H', Inv X pins σ' H' s' ∧ Q σ' H') X.xe s
abbrev TSet := V → V → V → Hp → (Hp → Prop) → Prop
def PSet (X : Cx) (t : TSet) : Prop :=
  ∀ (pins : List (Addr × Obj)) (s : Shared) (σ : St) (H : Hp) (o i v : V) (ov iv u : Value) (Q : Hp → Prop), Inv X pins σ H s → RelV o ov → RelV i iv → RelV v u → t o i v H Q →
    wpAny (model X.prog X.w) X.A (setItem ov iv u) (fun _ s' => ∃ H', Inv X pins σ H' s' ∧ Q H') X.xe s
section
variable {X : Cx} {pos : Pos}
def gName (i : Nat) : TG := fun v σ H Q => Q (σ.set i (some v)) H
theorem pg_name {i : Nat} {x : Str} (hN : X.N.Nodup) (hi : X.N[i]? = some x) (hx : Loc X.env.scope x) (hf : X.fn x = true ∨ X.env.scope.names.lookup x = some .local := by first | exact .inl rfl | exact .inr rfl | assumption) : PG X (.Name x pos) (gName i) := by
  intro pins s σ H v u Q I r h
  exact wpAny_assign_Name (store_ok I hN hi hx r (fun s' I' => ⟨_, H, I', h⟩) hf)
def gNil : TGs := fun vs σ H Q => vs = [] ∧ Q σ H
def gCons (t : TG) (u : TGs) : TGs := fun vs σ H Q => ∃ v r, vs = v :: r ∧ t v σ H fun σ' H' => u r σ' H' Q
theorem pgs_nil : PGs X [] gNil := by
  intro pins s σ H vs us Q I r h
  obtain ⟨e, h⟩ := h
  subst e
  cases r
  exact assignInOrder_nil ⟨σ, H, I, h⟩
theorem pgs_cons {e : Expr} {es : List Expr} {t : TG} {u : TGs} (h1 : PG X e t) (h2 : PGs X es u)
    (hs : (assignEach (e :: es) X.env).map (·.2) = assign e X.env :: (assignEach es X.env).map (·.2) := by rfl) : PGs X (e :: es) (gCons t u) := by
  intro pins s σ H vs us Q I r h
  obtain ⟨v, vr, e1, h⟩ := h
  subst e1
  cases r with
  | cons r rr =>
    rw [hs]
    refine assignInOrder_cons (thn (h1 pins s σ H _ _ _ I r h) fun _ s1 ⟨σ1, H1, I1, q1⟩ => ?_)
    exact h2 pins s1 σ1 H1 _ _ Q I1 rr q1
def gTup (K : PySem.W.Frag) (n : Nat) (t : TGs) : TG := fun v σ H Q => ∃ a xs, v = .ref a ∧ SqT K H a xs ∧ xs.length = n ∧ t xs σ H Q
theorem pg_tup {es : List Expr} {k : Nat} {t : TGs} {n : Nat} (hc : X.calm = true) (h : PGs X es t)
    (hn : (assignEach es X.env).length = n := by rfl) (hst : (assignEach es X.env).findIdx? (·.1) = none := by rfl) : PG X (.Tuple es k pos) (gTup X.K n t) := by
  intro pins s σ H v u Q I r hw
  obtain ⟨a, xs, e1, hq, hl, hw⟩ := hw
  subst e1
  cases r
  obtain ⟨its, rv, ht, hz⟩ := I.tuple hq
  refine assign_Tuple_tuple (I.ok.hd hc) ht (by simp [hn, ← hl, rv.length]) hst fun h' hx => ?_
  have I1 : Inv X pins σ H { s with heap := h' } := I.kept (t' := s.toks) fun b o e => hx b o (Nat.ne_of_lt (Heap.lt_size e)) e
  exact h pins _ σ H xs _ Q I1 (by simpa using rv) hw
def gSub (to ti : TE) (t : TSet) : TG := fun v σ H Q => to σ H fun o H1 => ti σ H1 fun i H2 => t o i v H2 fun H3 => Q σ H3
theorem pg_sub {o i : Expr} {to ti : TE} {t : TSet} (ho : PE X o to) (hi : PE X i ti) (hs : PSet X t)
    (ha : ∀ v, assign (.Subscript o i pos) X.env v = (do
      let ov ← holding [v] (eval o X.env)
      let iv ← holding [v, ov] (eval i X.env)
      standAt pos
      holding [v, ov, iv] (setItem ov iv v)
      release [v, ov, iv] []) := by intro _; rfl) : PG X (.Subscript o i pos) (gSub to ti t) := by
  intro pins s σ H v u Q I r h
  rw [ha]
  refine wpAny_bind (wpAny_holding (thn (ho pins s σ H _ I h) fun ov s1 ⟨x, H1, I1, r1, q1⟩ => ?_))
  refine wpAny_bind (wpAny_holding (thn (hi pins s1 σ H1 _ I1 q1) fun iv s2 ⟨y, H2, I2, r2, q2⟩ => ?_))
  refine wpAny_bind (wpAny_standAt (wpAny_bind (wpAny_holding (thn (hs pins s2 σ H2 x y v ov iv u _ I2 r1 r2 r q2) fun _ s3 ⟨H3, I3, q3⟩ => ?_))))
  exact wpAny_release ⟨σ, H3, I3, q3⟩
def tAsg (te : TE) (g : TG) : TS := fun D σ H => te σ H fun x H1 => g x σ H1 D.nx
theorem ps_asg {tg e : Expr} {te : TE} {g : TG} (he : PE X e te) (hg : PG X tg g) (hs : swapsWithSole [tg] e pos.line X.env = pure false := by rfl) (hw : swappedStores [tg] e X.env = pure none := by rfl)
    (h1 : (assignEach [tg] X.env).map (·.2) = [assign tg X.env] := by rfl) : PS X (.Assign [tg] e pos) (tAsg te g) := by
  intro pins s σ H D I h
  refine wpAny_Assign_stores (thn (he pins s σ H _ I h) fun v s1 ⟨x, H1, I1, r1, q1⟩ => ?_) hs hw
  rw [h1]
  exact thn (hg pins s1 σ H1 x v _ I1 r1 q1) fun _ s2 q => q
theorem ps_set {i : Nat} {x : Str} {e : Expr} {te : TE} {pos' : Pos} (hN : X.N.Nodup) (hi : X.N[i]? = some x) (hx : Loc X.env.scope x) (he : PE X e te) (hs : swapsWith e (some (.Name x pos')) pos.line X.env = pure false := by rfl) (hf : X.fn x = true ∨ X.env.scope.names.lookup x = some .local := by first | exact .inl rfl | exact .inr rfl | assumption) :
    PS X (.Assign [.Name x pos'] e pos) (tAsg te (gName i)) := by
  intro pins s σ H D I h
  refine wpAny_Assign_Name (thn (he pins s σ H _ I h) fun v s1 ⟨y, H1, I1, r1, q1⟩ => ?_) hs
  exact store_ok I1 hN hi hx r1 (fun s2 I2 => ⟨_, H1, I2, q1⟩) hf
end
section
variable {X : Cx} {pos : Pos}
def tWhile (c : TT) (tb : TS) : TS := fun D σ H => ∃ W : Nat → St → Hp → Prop, (∃ m, W m σ H) ∧ ∀ m σ H, W m σ H →
  c σ H fun b H1 => if b = true then ∃ N : St → Hp → Prop, (∀ σ' H', N σ' H' → ∃ m', m' < m ∧ W m' σ' H') ∧ tb { D with nx := N, ct := N, bk := D.nx } σ H1 else D.nx σ H1
theorem ps_while {c : Expr} {body : List Stmt} {tc : TT} {tb : TS} (hp : PassesOwn (model X.prog X.w) X.A X.env X.xe) (hc : PT X c tc) (hb : PSs X body tb) : PS X (.While c body [] pos) (tWhile tc tb) := by
  intro pins s σ H D I h
  obtain ⟨W, ⟨m0, w0⟩, turn⟩ := h
  refine wpAny_While (codeAny_whileLoop (fun n s' => ∃ σ' H', Inv X pins σ' H' s' ∧ W n σ' H') ?_ m0 ⟨σ, H, I, w0⟩)
  rintro n s1 ⟨σ1, H1, I1, w1⟩
  refine wpAny_passesOwn hp (thn (hc pins s1 σ1 H1 _ I1 (turn n σ1 H1 w1)) fun b s2 ⟨H2, I2, q2⟩ => ?_)
  cases b with
  | true =>
    obtain ⟨N, hN, q2⟩ := q2
    rw [if_pos rfl]
    refine wpAny_passesOwn hp (thn (hb pins s2 σ1 H2 _ I2 q2) fun f s3 q3 => ?_)
    cases f with
    | next =>
      obtain ⟨σ3, H3, I3, n3⟩ := q3
      obtain ⟨m', hm, w3⟩ := hN σ3 H3 n3
      exact ⟨m', hm, σ3, H3, I3, w3⟩
    | cont =>
      obtain ⟨σ3, H3, I3, n3⟩ := q3
      obtain ⟨m', hm, w3⟩ := hN σ3 H3 n3
      exact ⟨m', hm, σ3, H3, I3, w3⟩
    | brk => exact q3
    | ret v => exact q3
  | false =>
    rw [if_neg Bool.false_ne_true]
    exact wpAny_execs_nil ⟨σ1, H2, I2, q2⟩
end
structure It where
  go : Nat → Hp → Prop
  yld : Nat → Hp → V → Hp → Prop
  stop : Nat → Hp → Prop
def FpOk (X : Cx) (pins : List (Addr × Obj)) (H : Hp) (b : Addr) : Prop :=
  H b = none ∧ b ≠ X.env.locals ∧ b ∉ X.fs ∧ (b ∈ X.ex ∨ X.s₀.heap.objs.size ≤ b) ∧ (∀ x c, X.env.cells.lookup x = some c → c ≠ b) ∧ ∀ p ∈ X.pn ++ pins, p.1 ≠ b
theorem Inv.fpOk {X : Cx} {pins : List (Addr × Obj)} {σ : St} {H H' : Hp} {s : Shared} {b : Addr} (I : Inv X pins σ H s) (hb : s.heap.objs.size ≤ b) (hn : H' b = none) : FpOk X pins H' b := by
  refine ⟨hn, Nat.ne_of_gt (Nat.lt_of_lt_of_le I.lt hb), I.nofs hb, .inr (Nat.le_trans I.sz hb), fun x c e z => ?_, fun p hp z => ?_⟩
  · obtain ⟨v, q⟩ := I.cell x c e
    exact absurd (Nat.lt_of_lt_of_le q.lt (by rw [z]; exact hb)) (Nat.lt_irrefl _)
  · exact absurd (Nat.lt_of_lt_of_le (Heap.lt_size (I.pin p hp).1) (by rw [z]; exact hb)) (Nat.lt_irrefl _)
structure Turn (P : Program) (w : World) (K : PySem.W.Frag) (tg : Expr) (J : It) (fp : List Addr) (it : Addr) (tn : Nat → Heap → Prop) : Prop where
  mem : it ∈ fp
  obj : ∀ i h, tn i h → ∀ b ∈ fp, ∃ o, h.get? b = some o ∧ ∀ v, o.data ≠ .cell v
  keep : ∀ i h h', tn i h → (∀ b ∈ fp, ∀ o, h.get? b = some o → h'.get? b = some o) → tn i h'
  item : ∀ (X : Cx), X.prog = P → X.w = w → X.K = K → X.calm = true → ∀ (i : Nat) (pins : List (Addr × Obj)) (s : Shared) (σ : St) (H : Hp) (E : Value → Shared → Prop), Inv X pins σ H s → (∀ b ∈ fp, FpOk X pins H b) → tn i s.heap → J.go i H →
    wpAny (model P w) X.A (pyNext (.ref it)) (fun r s1 => ∃ u, r = some u ∧
      wpAny (model P w) X.A (letOwnedTupleGo tg (.ref it) u) (fun _ s2 => ∃ x H', Inv X pins σ H' s2 ∧ RelV x u ∧ J.yld i H x H' ∧ tn (i + 1) s2.heap ∧ ∀ b ∈ fp, H' b = none) E s1) E s
  done : ∀ (X : Cx), X.prog = P → X.w = w → X.K = K → X.calm = true → ∀ (i : Nat) (pins : List (Addr × Obj)) (s : Shared) (σ : St) (H : Hp) (E : Value → Shared → Prop), Inv X pins σ H s → (∀ b ∈ fp, FpOk X pins H b) → tn i s.heap → J.stop i H →
    wpAny (model P w) X.A (pyNext (.ref it)) (fun r s1 => r = none ∧ Inv X pins σ H s1) E s
  self : ∀ (A : Around) (i : Nat) (s : Shared) (Q : Value → Shared → Prop) (E : Value → Shared → Prop), tn i s.heap → Q (.ref it) s → wpAny (model P w) A (pyIter (.ref it)) Q E s
abbrev TI := St → Hp → (It → Hp → Prop) → Prop
def PIE (X : Cx) (pins : List (Addr × Obj)) (σ : St) (tg : Expr) (R : It → Hp → Prop) (itv : Value) (s2 : Shared) : Prop :=
  ∃ (it : Addr) (fp : List Addr) (tn : Nat → Heap → Prop) (J : It) (H' : Hp), itv = .ref it ∧ Inv X pins σ H' s2 ∧ Turn X.prog X.w X.K tg J fp it tn ∧ tn 0 s2.heap ∧ (∀ b ∈ fp, FpOk X pins H' b) ∧ R J H'
def PI (X : Cx) (tg iter : Expr) (wi : TI) : Prop :=
  ∀ (pins : List (Addr × Obj)) (s : Shared) (σ : St) (H : Hp) (R : It → Hp → Prop), Inv X pins σ H s → wi σ H R →
    wpAny (model X.prog X.w) X.A (eval iter X.env) (fun v s1 => wpAny (model X.prog X.w) X.A (pyIter v) (PIE X pins σ tg R) X.xe s1) X.xe s
theorem go_of {M : Model} {A : Around} {E : Value → Shared → Prop} {s : Shared} {tg : Expr} {it : Addr} {u : Value} {o : Obj} {n : String} {vs : Array Value} {Q : Unit → Shared → Prop} (ho : s.heap.get? it = some o) (hc : o.cls = .type n) (hd : o.data = .fields vs)
    (hn : ["enumerate", "zip", "dict_itemiterator", "dict_reverseitemiterator", "odict_iterator", "itertools.zip_longest", "itertools.pairwise"].contains n = false) (hQ : Q () s) : wpAny M A (letOwnedTupleGo tg (.ref it) u) Q E s := by
  unfold letOwnedTupleGo
  cases tg <;> first
    | exact wpAny_pure hQ
    | (cases u <;> first
        | exact wpAny_pure hQ
        | (refine wpAny_bind (wpAny_load ho ?_)
           rw [hc, hd]
           show wpAny M A (if (["enumerate", "zip", "dict_itemiterator", "dict_reverseitemiterator", "odict_iterator", "itertools.zip_longest", "itertools.pairwise"].contains n && vs[0]? == some (rawInt _)) = true then _ else _) Q E s
           rw [if_neg (by intro h; rw [hn, Bool.false_and] at h; cases h)]
           exact wpAny_pure hQ))
def Itl (K : PySem.W.Frag) (a : Addr) : It :=
  ⟨fun i H => ∃ xs x, SqL K H a xs ∧ xs[i]? = some x, fun i H x H' => H' = H ∧ ∀ xs, SqL K H a xs → xs[i]? = some x, fun i H => ∃ xs, SqL K H a xs ∧ xs.length ≤ i⟩
def Itr (lo : Int) (n : Nat) : It := ⟨fun i _ => i < n, fun i H x H' => H' = H ∧ x = .int (lo + i), fun i _ => n ≤ i⟩
theorem turn_list {P : Program} {w : World} {K : PySem.W.Frag} {tg : Expr} (a it : Addr) : Turn P w K tg (Itl K a) [it] it (fun i h => h.IsListIter it a i) where
  mem := by simp
  obj := fun i h st b hb => by
    have e : b = it := by simpa using hb
    subst e
    obtain ⟨o, e, c, d⟩ := st
    exact ⟨o, e, fun v z => by rw [d] at z; cases z⟩
  keep := fun i h h' st k => st.at fun o e => k it (by simp) o e
  item := by
    intro X hP hw hK hc i pins s σ H E I hf st hg
    subst hP hw hK
    obtain ⟨xs, x, hq, hx⟩ := hg
    obtain ⟨its, rv, p, hz⟩ := I.list hq
    obtain ⟨u, hu, ru⟩ := rv.get hx
    obtain ⟨f0, f1, f2, f3, f4, f5⟩ := hf it (by simp)
    refine wpAny_pyNext_list_item st p.isList (x := u) (by simpa using hu) fun h' st' sb => ?_
    have I1 : Inv X pins σ H { s with heap := h' } := I.turned (t' := s.toks) (fun b o hb e => (sb.2 b hb).trans e) f0 f1 f3 f4 f5
    obtain ⟨o, e, c, d⟩ := id st'
    exact ⟨u, rfl, go_of (s := { s with heap := h' }) e c d (by decide) ⟨x, H, I1, ru, ⟨rfl, fun ys hy => by rw [I.list_inj hy hq]; exact hx⟩, st', fun b hb => (hf b hb).1⟩⟩
  done := by
    intro X hP hw hK hc i pins s σ H E I hf st hg
    subst hP hw hK
    obtain ⟨xs, hq, hx⟩ := hg
    obtain ⟨its, rv, p, hz⟩ := I.list hq
    obtain ⟨f0, f1, f2, f3, f4, f5⟩ := hf it (by simp)
    have hl := rv.length
    exact wpAny_pyNext_list_end (I.ok.hd hc) st p.isList (by simp; omega) fun h' eb => ⟨rfl, I.turned (t' := s.toks) (fun b o hb e => eb b o hb e) f0 f1 f3 f4 f5⟩
  self := fun _ _ _ _ _ st h => wpAny_pyIter_listiter st h
theorem turn_range {P : Program} {w : World} {K : PySem.W.Frag} {tg : Expr} (it : Addr) (lo : Int) (n : Nat) : Turn P w K tg (Itr lo n) [it] it (fun i h => IsRangeIter h it (lo + (i : Nat) * 1) ((n : Int) - (i : Nat)) 1) where
  mem := by simp
  obj := fun i h st b hb => by
    have e : b = it := by simpa using hb
    subst e
    exact ⟨_, st, fun v z => by
      have z' : Data.fields _ = Data.cell v := z
      cases z'⟩
  keep := fun i h h' st k => k it (by simp) _ st
  item := by
    intro X hP hw hK hc i pins s σ H E I hf st hg
    subst hP hw hK
    obtain ⟨f0, f1, f2, f3, f4, f5⟩ := hf it (by simp)
    have W := Walks.range (prog := X.prog) (w := X.w) (I.ok.hd hc) it lo 1 n
    refine W.item i s _ _ hg st fun v h' tk hv st' kk => ?_
    obtain ⟨t, rfl⟩ := hv
    have I1 : Inv X pins σ H { s with heap := h', toks := tk } := I.turned (fun b o hb e => kk b o (by simpa using hb) e) f0 f1 f3 f4 f5
    refine ⟨_, rfl, go_of (s := { s with heap := h', toks := tk }) (n := "range_iterator") st' rfl rfl (by decide) ⟨.int (lo + i), H, I1, ⟨t, ?_⟩, ⟨rfl, rfl⟩, st', fun b hb => (hf b hb).1⟩⟩
    rw [Int.mul_one]
  done := by
    intro X hP hw hK hc i pins s σ H E I hf st hg
    subst hP hw hK
    obtain ⟨f0, f1, f2, f3, f4, f5⟩ := hf it (by simp)
    exact wpAny_pyNext_range_end (I.ok.hd hc) st (by have : n ≤ i := hg; omega) fun h' eb => ⟨rfl, I.turned (t' := s.toks) (fun b o hb e => eb b o hb e) f0 f1 f3 f4 f5⟩
  self := fun _ _ _ _ _ st h => wpAny_pyIter_rangeiter st h
end L2
namespace L2
open PySem PySem.Spec PyProof.Rows
section
variable {X : Cx} {tg : Expr}
def iList (K : PySem.W.Frag) (tl : TE) : TI := fun σ H R => tl σ H fun x H1 => ∃ a, x = .ref a ∧ (∃ xs, SqL K H1 a xs) ∧ R (Itl K a) H1
theorem pi_list {l : Expr} {tl : TE} (hl : PE X l tl) : PI X tg l (iList X.K tl) := by
  intro pins s σ H R I h
  refine thn (hl pins s σ H _ I h) fun v s1 ⟨x, H1, I1, r1, q1⟩ => ?_
  obtain ⟨a, e, ⟨xs, hq⟩, q⟩ := q1
  subst e
  cases r1
  obtain ⟨its, rv, p, hz⟩ := I1.list hq
  refine wpAny_pyIter_list p.isList ?_
  refine ⟨s1.heap.objs.size, [s1.heap.objs.size], _, _, H1, rfl, I1.kept (t' := s1.toks) fun b o e => Heap.get?_push_of_some _ e, turn_list a _, ⟨_, Heap.get?_push_size _ rfl, rfl, rfl⟩, fun b hb => ?_, q⟩
  have e : b = s1.heap.objs.size := by simpa using hb
  subst e
  exact I1.fpOk (Nat.le_refl _) (I1.hok.fresh (Nat.le_refl _))
theorem range_it {pins : List (Addr × Obj)} {σ : St} {H : Hp} {s : Shared} {R : It → Hp → Prop} {E : Value → Shared → Prop} {lo hi : Int} {t u v : Tok} {tk : Nat} (I : Inv X pins σ H s) (h1 : -(2 ^ 62) ≤ lo) (h2 : lo < 2 ^ 62) (h3 : -(2 ^ 62) ≤ hi) (h4 : hi < 2 ^ 62)
    (q : R (Itr lo (hi - lo).toNat) H) : wpAny (model X.prog X.w) X.A (pyIter (.ref s.heap.objs.size)) (PIE X pins σ tg R) E { s with heap := s.heap.push { cls := .type "range", data := .fields #[.int lo t, .int hi u, .int 1 v] }, toks := tk } := by
  refine wpAny_pyIter_range (IsRange.new ..) (small_one h1 h2 h3 h4) ?_
  have I1 : Inv X pins σ H { s with heap := s.heap.push { cls := .type "range", data := .fields #[.int lo t, .int hi u, .int 1 v] }, toks := tk } := I.kept fun b o e => Heap.get?_push_of_some _ e
  refine ⟨(s.heap.push { cls := .type "range", data := .fields #[.int lo t, .int hi u, .int 1 v] }).objs.size, [(s.heap.push { cls := .type "range", data := .fields #[.int lo t, .int hi u, .int 1 v] }).objs.size], _, _, H, rfl,
    I1.kept (t' := tk) fun b o e => Heap.get?_push_of_some _ e, turn_range _ lo (hi - lo).toNat, ?_, fun b hb => ?_, q⟩
  · have e1 : lo + ((0 : Nat) : Int) * 1 = lo := by simp
    have e2 : (((hi - lo).toNat : Nat) : Int) - ((0 : Nat) : Int) = Builtin.Range.rangeSize lo hi 1 := by rw [rangeSize_one]; split <;> omega
    show IsRangeIter _ _ (lo + ((0 : Nat) : Int) * 1) ((((hi - lo).toNat : Nat) : Int) - ((0 : Nat) : Int)) 1
    rw [e1, e2]
    exact Heap.get?_push_size _ rfl
  · have e : b = (s.heap.push { cls := .type "range", data := .fields #[.int lo t, .int hi u, .int 1 v] }).objs.size := by simpa using hb
    subst e
    exact I1.fpOk (Nat.le_refl _) (I1.hok.fresh (Nat.le_refl _))
def iRng1 (ta : TA) : TI := fun σ H R => ta σ H fun vs H1 => ∃ j : Int, vs = [.int j] ∧ -(2 ^ 62) ≤ j ∧ j < 2 ^ 62 ∧ R (Itr 0 j.toNat) H1
def iRng2 (ta : TA) : TI := fun σ H R => ta σ H fun vs H1 => ∃ i j : Int, vs = [.int i, .int j] ∧ (-(2 ^ 62) ≤ i ∧ i < 2 ^ 62 ∧ -(2 ^ 62) ≤ j ∧ j < 2 ^ 62) ∧ R (Itr i (j - i).toNat) H1
theorem pi_range1 {a : Expr} {ta : TA} {p pos : Pos} (hg : Gl X "range") (hm : X.mg "range" = none) (ha : PA X [a] ta) (hs : starEach [a] X.env = [(false, eval a X.env)] := by rfl) : PI X tg (.Call (.Name "range" p) [a] [] pos) (iRng1 ta) := by
  intro pins s σ H R I h
  refine Call_ (ld_blt I hg hm boot_range (PyProof.Rows.callWith_type1 (thn (ha pos pins s σ H _ I h) fun us s1 ⟨vs, H1, I1, r1, q1⟩ => ?_) hs rfl))
  obtain ⟨j, e, q1, q2, q⟩ := q1
  subst e
  cases r1 with
  | cons r rr =>
    cases rr
    obtain ⟨t, rfl⟩ := r
    exact call_range_1 (range_it I1 (by omega) (by omega) q1 q2 (by simpa using q))
theorem pi_range2 {a b : Expr} {ta : TA} {p pos : Pos} (hg : Gl X "range") (hm : X.mg "range" = none) (ha : PA X [a, b] ta) (hs : starEach [a, b] X.env = [(false, eval a X.env), (false, eval b X.env)] := by rfl) (hs2 : starEach [b] X.env = [(false, eval b X.env)] := by rfl) :
    PI X tg (.Call (.Name "range" p) [a, b] [] pos) (iRng2 ta) := by
  intro pins s σ H R I h
  refine Call_ (ld_blt I hg hm boot_range (PyProof.Rows.callWith_type1 (thn (ha pos pins s σ H _ I h) fun us s1 ⟨vs, H1, I1, r1, q1⟩ => ?_) (by rw [hs, hs2]) (by rw [hs2]; rfl)))
  obtain ⟨i, j, e, ⟨q1, q2, q3, q4⟩, q⟩ := q1
  subst e
  cases r1 with
  | cons r rr =>
    cases rr with
    | cons r' rr =>
      cases rr
      obtain ⟨t, rfl⟩ := r
      obtain ⟨t', rfl⟩ := r'
      exact call_range_2 (range_it I1 q1 q2 q3 q4 q)
def tFor (wi : TI) (g : TG) (tb : TS) : TS := fun D σ H => wi σ H fun J H1 => ∃ W : Nat → Nat → St → Hp → Prop, (∃ m, W 0 m σ H1) ∧ ∀ i m σ H, W i m σ H →
  (J.stop i H ∧ D.nx σ H) ∨ (J.go i H ∧ ∃ N : St → Hp → Prop, (∀ σ' H', N σ' H' → ∃ m', m' < m ∧ W (i + 1) m' σ' H') ∧ ∀ x H', J.yld i H x H' → g x σ H' fun σ2 H2 => tb { D with nx := N, ct := N, bk := D.nx } σ2 H2)
def pinsAt (fp : List Addr) (h : Heap) : List (Addr × Obj) := fp.filterMap fun b => (h.get? b).map fun o => (b, o)
theorem mem_pinsAt {fp : List Addr} {h : Heap} {b : Addr} {o : Obj} (hb : b ∈ fp) (e : h.get? b = some o) : (b, o) ∈ pinsAt fp h := List.mem_filterMap.mpr ⟨b, hb, by rw [e]; rfl⟩
theorem of_pinsAt {fp : List Addr} {h : Heap} {p : Addr × Obj} (hp : p ∈ pinsAt fp h) : p.1 ∈ fp ∧ h.get? p.1 = some p.2 := by
  obtain ⟨b, hb, e⟩ := List.mem_filterMap.mp hp
  cases q : h.get? b with
  | none => rw [q] at e; cases e
  | some o =>
    rw [q] at e
    have e' : (b, o) = p := Option.some.inj e
    subst e'
    exact ⟨hb, q⟩
theorem Inv.pinned {pins : List (Addr × Obj)} {σ : St} {H : Hp} {s : Shared} {fp : List Addr} (I : Inv X pins σ H s) (hf : ∀ b ∈ fp, FpOk X pins H b) (ho : ∀ b ∈ fp, ∃ o, s.heap.get? b = some o ∧ ∀ v, o.data ≠ .cell v) : Inv X (pins ++ pinsAt fp s.heap) σ H s :=
  I.pins_of fun p hp => (List.mem_append.mp hp).elim (fun z => I.pin p (List.mem_append_right _ z)) fun z => by
    obtain ⟨hb, e⟩ := of_pinsAt z
    obtain ⟨f0, f1, f2, _⟩ := hf p.1 hb
    obtain ⟨o, e', d⟩ := ho p.1 hb
    rw [e] at e'; cases e'
    exact ⟨e, f0, f1, f2, d⟩
theorem Inv.unpinned {pins pl : List (Addr × Obj)} {σ : St} {H : Hp} {s : Shared} (I : Inv X (pins ++ pl) σ H s) : Inv X pins σ H s := I.pins_of fun p hp => I.pin p (List.mem_append_right _ (List.mem_append_left _ hp))
theorem ps_for {iter : Expr} {body : List Stmt} {wi : TI} {g : TG} {tb : TS} {pos : Pos} (hp : PassesOwn (model X.prog X.w) X.A X.env X.xe) (hc : X.calm = true) (hi : PI X tg iter wi) (hg : PG X tg g) (hb : PSs X body tb)
    (hs : ∀ x, foldedSetIterable iter X.env x = pure x := by intro _; rfl) : PS X (.For tg iter body [] pos) (tFor wi g tb) := by
  intro pins s σ H D I h
  refine wpAny_For (thn (hi pins s σ H _ I h) fun v s1 h1 => thn h1 fun itv s2 h2 => ?_) hs
  obtain ⟨it, fp, tn, J, H2, e, I2, T, st2, f2, W, ⟨m0, w0⟩, turn⟩ := h2
  subst e
  have stat : ∀ {H' : Hp}, (∀ b ∈ fp, H' b = none) → ∀ b ∈ fp, FpOk X pins H' b := fun hn b hb => ⟨hn b hb, (f2 b hb).2⟩
  refine codeAny_forLoop_any (fun n s' => ∃ i σ' H', Inv X pins σ' H' s' ∧ tn i s'.heap ∧ (∀ b ∈ fp, H' b = none) ∧ W i n σ' H') ?_ m0 ⟨0, σ, H2, I2, st2, fun b hb => (f2 b hb).1, w0⟩
  rintro n s3 ⟨i, σ3, H3, I3, st3, fr3, w3⟩
  rcases turn i n σ3 H3 w3 with ⟨stop, qn⟩ | ⟨go, N, hN, step⟩
  · refine wpAny_passesOwn hp (thn (T.done X rfl rfl rfl hc i pins s3 σ3 H3 X.xe I3 (stat fr3) st3 stop) fun r s4 ⟨hr, I4⟩ => ?_)
    subst hr
    exact wpAny_execs_nil ⟨σ3, H3, I4, qn⟩
  · refine wpAny_passesOwn hp (thn (T.item X rfl rfl rfl hc i pins s3 σ3 H3 X.xe I3 (stat fr3) st3 go) fun r s4 ⟨u, hr, h4⟩ => ?_)
    subst hr
    refine wpAny_passesOwn hp (thn h4 fun _ s5 ⟨x, H5, I5, r5, y5, st5, fr5⟩ => ?_)
    have I5' := I5.pinned (stat fr5) (T.obj _ _ st5)
    refine wpAny_passesOwn hp (thn (hg _ s5 σ3 H5 x u _ I5' r5 (step x H5 y5)) fun _ s6 ⟨σ6, H6, I6, q6⟩ => ?_)
    refine wpAny_passesOwn hp (thn (hb _ s6 σ6 H6 _ I6 q6) fun f s7 q7 => ?_)
    have again : ∀ {σ7 : St} {H7 : Hp}, Inv X (pins ++ pinsAt fp s5.heap) σ7 H7 s7 → N σ7 H7 → ∃ m, m < n ∧ ∃ i σ' H', Inv X pins σ' H' s7 ∧ tn i s7.heap ∧ (∀ b ∈ fp, H' b = none) ∧ W i m σ' H' := fun {σ7 H7} I7 n7 => by
      obtain ⟨m', hm, w7⟩ := hN σ7 H7 n7
      refine ⟨m', hm, i + 1, σ7, H7, I7.unpinned, T.keep _ _ _ st5 fun b hb o e => (I7.pin (b, o) (List.mem_append_right _ (List.mem_append_right _ (mem_pinsAt hb e)))).1, fun b hb => ?_, w7⟩
      obtain ⟨o, e, d⟩ := T.obj _ _ st5 b hb
      exact (I7.pin (b, o) (List.mem_append_right _ (List.mem_append_right _ (mem_pinsAt hb e)))).2.1
    cases f with
    | next => obtain ⟨σ7, H7, I7, n7⟩ := q7; exact again I7 n7
    | cont => obtain ⟨σ7, H7, I7, n7⟩ := q7; exact again I7 n7
    | brk => obtain ⟨σ7, H7, I7, q7⟩ := q7; exact ⟨σ7, H7, I7.unpinned, q7⟩
    | ret v => obtain ⟨x7, σ7, H7, I7, r7, q7⟩ := q7; exact ⟨x7, σ7, H7, I7.unpinned, r7, q7⟩
end
theorem for_list {K : PySem.W.Frag} {a : Addr} {xs : List V} {g : TG} {tb : TS} {D : Ends} {σ : St} {H : Hp} (Pv : Nat → St → Hp → Prop) (h0 : Pv 0 σ H) (hl : ∀ i σ H, i ≤ xs.length → Pv i σ H → SqL K H a xs)
    (hs : ∀ i x σ H, xs[i]? = some x → Pv i σ H → g x σ H fun σ2 H2 => tb { D with nx := Pv (i + 1), ct := Pv (i + 1), bk := D.nx } σ2 H2) (hd : ∀ σ H, Pv xs.length σ H → D.nx σ H) :
    ∃ W : Nat → Nat → St → Hp → Prop, (∃ m, W 0 m σ H) ∧ ∀ i m σ H, W i m σ H →
      ((Itl K a).stop i H ∧ D.nx σ H) ∨ ((Itl K a).go i H ∧ ∃ N : St → Hp → Prop, (∀ σ' H', N σ' H' → ∃ m', m' < m ∧ W (i + 1) m' σ' H') ∧ ∀ x H', (Itl K a).yld i H x H' → g x σ H' fun σ2 H2 => tb { D with nx := N, ct := N, bk := D.nx } σ2 H2) := by
  refine ⟨fun i m σ H => m = xs.length - i ∧ i ≤ xs.length ∧ Pv i σ H, ⟨xs.length, by simp, Nat.zero_le _, h0⟩, ?_⟩
  rintro i m σ H ⟨rfl, hi, p⟩
  have q := hl i σ H hi p
  by_cases hlt : i < xs.length
  · refine .inr ⟨⟨xs, xs[i], q, by simp [hlt]⟩, Pv (i + 1), fun σ' H' p' => ⟨xs.length - (i + 1), by omega, rfl, hlt, p'⟩, fun x H' y => ?_⟩
    obtain ⟨e, y⟩ := y
    subst e
    exact hs i x σ _ (y xs q) p
  · have e : i = xs.length := by omega
    subst e
    exact .inl ⟨⟨xs, q, Nat.le_refl _⟩, hd σ H p⟩
theorem for_range {lo : Int} {n : Nat} {g : TG} {tb : TS} {D : Ends} {σ : St} {H : Hp} (Pv : Nat → St → Hp → Prop) (h0 : Pv 0 σ H)
    (hs : ∀ i σ H, i < n → Pv i σ H → g (.int (lo + i)) σ H fun σ2 H2 => tb { D with nx := Pv (i + 1), ct := Pv (i + 1), bk := D.nx } σ2 H2) (hd : ∀ σ H, Pv n σ H → D.nx σ H) :
    ∃ W : Nat → Nat → St → Hp → Prop, (∃ m, W 0 m σ H) ∧ ∀ i m σ H, W i m σ H →
      ((Itr lo n).stop i H ∧ D.nx σ H) ∨ ((Itr lo n).go i H ∧ ∃ N : St → Hp → Prop, (∀ σ' H', N σ' H' → ∃ m', m' < m ∧ W (i + 1) m' σ' H') ∧ ∀ x H', (Itr lo n).yld i H x H' → g x σ H' fun σ2 H2 => tb { D with nx := N, ct := N, bk := D.nx } σ2 H2) := by
  refine ⟨fun i m σ H => m = n - i ∧ i ≤ n ∧ Pv i σ H, ⟨n, by simp, Nat.zero_le _, h0⟩, ?_⟩
  rintro i m σ H ⟨rfl, hi, p⟩
  by_cases hlt : i < n
  · refine .inr ⟨hlt, Pv (i + 1), fun σ' H' p' => ⟨n - (i + 1), by omega, rfl, hlt, p'⟩, fun x H' y => ?_⟩
    obtain ⟨e, y⟩ := y
    subst e y
    exact hs i σ _ hlt p
  · have e : i = n := by omega
    subst e
    exact .inl ⟨Nat.le_refl _, hd σ H p⟩
end L2
namespace L2
open PySem PySem.Spec PyProof.Rows
abbrev R2 := V → V → Hp → VK → Prop
def OpR (X : Cx) (f : Value → Value → Sem Value) (r : R2) : Prop :=
  ∀ (pins : List (Addr × Obj)) (s : Shared) (σ : St) (H : Hp) (x y : V) (v u : Value) (Q : VK), Inv X pins σ H s → RelV x v → RelV y u → r x y H Q →
    wpAny (model X.prog X.w) X.A (f v u) (EP X pins σ Q) X.xe s
def UnR (X : Cx) (f : Value → Sem Value) (r : V → Hp → VK → Prop) : Prop :=
  ∀ (pins : List (Addr × Obj)) (s : Shared) (σ : St) (H : Hp) (x : V) (v : Value) (Q : VK), Inv X pins σ H s → RelV x v → r x H Q →
    wpAny (model X.prog X.w) X.A (f v) (EP X pins σ Q) X.xe s
def CallR (X : Cx) (f : Value) (r : List V → Hp → VK → Prop) : Prop :=
  ∀ (pins : List (Addr × Obj)) (s : Shared) (σ : St) (H : Hp) (xs : List V) (us : List Value) (Q : VK), Inv X pins σ H s → Vals xs us → r xs H Q →
    wpAny (model X.prog X.w) X.A (call f us) (EP X pins σ Q) X.xe s
def tOp (r : R2) (ta tb : TE) : TE := fun σ H Q => ta σ H fun x H1 => tb σ H1 fun y H2 => r x y H2 Q
def tUn (r : V → Hp → VK → Prop) (ta : TE) : TE := fun σ H Q => ta σ H fun x H1 => r x H1 Q
def rI (C : Int → Int → Prop) (g : Int → Int → V) : R2 := fun x y H Q => ∃ i j, x = .int i ∧ y = .int j ∧ C i j ∧ Q (g i j) H
def rI0 (g : Int → Int → V) : R2 := fun x y H Q => ∃ i j, x = .int i ∧ y = .int j ∧ Q (g i j) H
def rU (g : Int → V) : V → Hp → VK → Prop := fun x H Q => ∃ i, x = .int i ∧ Q (g i) H
section
variable {X : Cx} {a b c : Expr} {ta tb tc : TE} {pos : Pos}
theorem binT (ha : PE X a ta) (hb : PE X b tb) {pins : List (Addr × Obj)} {s : Shared} {σ : St} {H : Hp} {R : V → V → Hp → Prop} (I : Inv X pins σ H s)
    (h : ta σ H fun x H1 => tb σ H1 fun y H2 => R x y H2) {Q : Value → Shared → Prop} {f : Value → Value → Sem Value}
    (hf : ∀ v u s2 x y H2, Inv X pins σ H2 s2 → RelV x v → RelV y u → R x y H2 → wpAny (model X.prog X.w) X.A (f v u) Q X.xe s2) :
    wpAny (model X.prog X.w) X.A (eval a X.env) (fun v s₁ => wpAny (model X.prog X.w) X.A (eval b X.env) (fun u s₂ => wpAny (model X.prog X.w) X.A (f v u) Q X.xe s₂) X.xe s₁) X.xe s := by
  refine thn (ha pins s σ H _ I h) fun v s1 ⟨x, H1, I1, r1, q1⟩ => ?_
  refine thn (hb pins s1 σ H1 _ I1 q1) fun u s2 ⟨y, H2, I2, r2, q2⟩ => ?_
  exact hf v u s2 x y H2 I2 r1 r2 q2
theorem pe_op {op : Operator} {r : R2} (ho : OpR X (binaryOp op) r) (ha : PE X a ta) (hb : PE X b tb) : PE X (.BinOp a op b pos) (tOp r ta tb) := by
  intro pins s σ H Q I h
  exact wpAny_BinOp (binT ha hb I h fun v u s2 x y H2 I2 rx ry q => ho pins s2 σ H2 x y v u Q I2 rx ry q)
theorem pe_un {op : UnaryOp} {r : V → Hp → VK → Prop} (ho : UnR X (unaryOp op) r) (ha : PE X a ta) : PE X (.UnaryOp op a pos) (tUn r ta) := by
  intro pins s σ H Q I h
  exact UnaryOp_ (thn (ha pins s σ H _ I h) fun v s1 ⟨x, H1, I1, r1, q1⟩ => ho pins s1 σ H1 x v Q I1 r1 q1)
theorem opI {f : Value → Value → Sem Value} {C : Int → Int → Prop} {g : Int → Int → Int}
    (rule : ∀ (i j : Int) (t u : Tok) (s : Shared) (Q : Value → Shared → Prop) (E : Value → Shared → Prop), C i j → Q (.int (g i j) s.toks) { s with toks := s.toks + 1 } → wpAny (model X.prog X.w) X.A (f (.int i t) (.int j u)) Q E s) :
    OpR X f (rI C fun i j => .int (g i j)) := by
  intro pins s σ H x y v u Q I rx ry h
  obtain ⟨i, j, rfl, rfl, hc, q⟩ := h
  obtain ⟨t, rfl⟩ := rx
  obtain ⟨t', rfl⟩ := ry
  exact rule i j t t' s _ _ hc ⟨.int (g i j), H, I.tok _, ⟨_, rfl⟩, q⟩
theorem opI0 {f : Value → Value → Sem Value} {g : Int → Int → Int}
    (rule : ∀ (i j : Int) (t u : Tok) (s : Shared) (Q : Value → Shared → Prop) (E : Value → Shared → Prop), Q (.int (g i j) s.toks) { s with toks := s.toks + 1 } → wpAny (model X.prog X.w) X.A (f (.int i t) (.int j u)) Q E s) :
    OpR X f (rI0 fun i j => .int (g i j)) := by
  intro pins s σ H x y v u Q I rx ry h
  obtain ⟨i, j, rfl, rfl, q⟩ := h
  obtain ⟨t, rfl⟩ := rx
  obtain ⟨t', rfl⟩ := ry
  exact rule i j t t' s _ _ ⟨.int (g i j), H, I.tok _, ⟨_, rfl⟩, q⟩
theorem opB0 {f : Value → Value → Sem Value} {g : Int → Int → Bool}
    (rule : ∀ (i j : Int) (t u : Tok) (s : Shared) (Q : Value → Shared → Prop) (E : Value → Shared → Prop), Q (.bool (g i j)) s → wpAny (model X.prog X.w) X.A (f (.int i t) (.int j u)) Q E s) :
    OpR X f (rI0 fun i j => .bl (g i j)) := by
  intro pins s σ H x y v u Q I rx ry h
  obtain ⟨i, j, rfl, rfl, q⟩ := h
  obtain ⟨t, rfl⟩ := rx
  obtain ⟨t', rfl⟩ := ry
  exact rule i j t t' s _ _ ⟨.bl (g i j), H, I, rfl, q⟩
def CDiv (i j : Int) : Prop := 0 < j ∧ j < 1073741824
def CPow (i j : Int) : Prop := 0 ≤ j ∧ j ≤ 1000000 ∧ i.natAbs < 2 ^ 64
def CMul (i j : Int) : Prop := (-(2 ^ 64) < i ∧ i < 2 ^ 64) ∨ (-(2 ^ 64) < j ∧ j < 2 ^ 64)
theorem CMul.ok {i j : Int} (h : CMul i j) : IntMulOk i j := by
  rcases h with ⟨h1, h2⟩ | ⟨h1, h2⟩
  · exact .of_left (intBits_le_64 h1 h2)
  · exact .of_right (intBits_le_64 h1 h2)
theorem op_add : OpR X (binaryOp .Add) (rI0 fun i j => .int (i + j)) := opI0 fun _ _ _ _ _ _ _ q => add_int q
theorem op_sub : OpR X (binaryOp .Sub) (rI0 fun i j => .int (i - j)) := opI0 fun _ _ _ _ _ _ _ q => sub_int q
theorem op_mul : OpR X (binaryOp .Mult) (rI CMul fun i j => .int (i * j)) := opI fun _ _ _ _ _ _ _ hc q => mul_int q hc.ok
theorem op_fdiv : OpR X (binaryOp .FloorDiv) (rI CDiv fun i j => .int (i / j)) := opI fun i j _ _ _ _ _ hc q => by
  have h1 : (0 : Int) < j := hc.1
  have h2 : j < 1073741824 := hc.2
  exact floordiv_int (by omega) (by rw [Int.fdiv_eq_ediv_of_nonneg i (by omega)]; exact q) (.inl (PyProof.noPylong_small (by omega)))
theorem op_mod : OpR X (binaryOp .Mod) (rI (fun _ j => 0 < j) fun i j => .int (i % j)) := opI fun i j _ _ _ _ _ hc q => by
  have h1 : (0 : Int) < j := hc
  exact mod_int' (by omega) (by rw [Int.fmod_eq_emod_of_nonneg i (by omega)]; exact q)
theorem op_pow : OpR X (binaryOp .Pow) (rI CPow fun i j => .int (i ^ j.toNat)) := opI fun _ _ _ _ _ _ _ hc q => pow_int_small hc.1 hc.2.1 hc.2.2 q
theorem unI {f : Value → Sem Value} {g : Int → Int}
    (rule : ∀ (i : Int) (t : Tok) (s : Shared) (Q : Value → Shared → Prop) (E : Value → Shared → Prop), Q (.int (g i) s.toks) { s with toks := s.toks + 1 } → wpAny (model X.prog X.w) X.A (f (.int i t)) Q E s) :
    UnR X f (rU fun i => .int (g i)) := by
  intro pins s σ H x v Q I rx h
  obtain ⟨i, rfl, q⟩ := h
  obtain ⟨t, rfl⟩ := rx
  exact rule i t s _ _ ⟨.int (g i), H, I.tok _, ⟨_, rfl⟩, q⟩
theorem un_neg : UnR X (unaryOp .USub) (rU fun i => .int (-i)) := unI fun _ _ _ _ _ q => neg_int q
end
def scal : V → V → Bool
  | .non, .non => true | .non, .int _ => true | .int _, .non => true | .non, .bl _ => true | .bl _, .non => true | .non, .str _ => true | .str _, .non => true
  | .int _, .int _ => true | .bl _, .bl _ => true | .str _, .str _ => true | .byt _, .byt _ => true
  | .int _, .str _ => true | .str _, .int _ => true | .bl _, .str _ => true | .str _, .bl _ => true
  | _, _ => false
def rEq : R2 := fun x y H Q => scal x y = true ∧ Q (.bl (decide (x = y))) H
def rNe : R2 := fun x y H Q => scal x y = true ∧ Q (.bl (!decide (x = y))) H
theorem dec_int {i j : Int} : decide (V.int i = V.int j) = (i == j) := by
  rw [Bool.eq_iff_iff]
  simp
theorem dec_bl {i j : Bool} : decide (V.bl i = V.bl j) = (i == j) := by
  rw [Bool.eq_iff_iff]
  simp
theorem dec_str {i j : Str} : decide (V.str i = V.str j) = (i == j) := by
  rw [Bool.eq_iff_iff]
  simp
theorem dec_byt {i j : Array UInt8} : decide (V.byt i = V.byt j) = (i.toList == j.toList) := by
  rw [Bool.eq_iff_iff]
  cases i
  cases j
  simp
section
variable {X : Cx} {a b c : Expr} {ta tb tc : TE} {pos : Pos}
theorem fin_bl {pins : List (Addr × Obj)} {σ : St} {H : Hp} {s : Shared} {Q : VK} {k k' : Bool} (I : Inv X pins σ H s) (q : Q (.bl k) H) (e : k = k') : EP X pins σ Q (.bool k') s := by
  subst e
  exact ⟨.bl k, H, I, rfl, q⟩
theorem op_eq : OpR X (compareOp .Eq) rEq := by
  intro pins s σ H x y v u Q I rx ry h
  obtain ⟨hs, q⟩ := h
  cases x with
  | non =>
    cases rx
    cases y with
    | non => cases ry; exact PySem.EqNone.eq_none_none (fin_bl I q (by simp))
    | bl j => cases ry; exact PySem.EqNone.eq_none_bool (fin_bl I q (by simp))
    | int j => obtain ⟨t', rfl⟩ := ry; exact PySem.EqNone.eq_none_int (fin_bl I q (by simp))
    | str j => obtain ⟨t', rfl⟩ := ry; exact PySem.EqNone.eq_none_str (fin_bl I q (by simp))
    | _ => exact absurd (show false = true from hs) Bool.false_ne_true
  | bl i =>
    cases rx
    cases y with
    | non => cases ry; exact PySem.EqNone.eq_bool_none (fin_bl I q (by simp))
    | bl j => cases ry; exact eq_bool (fin_bl I q dec_bl)
    | str j => obtain ⟨t', rfl⟩ := ry; exact PySem.EqMixed.eq_bool_str (fin_bl I q (by simp))
    | _ => exact absurd (show false = true from hs) Bool.false_ne_true
  | int i =>
    obtain ⟨t, rfl⟩ := rx
    cases y with
    | non => cases ry; exact PySem.EqNone.eq_int_none (fin_bl I q (by simp))
    | int j => obtain ⟨t', rfl⟩ := ry; exact eq_int (fin_bl I q dec_int)
    | str j => obtain ⟨t', rfl⟩ := ry; exact PySem.EqMixed.eq_int_str (fin_bl I q (by simp))
    | _ => exact absurd (show false = true from hs) Bool.false_ne_true
  | str i =>
    obtain ⟨t, rfl⟩ := rx
    cases y with
    | non => cases ry; exact PySem.EqNone.eq_str_none (fin_bl I q (by simp))
    | bl j => cases ry; exact PySem.EqMixed.eq_str_bool (fin_bl I q (by simp))
    | int j => obtain ⟨t', rfl⟩ := ry; exact PySem.EqMixed.eq_str_int (fin_bl I q (by simp))
    | str j => obtain ⟨t', rfl⟩ := ry; exact eq_str (fin_bl I q dec_str)
    | _ => exact absurd (show false = true from hs) Bool.false_ne_true
  | byt i =>
    obtain ⟨t, rfl⟩ := rx
    cases y with
    | byt j => obtain ⟨t', rfl⟩ := ry; exact PySem.W.eq_bytes (fin_bl I q dec_byt)
    | _ => exact absurd (show false = true from hs) Bool.false_ne_true
  | _ => cases y <;> exact absurd (show false = true from hs) Bool.false_ne_true
theorem op_ne : OpR X (compareOp .NotEq) rNe := by
  intro pins s σ H x y v u Q I rx ry h
  obtain ⟨hs, q⟩ := h
  cases x with
  | non =>
    cases rx
    cases y with
    | non => cases ry; exact PySem.EqNone.ne_none_none (fin_bl I q (by simp))
    | bl j => cases ry; exact PySem.EqNone.ne_none_bool (fin_bl I q (by simp))
    | int j => obtain ⟨t', rfl⟩ := ry; exact PySem.EqNone.ne_none_int (fin_bl I q (by simp))
    | str j => obtain ⟨t', rfl⟩ := ry; exact PySem.EqNone.ne_none_str (fin_bl I q (by simp))
    | _ => exact absurd (show false = true from hs) Bool.false_ne_true
  | bl i =>
    cases rx
    cases y with
    | non => cases ry; exact PySem.EqNone.ne_bool_none (fin_bl I q (by simp))
    | bl j => cases ry; exact ne_bool (fin_bl I q (congrArg not dec_bl))
    | str j => obtain ⟨t', rfl⟩ := ry; exact PySem.EqMixed.ne_bool_str (fin_bl I q (by simp))
    | _ => exact absurd (show false = true from hs) Bool.false_ne_true
  | int i =>
    obtain ⟨t, rfl⟩ := rx
    cases y with
    | non => cases ry; exact PySem.EqNone.ne_int_none (fin_bl I q (by simp))
    | int j => obtain ⟨t', rfl⟩ := ry; exact ne_int (fin_bl I q (congrArg not dec_int))
    | str j => obtain ⟨t', rfl⟩ := ry; exact PySem.EqMixed.ne_int_str (fin_bl I q (by simp))
    | _ => exact absurd (show false = true from hs) Bool.false_ne_true
  | str i =>
    obtain ⟨t, rfl⟩ := rx
    cases y with
    | non => cases ry; exact PySem.EqNone.ne_str_none (fin_bl I q (by simp))
    | bl j => cases ry; exact PySem.EqMixed.ne_str_bool (fin_bl I q (by simp))
    | int j => obtain ⟨t', rfl⟩ := ry; exact PySem.EqMixed.ne_str_int (fin_bl I q (by simp))
    | str j => obtain ⟨t', rfl⟩ := ry; exact ne_str (fin_bl I q (congrArg not dec_str))
    | _ => exact absurd (show false = true from hs) Bool.false_ne_true
  | byt i =>
    obtain ⟨t, rfl⟩ := rx
    cases y with
    | byt j => obtain ⟨t', rfl⟩ := ry; exact PySem.W.ne_bytes (fin_bl I q (congrArg not dec_byt))
    | _ => exact absurd (show false = true from hs) Bool.false_ne_true
  | _ => cases y <;> exact absurd (show false = true from hs) Bool.false_ne_true
theorem op_lt : OpR X (compareOp .Lt) (rI0 fun i j => .bl (decide (i < j))) := opB0 fun _ _ _ _ _ _ _ q => lt_int q
theorem op_gt : OpR X (compareOp .Gt) (rI0 fun i j => .bl (decide (j < i))) := opB0 fun _ _ _ _ _ _ _ q => gt_int q
theorem op_ge : OpR X (compareOp .GtE) (rI0 fun i j => .bl (decide (j ≤ i))) := opB0 fun _ _ _ _ _ _ _ q => ge_int q
theorem op_isN : OpR X (compareOp .Is) (fun x y H Q => y = .non ∧ Q (.bl (decide (x = .non))) H) := by
  intro pins s σ H x y v u Q I rx ry h
  obtain ⟨rfl, q⟩ := h
  cases ry
  refine is_none_gen (fin_bl I q ?_)
  cases x <;> first
    | (cases rx; rfl)
    | (obtain ⟨t, rfl⟩ := rx; rfl)
theorem nomark (b : Expr) {op : CmpOp} (h : op ≠ .In := by decide) (h2 : op ≠ .NotIn := by decide) : behindInMarks op b = false := by
  have e1 : (op == CmpOp.In) = false := by cases op <;> first | rfl | exact absurd rfl h
  have e2 : (op == CmpOp.NotIn) = false := by cases op <;> first | rfl | exact absurd rfl h2
  cases b <;> simp [behindInMarks, e1, e2]
theorem pe_cmpR {op : CmpOp} {r : R2} (ho : OpR X (compareOp op) r) (ha : PE X a ta) (hb : PE X b tb) (hm : behindInMarks op b = false) : PE X (.Compare a [op] [b] pos) (tOp r ta tb) := by
  intro pins s σ H Q I h
  exact wpAny_Compare1 (binT ha hb I h fun v u s2 x y H2 I2 rx ry q => ho pins s2 σ H2 x y v u Q I2 rx ry q) hm
def tTest (t : TE) : TT := fun σ H Q => t σ H fun x H' => ∃ k, x = .bl k ∧ Q k H'
theorem pt_cmpR {op : CmpOp} {r : R2} (ho : OpR X (compareOp op) r) (ha : PE X a ta) (hb : PE X b tb) (hm : behindInMarks op b = false) : PT X (.Compare a [op] [b] pos) (tTest (tOp r ta tb)) := by
  intro pins s σ H Q I h
  refine wpAny_isTrue_Compare1 (thn (ha pins s σ H _ I h) fun v s1 ⟨x, H1, I1, r1, q1⟩ => thn (hb pins s1 σ H1 _ I1 q1) fun u s2 ⟨y, H2, I2, r2, q2⟩ =>
    thn (ho pins s2 σ H2 x y v u _ I2 r1 r2 q2) fun c s3 ⟨z, H3, I3, r3, k, e, q3⟩ => ?_) hm
  subst e
  cases r3
  exact wpAny_truthy_bool ⟨H3, I3, q3⟩
theorem line63 : (sizeLine : Nat) < 2 ^ 63 := by rw [sizeLine_eq]; decide
theorem vals1 {x : V} {us : List Value} (r : Vals [x] us) : ∃ u, us = [u] ∧ RelV x u := by
  cases r with
  | cons r1 r2 => cases r2; exact ⟨_, rfl, r1⟩
theorem vals2 {x y : V} {us : List Value} (r : Vals [x, y] us) : ∃ u w', us = [u, w'] ∧ RelV x u ∧ RelV y w' := by
  cases r with
  | cons r1 r2 =>
    cases r2 with
    | cons r3 r4 => cases r4; exact ⟨_, _, rfl, r1, r3⟩
theorem call_max2 (hc : X.calm = true) : CallR X (.builtin "max") (fun xs H Q => ∃ i j, xs = [.int i, .int j] ∧ Q (.int (if j > i then j else i)) H) := by
  intro pins s σ H xs us Q I r h
  obtain ⟨i, j, rfl, q⟩ := h
  obtain ⟨u, w', rfl, ⟨t, rfl⟩, ⟨t', rfl⟩⟩ := vals2 r
  refine max_two_ints (I.ok.hd hc) fun h' tk k => ⟨_, H, I.kept k, ?_, q⟩
  by_cases hj : j > i
  · rw [if_pos hj, if_pos hj]; exact ⟨_, rfl⟩
  · rw [if_neg hj, if_neg hj]; exact ⟨_, rfl⟩
theorem call_min2 (hc : X.calm = true) : CallR X (.builtin "min") (fun xs H Q => ∃ i j, xs = [.int i, .int j] ∧ Q (.int (if j < i then j else i)) H) := by
  intro pins s σ H xs us Q I r h
  obtain ⟨i, j, rfl, q⟩ := h
  obtain ⟨u, w', rfl, ⟨t, rfl⟩, ⟨t', rfl⟩⟩ := vals2 r
  refine min_two_ints (I.ok.hd hc) fun h' tk k => ⟨_, H, I.kept k, ?_, q⟩
  by_cases hj : j < i
  · rw [if_pos hj, if_pos hj]; exact ⟨_, rfl⟩
  · rw [if_neg hj, if_neg hj]; exact ⟨_, rfl⟩
theorem call_int1 : CallR X (.type "int") (fun xs H Q => (∃ i, xs = [.int i] ∧ Q (.int i) H) ∨ ∃ k, xs = [.bl k] ∧ Q (.int (if k then 1 else 0)) H) := by
  intro pins s σ H xs us Q I r h
  rcases h with ⟨i, rfl, q⟩ | ⟨k, rfl, q⟩
  · obtain ⟨u, rfl, t, rfl⟩ := vals1 r
    exact call_int_int ⟨.int i, H, I, ⟨_, rfl⟩, q⟩
  · obtain ⟨u, rfl, r1⟩ := vals1 r
    cases r1
    exact call_int_bool ⟨.int (if k then 1 else 0), H, I.tok _, ⟨_, rfl⟩, q⟩
end
end L2
namespace L2
open PySem PySem.Spec PyProof.Rows
section
variable {prog : Program} {w : World} {A : Around} {E : Value → Shared → Prop} {s : Shared} {K : PySem.W.Frag} {x dx C f : Addr} {mA : Str → Option Value} {name : Str} {v : Value}
end
theorem RelO.some_of {v : V} {o : Option Value} (r : RelO (some v) o) : ∃ u, o = some u ∧ RelV v u := by
  cases o with
  | none => exact (show False from r).elim
  | some u => exact ⟨u, rfl, r⟩
section
variable {P : Program} {w : World} {H H' : Hp} {h h' : Heap} {a C dx : Addr} {fs fs' : List (Str × V)}
end
section
variable {X : Cx} {pins : List (Addr × Obj)} {σ : St} {H : Hp} {s : Shared} {a C dx : Addr} {fs : List (Str × V)} {f : Str} {v : V} {A : Around} {E : Value → Shared → Prop}
end
section
variable {X : Cx} {o e value : Expr} {f : Str} {pos pos' tpos : Pos} {ta tv : TE}
end
section
variable {X : Cx} {pins : List (Addr × Obj)} {σ : St} {H : Hp} {s : Shared} {A : Around} {E : Value → Shared → Prop} {Q : Value → Shared → Prop} {c : Value} {b : Bool}
end
end L2
namespace L2
open PySem PySem.Spec PyProof.Rows
structure Room (k : Nat) (A : Around) : Prop where
  hd : A.handled = none
  dp : A.depth + 3 * k + 5 < recursionLimit
  un : A.units + 16 * k + 200 < cLine
theorem Room.mono {j k : Nat} {A : Around} (r : Room k A) (h : j ≤ k) : Room j A := ⟨r.hd, by have := r.dp; omega, by have := r.un; omega⟩
theorem Room.deeper {k : Nat} {A : Around} (r : Room (k + 1) A) (env : Env) : Room k (A.deeper env) :=
  ⟨r.hd, by have := r.dp; show A.depth + 1 + 3 * k + 5 < _; omega, by have := r.un; show A.units + 3 + 16 * k + 200 < _; omega⟩
theorem Room.depth {k : Nat} {A : Around} (r : Room k A) : A.depth < recursionLimit := by have := r.dp; omega
theorem Room.units {k : Nat} {A : Around} (r : Room k A) : A.units + 64 < cLine := by have := r.un; omega
theorem Room.units0 {k : Nat} {A : Around} (r : Room k A) : A.units < cLine := by have := r.un; omega
def tNil : TA := fun _ H Q => Q [] H
def tCons (ta : TE) (tr : TA) : TA := fun σ H Q => ta σ H fun x H1 => tr σ H1 fun xs H2 => Q (x :: xs) H2
section
variable {X : Cx} {e : Expr} {es : List Expr} {te : TE} {t : TA} {pos : Pos}
theorem pa_nil : PA X [] tNil := fun _ _ _ _ H Q I h => Calls.spliced_nil ⟨[], H, I, .nil, h⟩
theorem pa_cons (ha : PE X e te) (hr : PA X es t) (hs : starEach (e :: es) X.env = (false, eval e X.env) :: starEach es X.env := by rfl) : PA X (e :: es) (tCons te t) := by
  intro pos pins s σ H Q I h
  rw [hs]
  show wpAny _ _ (spliced ((false, eval e X.env) :: backTo pos (starEach es X.env))) _ _ s
  refine Calls.spliced_cons (thn (ha pins s σ H _ I h) fun u s1 ⟨x, H1, I1, r1, q1⟩ => ?_)
  exact thn (hr pos pins s1 σ H1 _ I1 q1) fun us s2 ⟨xs, H2, I2, r2, q2⟩ => ⟨x :: xs, H2, I2, .cons r1 r2, q2⟩
end
abbrev Sp := List V → Hp → VK → XK → Prop
abbrev CXT := List Env → Hp → Shared → XK → Value → Shared → Prop
structure Env0 (P : Program) (w : World) (K : PySem.W.Frag) (mg : Str → Option Value) (base : Heap) (A : Around) (outer : List Env) (s : Shared) (H : Hp) : Prop where
  frames : A.frames = some outer
  mod : Mod K mg base
  bs : ∀ b o, base.get? b = some o → s.heap.get? b = some o ∧ H b = none
  bsz : base.objs.size ≤ s.heap.objs.size
  funs : s.heap.FunFrames base outer
  frf : ∀ b ∈ frs outer, H b = none
  hok : HOk P w H s.heap
  bare : AllBare s.gens
def CE (outer : List Env) (P : Program) (w : World) (H : Hp) (s : Shared) (Q : VK) (u : Value) (s' : Shared) : Prop :=
  ∃ v H', s'.os = s.os ∧ AllBare s'.gens ∧ Un (frs outer) [] H H' s.heap s'.heap ∧ HOk P w H' s'.heap ∧ RelV v u ∧ Q v H'
def CR (CX : CXT) (outer : List Env) (P : Program) (w : World) (H : Hp) (s : Shared) (Q : VK) (E : XK) (r : Result) (s' : Shared) : Prop :=
  match r with
  | .ok (.ret u) => CE outer P w H s Q u s'
  | .ok _ => False
  | .error e => CX outer H s E e s'
structure FnOk (P : Program) (w : World) (K : PySem.W.Frag) (mg : Str → Option Value) (base : Heap) (CX : CXT) (k : Nat) (f : Addr) (fd : FuncData) (ps : List Str) (sp : Sp) : Prop where
  len : ∀ vs H Q E, sp vs H Q E → vs.length = ps.length
  run : ∀ (A : Around) (outer : List Env) (s : Shared) (H : Hp) (args : Args) (us : List Value) (vs : List V) (Q : VK) (E : XK), Room k A → Env0 P w K mg base A outer s H → BindsTo s fd args (ps.zip us) → Vals vs us → sp vs H Q E →
    codeAny (model P w) A (.call (.ref f) args) (CR CX outer P w H s Q E) s
section
variable {X : Cx} {pins : List (Addr × Obj)} {σ : St} {H : Hp} {s s' : Shared}
theorem Inv.env0 (I : Inv X pins σ H s) : Env0 X.prog X.w X.K X.mg X.base X.A X.stack s H :=
  ⟨I.ok.frames, I.ok.mod, I.bs, Nat.le_trans I.ok.bsz I.sz, I.stack, I.stkFree, I.hok, I.bare⟩
theorem Inv.after {Q : VK} {u : Value} (I : Inv X pins σ H s) (h : CE X.stack X.prog X.w H s Q u s') : EP X pins σ Q u s' := by
  obtain ⟨v, H', os, bare, un, hok, r, q⟩ := h
  obtain ⟨hh, g, d, t, os'⟩ := s'
  obtain rfl : os' = s.os := os
  exact ⟨v, H', I.call (h' := hh) (g' := g) (d' := d) (t' := t) (ch := []) un hok bare (fun b z => absurd z (by simp)), r, q⟩
end
def tCall (sp : Sp) (dvs : List V) (E : XK) (t : TA) : TE := fun σ H Q => t σ H fun vs H1 => sp (vs ++ dvs) H1 Q E
def Binds (K : PySem.W.Frag) (fd : FuncData) (ps : List Str) (ds : List Value) : Prop :=
  ∀ (s : Shared) (us : List Value), K.In s.heap → (us ++ ds).length = ps.length → BindsTo s fd ⟨us, []⟩ (ps.zip (us ++ ds))
theorem Binds.all {K : PySem.W.Frag} {fd : FuncData} {ps : List Str} (h : ∀ us : List Value, us.length = ps.length → bindArgs fd ⟨us, []⟩ = pure (ps.zip us)) : Binds K fd ps [] := fun s us _ hl => by
  rw [List.append_nil] at hl ⊢
  exact .of_eq (h us hl)
def Passes (CX : CXT) (X : Cx) (E : XK) : Prop := ∀ (pins : List (Addr × Obj)) (σ : St) (H : Hp) (s : Shared) (e : Value) (s' : Shared), Inv X pins σ H s → CX X.stack H s E e s' → X.xe e s'
section
variable {X : Cx} {CX : CXT} {k : Nat} {f C : Addr} {fd : FuncData} {ps : List Str} {sp : Sp} {dvs : List V} {ds : List Value} {E : XK} {x m : Str} {p pos apos : Pos} {e o : Expr} {es : List Expr} {ta : TE} {t : TA}
theorem run_fn {pins : List (Addr × Obj)} {σ : St} {H : Hp} {s : Shared} {Q : VK} {us : List Value} {vs : List V} (F : FnOk X.prog X.w X.K X.mg X.base CX k f fd ps sp) (hr : Room k X.A) (hb : Binds X.K fd ps ds) (hd : Vals dvs ds) (hx : Passes CX X E)
    (I : Inv X pins σ H s) (r : Vals vs us) (h : sp (vs ++ dvs) H Q E) : wpAny (model X.prog X.w) X.A (call (.ref f) us) (EP X pins σ Q) X.xe s := by
  have r2 : Vals (vs ++ dvs) (us ++ ds) := r.append hd
  have hl : (us ++ ds).length = ps.length := by rw [← r2.length]; exact F.len _ _ _ _ h
  refine wpAny_call (codeAny_mono (F.run X.A X.stack s H ⟨us, []⟩ (us ++ ds) (vs ++ dvs) Q E hr I.env0 (hb s us I.kIn hl) r2 h) fun r s' hq => ?_)
  cases r with
  | error e => exact hx pins σ H s e s' I hq
  | ok fl =>
    cases fl with
    | ret u => exact I.after hq
    | next => exact False.elim hq
    | brk => exact False.elim hq
    | cont => exact False.elim hq
theorem pe_call (F : FnOk X.prog X.w X.K X.mg X.base CX k f fd ps sp) (hr : Room k X.A) (hg : Gl X x) (hm : X.mg x = some (.ref f)) (hk : PySem.W.keepIn X.K (.ref f) = true) (hb : Binds X.K fd ps ds) (hd : Vals dvs ds) (hx : Passes CX X E)
    (ha : PA X (e :: es) t) (hdb : (x == ("__debug__" : Str)) = false := by decide) (he : starEach (e :: es) X.env = (false, eval e X.env) :: starEach es X.env := by rfl) (hpl : (backTo pos (starEach es X.env)).any (·.1) = false := by rfl) :
    PE X (.Call (.Name x p) (e :: es) [] pos) (tCall sp dvs E t) := by
  intro pins s σ H Q I h
  refine wpAny_Call_Name_kw (ld_glob I hg hm ?_ hdb)
  refine PySem.W.callWith_K (h₀ := X.base) I.ok.mod.kin hk (thn (ha pos pins s σ H _ I h) fun us s1 ⟨vs, H1, I1, r, q⟩ => ⟨I1.kIn, ?_⟩) he hpl
  exact run_fn F hr hb hd hx I1 r q
theorem pe_call0 (F : FnOk X.prog X.w X.K X.mg X.base CX k f fd ps sp) (hr : Room k X.A) (hg : Gl X x) (hm : X.mg x = some (.ref f)) (hk : PySem.W.keepIn X.K (.ref f) = true) (hb : Binds X.K fd ps ds) (hd : Vals dvs ds) (hx : Passes CX X E)
    (hdb : (x == ("__debug__" : Str)) = false := by decide) : PE X (.Call (.Name x p) [] [] pos) (tCall sp dvs E tNil) := by
  intro pins s σ H Q I h
  refine wpAny_Call_Name_kw (ld_glob I hg hm ?_ hdb)
  exact PySem.W.callWith_K0 I.kIn hk (run_fn (us := []) F hr hb hd hx I .nil h)
end
section
variable {X : Cx} {CX : CXT} {k : Nat} {f C : Addr} {fd : FuncData} {ps ks : List Str} {sp : Sp} {E : XK} {x m : Str} {p pos apos kpos : Pos} {e o : Expr} {es : List Expr} {kws : List Keyword} {te ta : TE} {t tk : TA} {nm : Option Str}
variable {g : List Value → List Value → List Value} {gV : List V → List V → List V}
end
structure FnScope (N P : List Str) (sc : Scope) : Prop where
  kind : sc.kind = .function
  co : sc.isCoroutine = false
  gen : sc.isGenerator = false
  nd : N.Nodup
  pre : N.take P.length = P
  par : ∀ x ∈ P, sc.names.lookup x = some .local ∨ sc.names.lookup x = some .cell
  nofree : ∀ y ∈ sc.names, y.2 ≠ .free
theorem bindL_out {kindOf : Str → Option NameKind} {x : Str} : ∀ {binds : List (Str × Value)} {m : Str → Option Value}, (∀ v, (x, v) ∉ binds) → bindL kindOf binds m x = m x
  | [], _, _ => rfl
  | (n, v) :: r, m, h => by
    unfold bindL
    rw [bindL_out fun w hw => h w (List.mem_cons_of_mem _ hw)]
    split
    · have : x ≠ n := by rintro rfl; exact h v List.mem_cons_self
      simp [this]
    · rfl
theorem bindC_out {kindOf : Str → Option NameKind} {x : Str} : ∀ {binds : List (Str × Value)} {m : Str → Option Value}, (∀ v, (x, v) ∉ binds) → bindC kindOf binds m x = m x
  | [], _, _ => rfl
  | (n, v) :: r, m, h => by
    unfold bindC
    rw [bindC_out fun w hw => h w (List.mem_cons_of_mem _ hw)]
    split
    · rfl
    · have : x ≠ n := by rintro rfl; exact h v List.mem_cons_self
      simp [this]
theorem bindL_get {kindOf : Str → Option NameKind} {x : Str} {v : Value} : ∀ {P : List Str} {vs : List Value} {i : Nat} {m : Str → Option Value}, P.Nodup → P[i]? = some x → vs[i]? = some v → kindOf x = some .local →
    bindL kindOf (P.zip vs) m x = some v
  | [], _, _, _, _, h, _, _ => by simp at h
  | _ :: _, [], _, _, _, _, h, _ => by simp at h
  | p :: P, w :: vs, 0, m, nd, h1, h2, hk => by
    simp at h1 h2; subst h1; subst h2
    show bindL kindOf ((p, w) :: P.zip vs) m p = _
    unfold bindL
    rw [bindL_out fun v hv => (List.nodup_cons.mp nd).1 (List.of_mem_zip hv).1, if_pos hk]
    simp
  | p :: P, w :: vs, i + 1, m, nd, h1, h2, hk => by
    show bindL kindOf ((p, w) :: P.zip vs) m x = _
    unfold bindL
    exact bindL_get (i := i) (List.nodup_cons.mp nd).2 (by simpa using h1) (by simpa using h2) hk
theorem bindC_get {kindOf : Str → Option NameKind} {x : Str} {v : Value} : ∀ {P : List Str} {vs : List Value} {i : Nat} {m : Str → Option Value}, P.Nodup → P[i]? = some x → vs[i]? = some v → kindOf x ≠ some .local →
    bindC kindOf (P.zip vs) m x = some v
  | [], _, _, _, _, h, _, _ => by simp at h
  | _ :: _, [], _, _, _, _, h, _ => by simp at h
  | p :: P, w :: vs, 0, m, nd, h1, h2, hk => by
    simp at h1 h2; subst h1; subst h2
    show bindC kindOf ((p, w) :: P.zip vs) m p = _
    unfold bindC
    rw [bindC_out fun v hv => (List.nodup_cons.mp nd).1 (List.of_mem_zip hv).1, if_neg hk]
    simp
  | p :: P, w :: vs, i + 1, m, nd, h1, h2, hk => by
    show bindC kindOf ((p, w) :: P.zip vs) m x = _
    unfold bindC
    exact bindC_get (i := i) (List.nodup_cons.mp nd).2 (by simpa using h1) (by simpa using h2) hk
def start (N : List Str) (vs : List V) : St := vs.map some ++ List.replicate (N.length - vs.length) none
def cxOf (CX : CXT) (P : Program) (w : World) (K : PySem.W.Frag) (mg : Str → Option Value) (base : Heap) (N : List Str) (qual : Str) (scope : Scope) (f : Addr) (cd : Value) (A : Around) (outer : List Env) (s : Shared) (H : Hp) (E : XK) : Cx where
  prog := P
  w := w
  K := K
  mg := mg
  base := base
  A := A.deeper (envOfC qual scope s.heap.objs.size f cd)
  N := N
  s₀ := s
  H₀ := H
  env := envOfC qual scope s.heap.objs.size f cd
  outer := outer
  stack := envOfC qual scope s.heap.objs.size f cd :: outer
  ex := []
  calm := true
  fn := fun _ => true
  pn := []
  xe := fun e s' => wpAny (model P w) (A.deeper (envOfC qual scope s.heap.objs.size f cd)) (leaving (envOfC qual scope s.heap.objs.size f cd) e) (fun _ s'' => CX outer H s E e s'') (fun e' s'' => CX outer H s E e' s'') s'
theorem cell_has {sc : Scope} {n : Nat} {x : Str} (h : sc.names.lookup x = some .cell) : ∃ c, (cellsFrom n sc.names []).lookup x = some c := by
  have q := PySem.W.cellsFrom_some sc.names n [] (.inl h)
  exact Option.isSome_iff_exists.mp q
theorem inv_start {CX : CXT} {P : Program} {w : World} {K : PySem.W.Frag} {mg : Str → Option Value} {base : Heap} {N ps : List Str} {qual : Str} {scope : Scope} {f : Addr} {cd : Value} {A : Around} {outer : List Env} {s s1 : Shared} {H : Hp} {E : XK} {us : List Value} {vs : List V}
    (S : FnScope N ps scope) (hd : A.handled = none) (e0 : Env0 P w K mg base A outer s H) (hl : vs.length = ps.length) (r : Vals vs us)
    (x : InCallC s s.heap.objs.size (bindL (envOfC qual scope s.heap.objs.size f cd).kindOf (ps.zip us) fun _ => none) (cellsFrom (s.heap.objs.size + 1) scope.names []) (bindC (envOfC qual scope s.heap.objs.size f cd).kindOf (ps.zip us) fun _ => none) s1) :
    Inv (cxOf CX P w K mg base N qual scope f cd A outer s H E) [] (start N vs) H s1 := by
  have hpl : ps.length ≤ N.length := by have := congrArg List.length S.pre; rw [List.length_take] at this; omega
  obtain ⟨h1, tk, rfl, hk⟩ := x.done
  have noA : ∀ b : Addr, b ∉ (cxOf CX P w K mg base N qual scope f cd A outer s H E).ex := fun b z => absurd (show b ∈ ([] : List Addr) from z) (by simp)
  refine ⟨⟨e0.mod, S.kind, rfl, rfl, Nat.le_refl _, fun y z c h1 h2 => ?_, fun y hy => ?_, fun y c _ h => ?_, fun _ => hd, Around.frames_deeper e0.frames, .inr ⟨rfl, rfl⟩, fun b z => absurd z (noA b), e0.bs, e0.bsz, fun b _ _ => noA b, fun b z => absurd z (noA b), e0.funs, e0.frf⟩,
    rfl, e0.bare, Un.kept hk, ⟨_, x.toInCall.ns, fun i y v h1 h2 h3 => ?_⟩, fun y c h => ⟨_, x.cell y c h⟩, e0.hok.fresh (Nat.le_refl _), fun y c h => ?_, fun p hp => absurd (show p ∈ ([] : List (Addr × Obj)) from hp) (by simp), e0.hok.kept hk, ?_⟩
  · exact name_of_addr x.apart (PySem.mem_of_lookup h1) (PySem.mem_of_lookup h2)
  · have hy : scope.names.lookup y = some .cell ∨ scope.names.lookup y = some .free := hy
    rcases hy with hy | hy
    · exact cell_has hy
    · exact absurd rfl (S.nofree _ (PySem.mem_of_lookup hy))
  · exact Nat.le_of_lt (x.above y c (PySem.mem_of_lookup h))
  · have hi : i < vs.length := by
      unfold start at h2
      by_cases hi : i < vs.length
      · exact hi
      · rw [List.getElem?_append_right (by simpa using hi)] at h2
        rw [List.getElem?_replicate] at h2
        split at h2 <;> cases h2
    have ha : vs[i]? = some v := by
      unfold start at h2
      rw [List.getElem?_append_left (by simpa using hi), List.getElem?_map] at h2
      cases e : vs[i]? with
      | none => rw [e] at h2; cases h2
      | some a => rw [e] at h2; cases h2; rfl
    obtain ⟨u, hu, rv⟩ := r.get ha
    have hp : ps[i]? = some y := by
      rw [← S.pre, List.getElem?_take_of_lt (by omega)]; exact h1
    have ndP : ps.Nodup := by rw [← S.pre]; exact S.nd.sublist (List.take_sublist _ _)
    refine ⟨u, rv, ?_⟩
    rcases S.par y (List.mem_of_getElem? hp) with k | k
    · exact .inl ⟨k, bindL_get ndP hp hu k⟩
    · obtain ⟨c, e⟩ := cell_has (n := s.heap.objs.size + 1) k
      refine .inr ⟨.inl k, c, e, ?_⟩
      have q := x.cell y c e
      rw [bindC_get ndP hp hu (by show scope.names.lookup y ≠ _; rw [k]; decide)] at q
      exact q
  · exact e0.hok.fresh (Nat.le_of_lt (x.above y c (PySem.mem_of_lookup h)))
  · unfold start
    show _ = N.length
    rw [List.length_append, List.length_map, List.length_replicate]
    omega
theorem fn_of {CX : CXT} {P : Program} {w : World} {K : PySem.W.Frag} {mg : Str → Option Value} {base : Heap} {k : Nat} {f : Addr} {name qual : Str} {params : Arguments} {body : List Stmt} {scope : Scope} {dV kV doc pm cdv ct oc : Value} {an od : Option Addr}
    {osl : Array (Option Value)} {N ps : List Str} {sp : Sp} (lk : K.lookup f = some ⟨oc, od, .func (PySem.W.fnOf name qual params body scope dV kV doc pm an cdv ct), osl⟩) (hcd : PySem.W.codeIn K cdv qual = true) (S : FnScope N ps scope)
    (len : ∀ vs H Q E, sp vs H Q E → vs.length = ps.length)
    (hbody : ∀ (A : Around) (outer : List Env) (s : Shared) (H : Hp) (vs : List V) (Q : VK) (E : XK), Room k (A.deeper (envOfC qual scope s.heap.objs.size f cdv)) → sp vs H Q E →
      ∃ t, PSs (cxOf CX P w K mg base N qual scope f cdv A outer s H E) body t ∧ t { nx := fun _ H' => Q .non H', rt := Q } (start N vs) H) :
    FnOk P w K mg base CX (k + 1) f (PySem.W.fnOf name qual params body scope dV kV doc pm an cdv ct) ps sp := by
  refine ⟨len, fun A outer s H args us vs Q E hr e0 hb r hsp => ?_⟩
  have hl := len _ _ _ _ hsp
  have KX : K.In s.heap := e0.mod.kin.keeps fun b o e => (e0.bs b o e).1
  have lim : s.heap.NoLimit := e0.mod.nolimit.keeps fun b o e => (e0.bs b o e).1
  have hkind : ∀ y ∈ ps.zip us, scope.names.lookup y.1 = some .local ∨ (scope.names.lookup y.1 = some .cell ∧ ((cellsFrom (s.heap.objs.size + 1) scope.names []).lookup y.1).isSome = true) := fun ⟨n, v⟩ hy => by
    rcases S.par n (List.of_mem_zip hy).1 with q | q
    · exact .inl q
    · exact .inr ⟨q, PySem.W.cellsFrom_some _ _ _ (.inl q)⟩
  refine codeAny_call_function hr.depth (KX _ _ lk) rfl S.co S.gen rfl (PySem.W.codeRec_of KX hcd) (hb _ _ _ _ ?_)
  refine wpAny_newFunctionEnv_cells S.kind hkind fun env he s1 x => ?_
  subst he
  refine ⟨lim.keeps x.toInCall.keep, codeAny_func ?_⟩
  obtain ⟨t, ht, hq⟩ := hbody A outer s H vs Q E (hr.deeper _) hsp
  have I : Inv (cxOf CX P w K mg base N qual scope f cdv A outer s H E) [] (start N vs) H s1 := inv_start S hr.hd e0 hl r x
  refine wpAny_mono (ht [] s1 (start N vs) H _ I hq) (fun fl s' hs => ?_) fun e s' hs => hs
  have fin : ∀ {σ' : St} {H' : Hp} {v : V} {u : Value}, Inv (cxOf CX P w K mg base N qual scope f cdv A outer s H E) [] σ' H' s' → RelV v u → Q v H' → CE outer P w H s Q u s' :=
    fun {σ' H' v u} J rv q => ⟨v, H', J.os, J.bare, J.base, J.hok, rv, q⟩
  cases fl with
  | ret u =>
    obtain ⟨v, σ', H', J, rv, q⟩ := hs
    exact fin J rv q
  | next =>
    obtain ⟨σ', H', J, q⟩ := hs
    exact fin (v := V.non) (u := Value.none) J rfl q
  | brk =>
    obtain ⟨_, _, _, q⟩ := hs
    exact False.elim q
  | cont =>
    obtain ⟨_, _, _, q⟩ := hs
    exact False.elim q
end L2
namespace L2
open PySem PySem.Spec PyProof.Rows
section
variable {X : Cx} {x : Str} {p pos : Pos} {e : Expr} {es : List Expr} {t : TA} {id T : String} {r : List V → Hp → VK → Prop}
def tCB (r : List V → Hp → VK → Prop) (t : TA) : TE := fun σ H Q => t σ H fun vs H1 => r vs H1 Q
theorem pe_callB (hc : CallR X (.builtin id) r) (hg : Gl X x) (hm : X.mg x = none) (hv : bootBuiltins x = some (.builtin id)) (ha : PA X (e :: es) t) (hn : x ≠ "__name__" := by decide) (hdb : (x == ("__debug__" : Str)) = false := by decide)
    (he : starEach (e :: es) X.env = (false, eval e X.env) :: starEach es X.env := by rfl) (hpl : (backTo pos (starEach es X.env)).any (·.1) = false := by rfl) : PE X (.Call (.Name x p) (e :: es) [] pos) (tCB r t) := by
  intro pins s σ H Q I h
  refine wpAny_Call_Name_kw (ld_blt I hg hm hv ?_ hn hdb)
  exact PyProof.Rows.callWith_builtin1 (thn (ha pos pins s σ H _ I h) fun us s1 ⟨vs, H1, I1, r1, q1⟩ => hc pins s1 σ H1 vs us Q I1 r1 q1) he hpl
theorem pe_callTy (hc : CallR X (.type T) r) (hg : Gl X x) (hm : X.mg x = none) (hv : bootBuiltins x = some (.type T)) (ha : PA X (e :: es) t) (hn : x ≠ "__name__" := by decide) (hdb : (x == ("__debug__" : Str)) = false := by decide)
    (he : starEach (e :: es) X.env = (false, eval e X.env) :: starEach es X.env := by rfl) (hpl : (backTo pos (starEach es X.env)).any (·.1) = false := by rfl) : PE X (.Call (.Name x p) (e :: es) [] pos) (tCB r t) := by
  intro pins s σ H Q I h
  refine wpAny_Call_Name_kw (ld_blt I hg hm hv ?_ hn hdb)
  exact PyProof.Rows.callWith_type1 (thn (ha pos pins s σ H _ I h) fun us s1 ⟨vs, H1, I1, r1, q1⟩ => hc pins s1 σ H1 vs us Q I1 r1 q1) he hpl
end
end L2
namespace HT
open PySem PyProof.Rows
section
open PySem.SeqAt
open PySem.AutoSeq1 (wpAny_loadPart')
open PySem.MeetsSeq PySem.MeetsSeq2 PySem.MeetsSeq3
end
section
variable {prog : Program} {w : World} {A : Around} {E : Value → Shared → Prop} {s : Shared}
def sIx (n d : Nat) : Option Int → Nat
  | none => d
  | some v => if v < 0 then (v + (n : Int)).toNat else min v.toNat n
theorem sIx_le (n d : Nat) (hd : d ≤ n) (o : Option Int) : sIx n d o ≤ n := by
  cases o with
  | none => exact hd
  | some v =>
    show (if v < 0 then (v + (n : Int)).toNat else min v.toNat n) ≤ n
    by_cases hv : v < 0
    · rw [if_pos hv]; omega
    · rw [if_neg hv]; exact Nat.min_le_right _ _
theorem clip_eq (v : Int) (n d : Nat) : (if v < 0 then max (v + (n : Int)) 0 else min v (n : Int)) = ((sIx n d (some v) : Nat) : Int) := by
  show (if v < 0 then max (v + (n : Int)) 0 else min v (n : Int)) = (((if v < 0 then (v + (n : Int)).toNat else min v.toNat n) : Nat) : Int)
  by_cases hv : v < 0
  · simp only [if_pos hv]; omega
  · simp only [if_neg hv]; omega
theorem adjust_gen (lo hi : Option Int) (n : Nat) : Builtin.Slice.sliceAdjust lo hi 1 (n : Int) = (((sIx n 0 lo : Nat) : Int), ((sIx n n hi : Nat) : Int)) := by
  have h1 : ¬ ((1 : Int) < 0) := by omega
  unfold Builtin.Slice.sliceAdjust
  simp only [h1, if_false]
  refine Prod.ext ?_ ?_
  · cases lo with
    | none => rfl
    | some v => exact clip_eq v n 0
  · cases hi with
    | none => rfl
    | some v => exact clip_eq v n n
theorem places_gen (i j : Nat) : Builtin.Slice.slicePlaces (i : Int) (j : Int) 1 = j - i := by
  unfold Builtin.Slice.slicePlaces
  have h1 : (1 : Int) > 0 := by omega
  simp only [h1, if_true, Int.ediv_one]
  split <;> omega
theorem slicePart_ {v : Value} {o : Option Int} {Q : Option Int → Shared → Prop} (p : IsPart v o) (h : Q o s) : wpAny (model prog w) A (Builtin.Slice.slicePartIndex v) Q E s := by
  cases p with
  | none => exact slicePart_none h
  | int i t => exact slicePart_int h
theorem sliceApplied_gen {sl : Addr} {vl vu : Value} {lo hi : Option Int} {n : Nat} {Q : Int × Int × Nat → Shared → Prop} (hs : s.heap.IsSliceOf sl vl vu .none) (pl : IsPart vl lo) (pu : IsPart vu hi)
    (h : Q (((sIx n 0 lo : Nat) : Int), 1, sIx n n hi - sIx n 0 lo) s) : wpAny (model prog w) A (Builtin.Slice.sliceApplied (.ref sl) (pure (n : Int))) Q E s := by
  obtain ⟨os, hos, hcs, hds⟩ := id hs
  unfold Builtin.Slice.sliceApplied Builtin.Slice.sliceFields
  refine wpAny_bind (wpAny_bind (wpAny_field hos hds (x := vl) rfl (wpAny_bind (wpAny_field hos hds (x := vu) rfl (wpAny_bind (wpAny_field hos hds (x := .none) rfl (wpAny_pure ?_)))))))
  refine wpAny_bind (slicePart_none ?_)
  show wpAny _ _ (if ((1 : Int) == 0) = true then _ else _) _ _ s
  rw [if_neg (by decide)]
  refine wpAny_bind (slicePart_ pl (wpAny_bind (slicePart_ pu (wpAny_bind (wpAny_pure ?_)))))
  show wpAny _ _ (match Builtin.Slice.sliceAdjust lo hi 1 (n : Int) with | (lo, hi) => pure (lo, (1 : Int), Builtin.Slice.slicePlaces lo hi 1)) _ _ s
  rw [adjust_gen lo hi n]
  show wpAny _ _ (pure (((sIx n 0 lo : Nat) : Int), (1 : Int), Builtin.Slice.slicePlaces ((sIx n 0 lo : Nat) : Int) ((sIx n n hi : Nat) : Int) 1)) _ _ s
  rw [places_gen]
  exact wpAny_pure h
theorem pick_gen (xs : Array Value) (i k : Nat) : ((List.range k).filterMap fun (m : Nat) => xs[((i : Int) + (m : Int) * 1).toNat]?).toArray = ((xs.toList.drop i).take k).toArray := by
  have e : (fun (m : Nat) => xs[((i : Int) + (m : Int) * 1).toNat]?) = fun m => xs[i + m]? := by
    funext m
    have : ((i : Int) + (m : Int) * 1).toNat = i + m := by omega
    rw [this]
  rw [e]
  have := pick_run xs i k
  rw [List.filterMap_map] at this
  have e2 : ((fun x => xs[x]?) ∘ fun x => i + x) = fun m => xs[i + m]? := rfl
  rw [e2] at this
  rw [this]
theorem getItem_tuple_cut {t sl : Addr} {items : Array Value} {vl vu : Value} {lo hi : Option Int} {Q : Value → Shared → Prop} (ht : IsTup s.heap t items) (hs : s.heap.IsSliceOf sl vl vu .none) (pl : IsPart vl lo) (pu : IsPart vu hi)
    (hw : ¬ (sIx items.size 0 lo = 0 ∧ sIx items.size items.size hi = items.size))
    (h : Q (.ref s.heap.objs.size) { s with heap := s.heap.push { cls := .type "tuple", data := .seq ((items.toList.drop (sIx items.size 0 lo)).take (sIx items.size items.size hi - sIx items.size 0 lo)).toArray } })
    (hsz : items.size ≤ sizeLine) : wpAny (model prog w) A (getItem (.ref t) (.ref sl)) Q E s := by
  have htake : sizeOk (.seq ((items.toList.drop (sIx items.size 0 lo)).take (sIx items.size items.size hi - sIx items.size 0 lo)).toArray) := by
    show ((items.toList.drop (sIx items.size 0 lo)).take (sIx items.size items.size hi - sIx items.size 0 lo)).toArray.size ≤ sizeLine
    rw [List.size_toArray, List.length_take, List.length_drop, Array.length_toList]
    omega
  have hj : sIx items.size items.size hi ≤ items.size := sIx_le _ _ (Nat.le_refl _) hi
  obtain ⟨os, hos, hcs, hds⟩ := id hs
  have hTs : s.TypeIs (.ref sl) "slice" := ⟨os, hos, hcs⟩
  unfold getItem
  try with_reducible refine wpAny_holding ?_
  first | refine wpAny_bind (wpAny_pure ?_) | skip
  refine wpAny_bind (wpAny_sequenceKey ht.typeIs (by decide) ?_)
  refine wpAny_bind (wpAny_callSpecial?_slot (name := Str.ofString "__getitem__") ht.typeIs PyProof.Rows.slot_tuple_getitem
    (wpAny_call_entry PyProof.Rows.slot_tuple_getitem ht.typeIs entry_tuple_getitem ?_ (args_tuple_getitem _ _)))
  show wpAny _ _ (Builtin.Tuple.tupleItemsOf (.ref t) >>= _) _ _ s
  refine wpAny_bind (tupleItemsOf_ ht ?_)
  refine wpAny_bind (wpAny_typeOf hTs ?_)
  rw [if_pos (by decide)]
  refine wpAny_bind (sliceApplied_gen hs pl pu ?_)
  have hno : ¬ ((((sIx items.size 0 lo : Nat) : Int) == 0 && (1 : Int) == 1 && (sIx items.size items.size hi - sIx items.size 0 lo) == items.size) = true) := by
    intro q
    rw [Bool.and_eq_true, Bool.and_eq_true] at q
    have q1 : ((sIx items.size 0 lo : Nat) : Int) = 0 := eq_of_beq q.1.1
    have q2 : sIx items.size items.size hi - sIx items.size 0 lo = items.size := eq_of_beq q.2
    exact hw ⟨by omega, by omega⟩
  show wpAny _ _ (if (((sIx items.size 0 lo : Nat) : Int) == 0 && (1 : Int) == 1 && (sIx items.size items.size hi - sIx items.size 0 lo) == items.size) = true then _ else _) _ _ s
  rw [if_neg hno, pick_gen]
  first
    | exact wpAny_bind (m := Builtin.Tuple.tupleExact _) (wpAny_newObj_type (wpAny_pure ⟨_, rfl, wpAny_pure h⟩) htake)
    | exact wpAny_bind (m := Builtin.Tuple.tupleExact _) (wpAny_newObj_type (wpAny_bind (wpAny_pure (wpAny_pure ⟨_, rfl, wpAny_pure h⟩))) htake)
    | exact wpAny_bind (wpAny_bind (m := Builtin.Tuple.tupleExact _) (wpAny_newObj_type (wpAny_pure (wpAny_pure ⟨_, rfl, wpAny_pure h⟩)) htake))
    | exact wpAny_bind (wpAny_bind (m := Builtin.Tuple.tupleExact _) (wpAny_newObj_type (wpAny_pure ⟨_, rfl, wpAny_pure h⟩) htake))
end
end HT
namespace L2
open PySem PySem.Spec PyProof.Rows
abbrev TO := St → Hp → (Option Int → Hp → Prop) → Prop
def PO (X : Cx) (e : Option Expr) (t : TO) : Prop :=
  ∀ (pins : List (Addr × Obj)) (s : Shared) (σ : St) (H : Hp) (Q : Option Int → Hp → Prop), Inv X pins σ H s → t σ H Q →
    wpAny (model X.prog X.w) X.A (evalPart e X.env) (fun u s' => ∃ o H', Inv X pins σ H' s' ∧ IsPart u o ∧ Q o H') X.xe s
def tNoPart : TO := fun _ H Q => Q none H
def tPart (t : TE) : TO := fun σ H Q => t σ H fun x H1 => ∃ i, x = .int i ∧ Q (some i) H1
section
variable {X : Cx} {e : Expr} {te : TE} {lo hi : Option Expr} {tl th : TO} {pos p2 : Pos}
theorem po_none : PO X none tNoPart := by
  intro pins s σ H Q I h
  rw [evalPart_none]
  exact wpAny_pure ⟨none, H, I, .none, h⟩
theorem po_some (h : PE X e te) : PO X (some e) (tPart te) := by
  intro pins s σ H Q I hw
  rw [evalPart_some]
  refine thn (h pins s σ H _ I hw) fun u s1 ⟨x, H1, I1, r1, q1⟩ => ?_
  obtain ⟨i, rfl, q⟩ := q1
  obtain ⟨t, rfl⟩ := r1
  exact ⟨some i, H1, I1, .int i t, q⟩
def SlR (X : Cx) (r : V → Option Int → Option Int → Hp → VK → Prop) : Prop :=
  ∀ (pins : List (Addr × Obj)) (s : Shared) (σ : St) (H : Hp) (x : V) (v vl vu : Value) (lo hi : Option Int) (sl : Addr) (Q : VK), Inv X pins σ H s → RelV x v → s.heap.IsSliceOf sl vl vu .none → IsPart vl lo → IsPart vu hi → r x lo hi H Q →
    ∃ T id, typeLookup (.type T) "__getitem__" = pure (some (.builtin id)) ∧ s.TypeIs v T ∧ wpAny (model X.prog X.w) X.A (getItem v (.ref sl)) (EP X pins σ Q) X.xe s
def tSl (r : V → Option Int → Option Int → Hp → VK → Prop) (te : TE) (tl th : TO) : TE := fun σ H Q => te σ H fun x H1 => tl σ H1 fun l H2 => th σ H2 fun u H3 => r x l u H3 Q
theorem pe_slice {r : V → Option Int → Option Int → Hp → VK → Prop} (hr : SlR X r) (he : PE X e te) (hl : PO X lo tl) (hu : PO X hi th) : PE X (.Subscript e (.Slice lo hi none p2) pos) (tSl r te tl th) := by
  intro pins s σ H Q I h
  refine Subscript_ (thn (he pins s σ H _ I h) fun v s1 ⟨x, H1, I1, r1, q1⟩ => ?_)
  refine wpAny_Slice (thn (hl pins s1 σ H1 _ I1 q1) fun vl s2 ⟨l, H2, I2, pl, q2⟩ => thn (hu pins s2 σ H2 _ I2 q2) fun vu s3 ⟨u, H3, I3, pu, q3⟩ => ?_)
  rw [evalPart_none]
  refine wpAny_pure ?_
  have I4 : Inv X pins σ H3 { s3 with heap := s3.heap.push { cls := .type "slice", data := .fields #[vl, vu, .none] } } := I3.kept (t' := s3.toks) fun b ob q => Heap.get?_push_of_some _ q
  obtain ⟨T, id, hT, ht, hg⟩ := hr pins { s3 with heap := s3.heap.push { cls := .type "slice", data := .fields #[vl, vu, .none] } } σ H3 x v vl vu l u s3.heap.objs.size Q I4 r1 (Heap.IsSliceOf.new ..) pl pu q3
  show wpAny (model X.prog X.w) X.A (subscriptTail e (.Slice lo hi none p2) v (.ref s3.heap.objs.size)) (EP X pins σ Q) X.xe { s3 with heap := s3.heap.push { cls := .type "slice", data := .fields #[vl, vu, .none] } }
  exact tail_any (ops := [.ref s3.heap.objs.size, v]) ht hT hg (by with_unfolding_all rfl)
def cutV (xs : List V) (lo hi : Option Int) : List V := (xs.drop (HT.sIx xs.length 0 lo)).take (HT.sIx xs.length xs.length hi - HT.sIx xs.length 0 lo)
theorem cutV_length (xs : List V) (lo hi : Option Int) : (cutV xs lo hi).length ≤ xs.length := by
  unfold cutV
  rw [List.length_take, List.length_drop]
  omega
def rSlT (K : PySem.W.Frag) : V → Option Int → Option Int → Hp → VK → Prop := fun x lo hi H Q => ∃ a xs, x = .ref a ∧ SqT K H a xs ∧
  ¬ (HT.sIx xs.length 0 lo = 0 ∧ HT.sIx xs.length xs.length hi = xs.length) ∧ ∀ p, H p = none → Q (.ref p) (upd H p (.tup (cutV xs lo hi)))
theorem sl_tup : SlR X (rSlT X.K) := by
  intro pins s σ H x v vl vu lo hi sl Q I rx hs pl pu h
  obtain ⟨a, xs, rfl, hx, hw, q⟩ := h
  cases rx
  obtain ⟨its, r, ht, hz⟩ := I.tuple hx
  have hlen : its.toArray.size = xs.length := by rw [List.size_toArray]; exact r.length.symm
  refine ⟨"tuple", _, PyProof.Rows.slot_tuple_getitem.lookup, ht.typeIs, ?_⟩
  refine HT.getItem_tuple_cut ht hs pl pu (by rw [hlen]; exact hw) ?_ (by rw [hlen]; exact hz)
  rw [hlen]
  refine ⟨.ref s.heap.objs.size, _, I.laid (t' := s.toks) (o := .tup (cutV xs lo hi)) (fun b ob q => Heap.get?_push_of_some _ q) (Nat.le_refl _) ?_, rfl, q _ (I.hok.fresh (Nat.le_refl _))⟩
  exact ⟨Nat.le_trans (cutV_length xs lo hi) hz, _, (r.drop (HT.sIx xs.length 0 lo)).take (HT.sIx xs.length xs.length hi - HT.sIx xs.length 0 lo), IsTup.new _ _⟩
end
end L2
namespace L2
open PySem PySem.Spec PyProof.Rows
def ixN (n : Nat) (i : Int) : Option Nat := if 0 ≤ i then (if i < n then some i.toNat else none) else if -(n : Int) ≤ i then some (i + n).toNat else none
def atI {α : Type} (xs : List α) (i : Int) : Option α := (ixN xs.length i).bind fun j => xs[j]?
theorem ixN_seq {n : Nat} {i : Int} {j : Nat} (h : ixN n i = some j) : seqIndex? i n = some j ∧ j < n ∧ -(n : Int) ≤ i ∧ i < n := by
  unfold ixN at h
  by_cases h0 : 0 ≤ i
  · rw [if_pos h0] at h
    by_cases h1 : i < n
    · rw [if_pos h1] at h
      have e : i.toNat = j := Option.some.inj h
      exact ⟨by rw [seqIndex_of h0 h1, e], by omega, by omega, h1⟩
    · rw [if_neg h1] at h; cases h
  · rw [if_neg h0] at h
    by_cases h1 : -(n : Int) ≤ i
    · rw [if_pos h1] at h
      have e : (i + n).toNat = j := Option.some.inj h
      exact ⟨by rw [seqIndex_neg (by omega) h1, e], by omega, h1, by omega⟩
    · rw [if_neg h1] at h; cases h
theorem atI_get {α : Type} {xs : List α} {i : Int} {v : α} (h : atI xs i = some v) : ∃ j, seqIndex? i xs.length = some j ∧ xs[j]? = some v ∧ j < xs.length ∧ -(xs.length : Int) ≤ i ∧ i < xs.length := by
  unfold atI at h
  cases e : ixN xs.length i with
  | none => rw [e] at h; cases h
  | some j =>
    rw [e] at h
    obtain ⟨h1, h2, h3, h4⟩ := ixN_seq e
    exact ⟨j, h1, h, h2, h3, h4⟩
theorem atI_nat {α : Type} {xs : List α} {j : Nat} {v : α} (h : xs[j]? = some v) : atI xs (j : Int) = some v := by
  have hj : j < xs.length := (List.getElem?_eq_some_iff.mp h).1
  have e : ixN xs.length (j : Int) = some j := by
    unfold ixN
    rw [if_pos (by omega), if_pos (by omega)]; simp
  unfold atI; rw [e]; exact h
def PlainIx (b : Expr) : Prop := ∀ o i, subscripted b false o i = operate [o, i] (getItem o i)
def IxR (X : Cx) (r : R2) : Prop :=
  ∀ (value slice : Expr) (pins : List (Addr × Obj)) (s : Shared) (σ : St) (H : Hp) (x y : V) (v u : Value) (Q : VK), Inv X pins σ H s → RelV x v → RelV y u → r x y H Q →
    subscripted slice false v u = operate [v, u] (getItem v u) → wpAny (model X.prog X.w) X.A (subscriptTail value slice v u) (EP X pins σ Q) X.xe s
def MtR (X : Cx) (id : String) (r : V → List V → Hp → VK → Prop) : Prop :=
  ∀ (pins : List (Addr × Obj)) (s : Shared) (σ : St) (H : Hp) (x : V) (xs : List V) (v : Value) (us : List Value) (Q : VK), Inv X pins σ H s → RelV x v → Vals xs us → r x xs H Q →
    wpAny (model X.prog X.w) X.A (call (.builtin id) (v :: us)) (EP X pins σ Q) X.xe s
section
variable {X : Cx} {a b : Expr} {ta tb : TE} {pos : Pos}
theorem pe_ix {r : R2} (hr : IxR X r) (ha : PE X a ta) (hb : PE X b tb) (hs : PlainIx b) : PE X (.Subscript a b pos) (tOp r ta tb) := by
  intro pins s σ H Q I h
  exact Subscript_ (binT ha hb I h fun v u s2 x y H2 I2 rx ry q => hr a b pins s2 σ H2 x y v u Q I2 rx ry q (hs _ _))
def rIxL (K : PySem.W.Frag) : R2 := fun x y H Q => ∃ p xs i v, x = .ref p ∧ y = .int i ∧ SqL K H p xs ∧ atI xs i = some v ∧ Q v H
def rIxT (K : PySem.W.Frag) : R2 := fun x y H Q => ∃ p xs i v, x = .ref p ∧ y = .int i ∧ SqT K H p xs ∧ atI xs i = some v ∧ Q v H
theorem ix_list : IxR X (rIxL X.K) := by
  intro value slice pins s σ H x y v u Q I rx ry h hs
  obtain ⟨p, xs, i, z, rfl, rfl, hq, he, q⟩ := h
  cases rx
  obtain ⟨t, rfl⟩ := ry
  obtain ⟨its, r, pl, hz⟩ := I.list hq
  obtain ⟨j, h1, h2, h3, h4, h5⟩ := atI_get he
  obtain ⟨w, ew, rw'⟩ := r.get h2
  have hl := r.length
  have hn := line63
  have fin : EP X pins σ Q w s := ⟨z, H, I, rw', q⟩
  by_cases h0 : 0 ≤ i
  · have hj : i.toNat = j := by
      rw [seqIndex_of h0 h5] at h1
      exact Option.some.inj h1
    exact item_listR pl.isList h0 (by omega) (by rw [hj]; simpa using ew) fin hs
  · have hj : (i + (its.toArray.size : Int)).toNat = j := by
      rw [seqIndex_neg (by omega) h4] at h1
      rw [List.size_toArray, ← hl]
      exact Option.some.inj h1
    exact subscriptTail_builtinR (x := w) pl.isList.typeIs slot_list_getitem.lookup
      (wpAny_getItem_list_neg (Q := fun r s' => r = w ∧ EP X pins σ Q r s') pl.isList (by omega) (by rw [List.size_toArray] <;> omega) (by omega) (by rw [hj]; simpa using ew) ⟨rfl, fin⟩) hs
theorem ix_tup : IxR X (rIxT X.K) := by
  intro value slice pins s σ H x y v u Q I rx ry h hs
  obtain ⟨p, xs, i, z, rfl, rfl, hq, he, q⟩ := h
  cases rx
  obtain ⟨t, rfl⟩ := ry
  obtain ⟨its, r, pl, hz⟩ := I.tuple hq
  obtain ⟨j, h1, h2, h3, h4, h5⟩ := atI_get he
  obtain ⟨w, ew, rw'⟩ := r.get h2
  have hl := r.length
  have hn := line63
  have fin : EP X pins σ Q w s := ⟨z, H, I, rw', q⟩
  exact subscriptTail_builtinR (x := w) pl.typeIs slot_tuple_getitem.lookup
    (getItem_tuple (j := j) (Q := fun r s' => r = w ∧ EP X pins σ Q r s') pl (by omega) (by omega) (by rw [List.size_toArray, ← hl]; exact h1) (by simpa using ew) ⟨rfl, fin⟩) hs
theorem mapSeq_set (its : List Value) (n j : Nat) (u : Value) : Obj.mapSeq (·.setIfInBounds j u) { cls := .type "list", data := .seq its.toArray n } = { cls := .type "list", data := .seq (its.set j u).toArray n } := by
  simp [Obj.mapSeq]
theorem Inv.lst {pins : List (Addr × Obj)} {σ : St} {H : Hp} {s : Shared} {p : Addr} {xs : List V} (I : Inv X pins σ H s) (h : H p = some (.lst xs)) :
    ∃ (its : List Value) (n : Nat), Vals xs its ∧ s.heap.get? p = some { cls := .type "list", data := .seq its.toArray n } ∧ xs.length ≤ sizeLine := by
  obtain ⟨z, its, n, r, e⟩ := I.hok p _ h
  exact ⟨its, n, r, e, z⟩
theorem Inv.lstUpd {pins : List (Addr × Obj)} {σ : St} {H : Hp} {s : Shared} {p : Addr} {xs ys : List V} {its its' : List Value} {n n' : Nat} {f : Obj → Obj} (I : Inv X pins σ H s) (h : H p = some (.lst xs))
    (ho : s.heap.get? p = some { cls := .type "list", data := .seq its.toArray n }) (hf : f { cls := .type "list", data := .seq its.toArray n } = { cls := .type "list", data := .seq its'.toArray n' }) (r : Vals ys its') (hz : ys.length ≤ sizeLine) (t : Nat) :
    Inv X pins σ (upd H p (.lst ys)) { s with heap := s.heap.update p f, toks := t } := by
  have e : (s.heap.update p f).get? p = some { cls := .type "list", data := .seq its'.toArray n' } := by
    rw [Heap.get?_update_self f ho (by rw [hf] <;> rfl), hf]
  refine I.write (x := p) (e := p) (by rw [h]; trivial) (.inl rfl) (fun b u hb q => (Heap.get?_update_other _ _ (Ne.symm hb)).trans q) ⟨_, e⟩ ?_
  exact ⟨hz, its', n', r, e⟩
def rSetL : V → V → V → Hp → (Hp → Prop) → Prop := fun o i v H Q => ∃ p xs k j, o = .ref p ∧ i = .int k ∧ H p = some (.lst xs) ∧ ixN xs.length k = some j ∧ Q (upd H p (.lst (xs.set j v)))
theorem set_list : PSet X rSetL := by
  intro pins s σ H o i v ov iv u Q I ro ri rv h
  obtain ⟨p, xs, k, j, rfl, rfl, hp, hj, q⟩ := h
  cases ro
  obtain ⟨t, rfl⟩ := ri
  obtain ⟨its, n, r, ho, hz⟩ := I.lst hp
  obtain ⟨h1, h2, h3, h4⟩ := ixN_seq hj
  have hl := r.length
  have hn := line63
  have I' : Inv X pins σ (upd H p (.lst (xs.set j v))) { s with heap := s.heap.update p (Obj.mapSeq (·.setIfInBounds j u)) } :=
    I.lstUpd hp ho (mapSeq_set its n j u) (r.set rv j) (by rw [List.length_set]; exact hz) s.toks
  by_cases h0 : 0 ≤ k
  · have hk : k.toNat = j := by
      rw [seqIndex_of h0 h4] at h1
      exact Option.some.inj h1
    exact PySem.W.ki_setAt ho h0 (by omega) (by rw [List.size_toArray, ← hl]; exact h4) (by rw [hk]; exact ⟨_, I', q⟩)
  · have hk : (k + (its.toArray.size : Int)).toNat = j := by
      rw [seqIndex_neg (by omega) h3] at h1
      rw [List.size_toArray, ← hl]
      exact Option.some.inj h1
    exact PySem.W.ki_setBack ho (by omega) (by rw [List.size_toArray, ← hl]; exact h3) (by omega) (by rw [hk]; exact ⟨_, I', q⟩)
theorem slice_bounds (lo hi : Option Int) (n : Nat) : (sliceBounds lo hi none n).1 = ((HT.sIx n 0 lo : Nat) : Int) ∧ (sliceBounds lo hi none n).2.1 = ((HT.sIx n n hi : Nat) : Int) ∧ (sliceBounds lo hi none n).2.2 = 1 := by
  refine ⟨?_, ?_, rfl⟩
  · cases lo with
    | none => simp [sliceBounds, HT.sIx]
    | some i =>
      simp only [sliceBounds, HT.sIx, Option.getD_none, show (1 : Int) > 0 by decide, if_true]
      by_cases h : i < 0
      · simp only [h, if_true] <;> omega
      · simp only [h, if_false] <;> omega
  · cases hi with
    | none => simp [sliceBounds, HT.sIx]
    | some i =>
      simp only [sliceBounds, HT.sIx, Option.getD_none, show (1 : Int) > 0 by decide, if_true]
      by_cases h : i < 0
      · simp only [h, if_true] <;> omega
      · simp only [h, if_false] <;> omega
theorem slicePick_cut (its : List Value) (lo hi : Option Int) : slicePick its.toArray lo hi none = ((its.drop (HT.sIx its.length 0 lo)).take (HT.sIx its.length its.length hi - HT.sIx its.length 0 lo)).toArray := by
  obtain ⟨h1, h2, h3⟩ := slice_bounds lo hi its.toArray.size
  unfold slicePick
  rw [h1, h2, h3]
  simp only [sliceRange_one, pick_run, List.size_toArray] <;> rfl
def rSlL (K : PySem.W.Frag) : V → Option Int → Option Int → Hp → VK → Prop := fun x lo hi H Q => ∃ a xs, x = .ref a ∧ SqL K H a xs ∧ ∀ p, H p = none → Q (.ref p) (upd H p (.lst (cutV xs lo hi)))
theorem sl_list : SlR X (rSlL X.K) := by
  intro pins s σ H x v vl vu lo hi sl Q I rx hs pl pu h
  obtain ⟨a, xs, rfl, hx, q⟩ := h
  cases rx
  obtain ⟨its, r, ht, hz⟩ := I.list hx
  have hlen := r.length
  refine ⟨"list", _, slot_list_getitem.lookup, ht.isList.typeIs, ?_⟩
  refine wpAny_getItem_list_slice ht.isList hs pl pu .none (by simp) ?_ (by rw [List.size_toArray] <;> omega)
  rw [slicePick_cut, ← hlen]
  refine ⟨.ref s.heap.objs.size, _, I.laid (t' := s.toks) (o := .lst (cutV xs lo hi)) (fun b ob q => Heap.get?_push_of_some _ q) (Nat.le_refl _) ?_, rfl, q _ (I.hok.fresh (Nat.le_refl _))⟩
  exact ⟨Nat.le_trans (cutV_length xs lo hi) hz, _, 0, (r.drop (HT.sIx xs.length 0 lo)).take (HT.sIx xs.length xs.length hi - HT.sIx xs.length 0 lo), Heap.get?_push_size _ rfl⟩
theorem call_len_seq : CallR X (.builtin "len") (fun xs H Q => ∃ p ys, xs = [.ref p] ∧ (SqL X.K H p ys ∨ SqT X.K H p ys) ∧ Q (.int ys.length) H) := by
  intro pins s σ H xs us Q I r h
  obtain ⟨p, ys, rfl, hq, q⟩ := h
  obtain ⟨u, rfl, rx⟩ := vals1 r
  cases rx
  have hn := line63
  rcases hq with hq | hq
  · obtain ⟨its, r', pl, hz⟩ := I.list hq
    have hlen := r'.length
    exact Calls.call_len_list pl.isList (by simp only [List.size_toArray] <;> omega) ⟨.int ys.length, H, I.tok _, ⟨s.toks + 1, by rw [List.size_toArray, hlen]⟩, q⟩
  · obtain ⟨its, r', pl, hz⟩ := I.tuple hq
    have hlen := r'.length
    exact len_tuple pl (by simp only [List.size_toArray] <;> omega) ⟨.int ys.length, H, I.tok _, ⟨s.toks + 1, by rw [List.size_toArray, hlen]⟩, q⟩
theorem call_list_of : CallR X (.type "list") (fun xs H Q => ∃ p ys, xs = [.ref p] ∧ (SqL X.K H p ys ∨ SqT X.K H p ys) ∧ ∀ l, H l = none → Q (.ref l) (upd H l (.lst ys))) := by
  intro pins s σ H xs us Q I r h
  obtain ⟨p, ys, rfl, hq, q⟩ := h
  obtain ⟨u, rfl, rx⟩ := vals1 r
  cases rx
  have fin : ∀ (its : List Value), Vals ys its → ys.length ≤ sizeLine → ∀ (h' : Heap) (c' : Nat), (∀ b o', s.heap.get? b = some o' → h'.get? b = some o') →
      h'.get? s.heap.objs.size = some { cls := .type "list", dict := none, data := .seq its.toArray c', slots := #[] } → EP X pins σ Q (.ref s.heap.objs.size) { s with heap := h' } := fun its r' hz h' c' kp e =>
    ⟨.ref s.heap.objs.size, _, I.laid (t' := s.toks) kp (Nat.le_refl _) (show ObjOk X.prog X.w _ h' _ (.lst ys) from ⟨hz, its, c', r', e⟩), rfl, q _ (I.hok.fresh (Nat.le_refl _))⟩
  rcases hq with hq | hq
  · obtain ⟨its, r', pl, hz⟩ := I.list hq
    have hlen := r'.length
    obtain ⟨o, ho, hc, n, hd⟩ := pl.isList
    exact call_list_seq p (.inl rfl) ho hc hd (fun h' c' kp e => fin its r' hz h' c' kp e) (by simp only [List.size_toArray] <;> omega)
  · obtain ⟨its, r', pl, hz⟩ := I.tuple hq
    have hlen := r'.length
    obtain ⟨o, ho, hc, n, hd⟩ := pl
    exact call_list_seq p (.inr rfl) ho hc hd (fun h' c' kp e => fin its r' hz h' c' kp e) (by simp only [List.size_toArray] <;> omega)
def tyV (K : PySem.W.Frag) (T : String) (x : V) (H : Hp) : Prop := match x with
  | .str _ => T = "str"
  | .int _ => T = "int"
  | .ref p => (T = "list" ∧ ∃ xs, SqL K H p xs) ∨ (T = "tuple" ∧ ∃ o, K.lookup p = some o ∧ o.cls = .type "tuple" ∧ o.dict = none) ∨
      (T = "dict" ∧ ((∃ kvs, H p = some (.dK kvs)) ∨ (∃ kvs, H p = some (.dT kvs)) ∨ ∃ kvs, H p = some (.dG kvs))) ∨ (T = "set" ∧ ∃ S n, H p = some (.set S n))
  | _ => False
theorem tyV_is {pins : List (Addr × Obj)} {σ : St} {H : Hp} {s : Shared} {T : String} {x : V} {v : Value} (I : Inv X pins σ H s) (r : RelV x v) (ty : tyV X.K T x H) :
    s.TypeIs v T ∧ ∀ a, v = .ref a → ∃ ob, s.heap.get? a = some ob ∧ ob.dict = none := by
  cases x with
  | str z =>
    obtain ⟨t, rfl⟩ := r
    cases (show T = "str" from ty)
    exact ⟨typeIs_str s z t, fun _ e => nomatch e⟩
  | int i =>
    obtain ⟨t, rfl⟩ := r
    cases (show T = "int" from ty)
    exact ⟨typeIs_int s i t, fun _ e => nomatch e⟩
  | ref p =>
    cases r
    rcases ty with ⟨rfl, xs, hq⟩ | ⟨rfl, o, hk, hc, hd⟩ | ⟨rfl, hk⟩ | ⟨rfl, S, n, hk⟩
    · obtain ⟨its, _, pl, _⟩ := I.list hq
      refine ⟨pl.isList.typeIs, fun a e => ?_⟩
      cases e
      obtain ⟨o, n, e, c, hd, _⟩ := pl
      exact ⟨o, e, hd⟩
    · refine ⟨⟨o, I.kIn p o hk, hc⟩, fun a e => ?_⟩
      cases e
      exact ⟨o, I.kIn _ o hk, hd⟩
    · have z : ∃ o, s.heap.get? p = some o ∧ o.ExactDict := by
        rcases hk with ⟨kvs, hk⟩ | ⟨kvs, hk⟩ | ⟨kvs, hk⟩
        · obtain ⟨_, _, _, _, o, _, _, e, ex, _⟩ := I.hok p _ hk
          exact ⟨o, e, ex⟩
        · obtain ⟨_, _, _, _, o, _, _, e, ex, _⟩ := I.hok p _ hk
          exact ⟨o, e, ex⟩
        · obtain ⟨_, _, _, _, o, _, _, e, ex, _⟩ := I.hok p _ hk
          exact ⟨o, e, ex⟩
      obtain ⟨o, e, ex⟩ := z
      refine ⟨⟨o, e, ex.1⟩, fun a e2 => ?_⟩
      cases e2
      exact ⟨o, e, ex.2.1⟩
    · obtain ⟨o, _, _, _, e, ex, _⟩ := I.hok p _ hk
      refine ⟨⟨o, e, ex.1⟩, fun a e2 => ?_⟩
      cases e2
      exact ⟨o, e, ex.2.1⟩
  | _ => exact False.elim ty
def tBM0 (K : PySem.W.Frag) (T : String) (r : V → List V → Hp → VK → Prop) (to : TE) : TE := fun σ H Q => to σ H fun x H1 => tyV K T x H1 ∧ r x [] H1 Q
def tBM (K : PySem.W.Frag) (T : String) (r : V → List V → Hp → VK → Prop) (to : TE) (t : TA) : TE := fun σ H Q => to σ H fun x H1 => tyV K T x H1 ∧ t σ H1 fun xs H2 => r x xs H2 Q
variable {o e : Expr} {es : List Expr} {to : TE} {t : TA} {name : Str} {apos cpos : Pos} {T id : String} {r : V → List V → Hp → VK → Prop}
theorem pe_bm0 (pa : PlainAttrs T) (slot : Slot T name id) (hty : typeOf (.builtin id) = pure (.type "method_descriptor")) (hm : MtR X id r) (ho : PE X o to)
    (hbase : attributeBase o name X.env (eval o X.env) = eval o X.env := by rfl) (hline : (apos.endLine == cpos.line) = true := by rfl) : PE X (.Call (.Attribute o name apos) [] [] cpos) (tBM0 X.K T r to) := by
  intro pins s σ H Q I h
  refine wpAny_Call_method0_late hbase hline (thn (ho pins s σ H _ I h) fun v s1 ⟨x, H1, I1, r1, ty, q1⟩ => ?_)
  obtain ⟨h1, h2⟩ := tyV_is I1 r1 ty
  exact ⟨T, id, pa, slot, hty, h1, h2, Calls.callWith_builtin rfl (PySem.evalArgs_none (hm pins s1 σ H1 x [] v [] Q I1 r1 .nil q1))⟩
theorem pe_bm (pa : PlainAttrs T) (slot : Slot T name id) (hty : typeOf (.builtin id) = pure (.type "method_descriptor")) (hm : MtR X id r) (ho : PE X o to) (ha : PA X (e :: es) t)
    (hbase : attributeBase o name X.env (eval o X.env) = eval o X.env := by rfl)
    (hfew : ((backTo cpos (starEach (e :: es) X.env)).all (fun x => !x.1) && (backToKw cpos (keywordEach [] X.env)).all (fun x => x.1.isSome)
      && decide ((e :: es).length + ([] : List Keyword).length + (if ([] : List Keyword).isEmpty then 0 else 1) < 30)) = true := by rfl)
    (hline : (apos.endLine == cpos.line) = true := by rfl) (hs : starEach (e :: es) X.env = (false, eval e X.env) :: starEach es X.env := by rfl) (hplain : (backTo cpos (starEach es X.env)).any (·.1) = false := by rfl) :
    PE X (.Call (.Attribute o name apos) (e :: es) [] cpos) (tBM X.K T r to t) := by
  intro pins s σ H Q I h
  refine wpAny_Call_method_late hbase hfew hline rfl (thn (ho pins s σ H _ I h) fun v s1 ⟨x, H1, I1, r1, ty, q1⟩ => ?_)
  obtain ⟨h1, h2⟩ := tyV_is I1 r1 ty
  refine ⟨T, id, pa, slot, hty, h1, h2, ?_⟩
  have hA := ha cpos pins s1 σ H1 _ I1 q1
  rw [hs] at hA ⊢
  refine Calls.callWith_builtin (by show (false || (backTo cpos (starEach es X.env)).any (·.1)) = false; rw [hplain] <;> rfl) (Calls.evalArgs_plain ?_)
  exact thn hA fun us s2 ⟨vs, H2, I2, r2, q2⟩ => hm pins s2 σ H2 x vs v us Q I2 r1 r2 q2
end
end L2
namespace L2
open PySem PySem.Spec PyProof.Rows
def MtM (X : Cx) (id : String) (r : V → List V → Hp → VK → Prop) : Prop :=
  ∀ (pins : List (Addr × Obj)) (s : Shared) (σ : St) (H : Hp) (x : V) (xs : List V) (v : Value) (us : List Value) (Q : VK), Inv X pins σ H s → RelV x v → Vals xs us → r x xs H Q →
    wpAny (model X.prog X.w) X.A (call (.builtin id) (v :: us)) (EP X pins σ Q) X.xe s
theorem Vals.one : ∀ {x : V} {us : List Value}, Vals [x] us → ∃ u, us = [u] ∧ RelV x u
  | _, _, .cons r .nil => ⟨_, rfl, r⟩
theorem Vals.two : ∀ {x y : V} {us : List Value}, Vals [x, y] us → ∃ u v, us = [u, v] ∧ RelV x u ∧ RelV y v
  | _, _, _, .cons r (.cons q .nil) => ⟨_, _, rfl, r, q⟩
theorem Vals.zero : ∀ {us : List Value}, Vals [] us → us = []
  | _, .nil => rfl
theorem Vals.dropLast {xs : List V} {us : List Value} (h : Vals xs us) : Vals xs.dropLast us.dropLast := by
  induction h with
  | nil => exact .nil
  | cons r t ih =>
    cases t with
    | nil => exact .nil
    | cons q t' => exact .cons r ih
theorem Vals.rep {xs : List V} {us : List Value} (h : Vals xs us) : ∀ k : Nat, Vals (List.replicate k xs).flatten (List.replicate k us).flatten
  | 0 => .nil
  | k + 1 => by
    rw [List.replicate_succ, List.replicate_succ, List.flatten_cons, List.flatten_cons]
    exact Vals.append h (Vals.rep h k)
theorem erase_last {α : Type} (l : List α) : l.eraseIdx (l.length - 1) = l.dropLast := by
  induction l with
  | nil => rfl
  | cons a r ih =>
    cases r with
    | nil => rfl
    | cons b r =>
      have e : (a :: b :: r).length - 1 = ((b :: r).length - 1) + 1 := by
        have h1 : (a :: b :: r).length = r.length + 2 := rfl
        have h2 : (b :: r).length = r.length + 1 := rfl
        omega
      rw [e, List.eraseIdx_cons_succ, ih]
      all_goals rfl
theorem foldl_rep (its : List Value) : ∀ (k : Nat) (acc : List Value),
    List.foldl (fun x1 x2 => x1 ++ x2) acc.toArray (List.replicate k its.toArray) = (acc ++ (List.replicate k its).flatten).toArray
  | 0, acc => by simp
  | k + 1, acc => by
    have e : acc.toArray ++ its.toArray = (acc ++ its).toArray := by simp
    have e2 : (acc ++ its) ++ (List.replicate k its).flatten = acc ++ (List.replicate (k + 1) its).flatten := by
      rw [List.replicate_succ, List.flatten_cons, List.append_assoc]
    rw [← e2, ← foldl_rep its k (acc ++ its), ← e, List.replicate_succ, List.foldl_cons]
section
variable {X : Cx} {pins : List (Addr × Obj)} {σ : St} {H : Hp} {s : Shared} {l b : Addr} {xs ys zs : List V}
theorem Inv.lset {its its' : List Value} {n : Nat} {f : Array Value → Array Value} {t' : Nat} (I : Inv X pins σ H s) (hH : H l = some (.lst xs))
    (e : s.heap.get? l = some { cls := .type "list", data := .seq its.toArray n }) (hf : f its.toArray = its'.toArray) (hv : Vals ys its') (hz : ys.length ≤ sizeLine) :
    Inv X pins σ (upd H l (.lst ys)) { s with heap := s.heap.update l (Obj.mapSeq f), toks := t' } := by
  have q := PySem.IsL.update e f
  rw [hf] at q
  refine I.write (x := l) (e := l) (by rw [hH]; exact trivial) (.inl rfl) (fun b' u hb hu => (Heap.get?_update_other s.heap (Obj.mapSeq f) (Ne.symm hb)).trans hu) ⟨_, q⟩ ?_
  exact ⟨hz, its', _, hv, q⟩
theorem Inv.lnew {its : List Value} {t' : Nat} (I : Inv X pins σ H s) (hv : Vals ys its) (hz : ys.length ≤ sizeLine) :
    Inv X pins σ (upd H s.heap.objs.size (.lst ys)) { s with heap := s.heap.push { cls := .type "list", data := .seq its.toArray }, toks := t' } :=
  I.laid (fun _ _ q => Heap.get?_push_of_some _ q) (Nat.le_refl _) ⟨hz, its, 0, hv, Heap.get?_push_size _ rfl⟩
theorem Inv.fresh (I : Inv X pins σ H s) : H s.heap.objs.size = none := I.hok.fresh (Nat.le_refl _)
theorem Inv.lstM (I : Inv X pins σ H s) (hH : H l = some (.lst xs)) : xs.length ≤ sizeLine ∧ ∃ (its : List Value) (n : Nat), Vals xs its ∧ xs.length = its.length ∧ s.heap.get? l = some { cls := .type "list", data := .seq its.toArray n } := by
  obtain ⟨z, its, n, r, e⟩ := I.hok l _ hH
  exact ⟨z, its, n, r, r.length, e⟩
theorem notLongL {n : Nat} (h : n ≤ sizeLine) : Builtin.List.listTooLong n = false := by
  unfold Builtin.List.listTooLong
  exact decide_eq_false (by omega)
end
section
variable {X : Cx}
def rAppend : V → List V → Hp → VK → Prop := fun x vs H Q => ∃ l xs y, x = .ref l ∧ vs = [y] ∧ H l = some (.lst xs) ∧ xs.length < sizeLine ∧ Q .non (upd H l (.lst (xs ++ [y])))
theorem mt_append : MtM X "list.append" rAppend := by
  intro pins s σ H x vs v us Q I rx rv h
  obtain ⟨l, xs, y, rfl, rfl, hH, hz, q⟩ := h
  cases rx
  obtain ⟨u, rfl, ru⟩ := rv.one
  obtain ⟨z, its, n, r, hl, e⟩ := I.lstM hH
  refine call_meets F.slot_list_append ⟨_, e, rfl⟩ F.entry_list_append (F.args_list_append_2 _ _) (PySem.list_append l its.toArray n u (by rw [List.size_toArray]; omega)) ⟨e, ?_⟩
  refine ⟨.non, _, I.lset (its' := its ++ [u]) hH e (by simp) (r.append (.cons ru .nil)) ?_, rfl, q⟩
  rw [List.length_append, List.length_singleton]
  omega
def rExtend : V → List V → Hp → VK → Prop := fun x vs H Q => ∃ l b xs zs, x = .ref l ∧ vs = [.ref b] ∧ H l = some (.lst xs) ∧ H b = some (.lst zs) ∧ xs.length + zs.length ≤ sizeLine ∧ Q .non (upd H l (.lst (xs ++ zs)))
theorem mt_extend : MtM X "list.extend" rExtend := by
  intro pins s σ H x vs v us Q I rx rv h
  obtain ⟨l, b, xs, zs, rfl, rfl, hH, hB, hz, q⟩ := h
  cases rx
  obtain ⟨u, rfl, ru⟩ := rv.one
  cases ru
  obtain ⟨z, its, n, r, hl, e⟩ := I.lstM hH
  obtain ⟨z2, its2, n2, r2, hl2, e2⟩ := I.lstM hB
  have hsz : its.toArray.size + its2.toArray.size ≤ sizeLine := by rw [List.size_toArray, List.size_toArray]; omega
  have hlong : ¬ (!its.toArray.isEmpty && Builtin.List.listTooLong (its.toArray.size + its2.toArray.size)) = true := by
    rw [notLongL hsz, Bool.and_false]
    exact Bool.false_ne_true
  refine call_meets F.slot_list_extend ⟨_, e, rfl⟩ F.entry_list_extend (F.args_list_extend_2 _ _)
    (AutoSeq1.list_extend_list_list_0 l its.toArray n b its2.toArray n2 hlong (by rw [List.size_toArray]; omega) (by omega)) ⟨e, e2, ?_⟩
  refine ⟨.non, _, I.lset (its' := its ++ its2) hH e (by simp) (r.append r2) ?_, rfl, q⟩
  rw [List.length_append]
  omega
def rPop : V → List V → Hp → VK → Prop := fun x vs H Q => ∃ l xs y, x = .ref l ∧ vs = [] ∧ H l = some (.lst xs) ∧ xs[xs.length - 1]? = some y ∧ Q y (upd H l (.lst xs.dropLast))
theorem mt_pop : MtM X "list.pop" rPop := by
  intro pins s σ H x vs v us Q I rx rv h
  obtain ⟨l, xs, y, rfl, rfl, hH, hy, q⟩ := h
  cases rx
  have hus := rv.zero
  subst hus
  obtain ⟨z, its, n, r, hl, e⟩ := I.lstM hH
  obtain ⟨u, hu, ru⟩ := r.get hy
  have hy' : its.toArray[its.toArray.size - 1]? = some u := by
    show its.toArray[its.length - 1]? = some u
    rw [← Array.getElem?_toList, ← hl]
    exact hu
  refine call_meets F.slot_list_pop ⟨_, e, rfl⟩ F.entry_list_pop (F.args_list_pop_1 _) (MeetsSeq.list_pop_last l its.toArray n u hy' (by rw [List.size_toArray]; omega)) ⟨e, ?_⟩
  refine ⟨y, _, I.lset (its' := its.dropLast) hH e ?_ r.dropLast ?_, ru, q⟩
  · show its.toArray.eraseIdxIfInBounds (its.toArray.size - 1) = its.dropLast.toArray
    rw [List.size_toArray, List.eraseIdxIfInBounds_toArray, erase_last]
  · rw [List.length_dropLast]
    omega
def rCat : R2 := fun x y H Q => ∃ l b xs zs, x = .ref l ∧ y = .ref b ∧ H l = some (.lst xs) ∧ H b = some (.lst zs) ∧ xs.length + zs.length ≤ sizeLine ∧ ∀ p, H p = none → Q (.ref p) (upd H p (.lst (xs ++ zs)))
theorem op_cat : OpR X (binaryOp .Add) rCat := by
  intro pins s σ H x y v u Q I rx ry h
  obtain ⟨l, b, xs, zs, rfl, rfl, hH, hB, hz, q⟩ := h
  cases rx
  cases ry
  obtain ⟨z, its, n, r, hl, e⟩ := I.lstM hH
  obtain ⟨z2, its2, n2, r2, hl2, e2⟩ := I.lstM hB
  refine PySem.P.add_list e e2 ?_ (by rw [List.size_toArray, List.size_toArray]; omega)
  have ea : its.toArray ++ its2.toArray = (its ++ its2).toArray := by simp
  rw [ea]
  exact ⟨.ref _, _, I.lnew (t' := s.toks) (r.append r2) (by rw [List.length_append]; omega), rfl, q _ I.fresh⟩
def rRep : R2 := fun x y H Q => ∃ l k xs, x = .ref l ∧ y = .int k ∧ H l = some (.lst xs) ∧ -(2 ^ 63) ≤ k ∧ k < 2 ^ 63 ∧ xs.length * k.toNat ≤ sizeLine ∧
  ∀ p, H p = none → Q (.ref p) (upd H p (.lst (List.replicate k.toNat xs).flatten))
theorem len_rep {α : Type} (xs : List α) (k : Nat) : (List.replicate k xs).flatten.length = k * xs.length := by
  induction k with
  | zero => simp
  | succ k ih => rw [List.replicate_succ, List.flatten_cons, List.length_append, ih, Nat.succ_mul, Nat.add_comm]
theorem op_rep : OpR X (binaryOp .Mult) rRep := by
  intro pins s σ H x y v u Q I rx ry h
  obtain ⟨l, k, xs, rfl, rfl, hH, h1, h2, hz, q⟩ := h
  cases rx
  obtain ⟨t, rfl⟩ := ry
  obtain ⟨z, its, n, r, hl, e⟩ := I.lstM hH
  have hlen : its.toArray.size * k.toNat ≤ sizeLine := by rw [List.size_toArray, ← hl]; exact hz
  have hcap : ¬ its.toArray.size * k.toNat > (2 ^ 63 - 1) / 8 := by
    have : (sizeLine : Nat) ≤ (2 ^ 63 - 1) / 8 := by decide
    omega
  have hfit : ¬ (!Builtin.List.listFitsIndex k) = true := by
    rw [fitsIndex_both h1 h2]
    exact Bool.false_ne_true
  have hlong : ¬ Builtin.List.listTooLong (its.toArray.size * k.toNat) = true := by
    rw [notLongL hlen]
    exact Bool.false_ne_true
  have hnew : List.foldl (fun x1 x2 => x1 ++ x2) #[] (List.replicate (if its.toArray.isEmpty = true then 0 else k.toNat) its.toArray) = (List.replicate k.toNat its).flatten.toArray := by
    have f0 : ∀ m : Nat, List.foldl (fun x1 x2 => x1 ++ x2) #[] (List.replicate m its.toArray) = (List.replicate m its).flatten.toArray := fun m => by
      have := foldl_rep its m []
      rw [List.nil_append] at this
      exact this
    rw [f0]
    cases its with
    | nil => simp
    | cons a r' => rw [if_neg (by simp)]
  refine wpAny_binaryOp_repeat_ref (T := "list") (U := "int") (by decide) ⟨_, e, rfl⟩ (fun s' => typeIs_int s' k t) noFill_list_mul F.fills_int_mul F.slot_int_rmul repeat_list F.slot_int_index.lookup
    (call_meets F.slot_int_rmul (typeIs_int s k t) F.entry_int_rmul (F.args_int_rmul_2 _ _) (int___rmul___int_list k t l its.toArray n)
      ⟨e, rfl, ⟨_, e, rfl⟩, call_meets F.slot_list_mul ⟨_, e, rfl⟩ F.entry_list_mul (F.args_list_mul_2 _ _) (AutoListH.list___mul___list_int_3 l its.toArray n k t hfit hcap hlong) ⟨e, ?_⟩⟩)
  rw [hnew]
  exact ⟨.ref _, _, I.lnew (t' := s.toks) (r.rep k.toNat) (by rw [len_rep, Nat.mul_comm]; exact hz), rfl, q _ I.fresh⟩
end
section
variable {prog : Program} {w : World} {A : Around} {E : Value → Shared → Prop} {s : Shared}
end
section
variable {X : Cx}
end
end L2
namespace L2
open PySem PySem.Spec PyProof.Rows
section
variable {κ : Type} [DecidableEq κ]
def valV (kvs : List (κ × V)) (k : κ) : Option V := (kvs.find? fun kv => decide (kv.1 = k)).map (·.2)
def putK (kvs : List (κ × V)) (k : κ) (v : V) : List (κ × V) :=
  if (kvs.any fun kv => decide (kv.1 = k)) = true then kvs.map (fun kv => if kv.1 = k then (kv.1, v) else kv) else kvs ++ [(k, v)]
theorem valV_pos {p : κ × V} {r : List (κ × V)} {k : κ} (e : p.1 = k) : valV (p :: r) k = some p.2 := by simp [valV, List.find?_cons, e]
theorem valV_neg {p : κ × V} {r : List (κ × V)} {k : κ} (e : ¬ p.1 = k) : valV (p :: r) k = valV r k := by simp [valV, List.find?_cons, e]
theorem valV_any (k : κ) : ∀ kvs : List (κ × V), (kvs.any fun kv => decide (kv.1 = k)) = (valV kvs k).isSome
  | [] => rfl
  | p :: r => by
    rw [List.any_cons]
    by_cases e : p.1 = k
    · simp only [valV_pos e, decide_eq_true e, Bool.true_or, Option.isSome_some]
    · rw [valV_neg e, decide_eq_false e, Bool.false_or]; exact valV_any k r
theorem length_putK (kvs : List (κ × V)) (k : κ) (v : V) : (putK kvs k v).length ≤ kvs.length + 1 := by
  unfold putK
  split
  · rw [List.length_map]; omega
  · rw [List.length_append, List.length_cons, List.length_nil]; omega
theorem putK_new {kvs : List (κ × V)} {k : κ} (v : V) (h : valV kvs k = none) : putK kvs k v = kvs ++ [(k, v)] := by
  unfold putK
  rw [valV_any, h]
  exact if_neg (by decide)
theorem RelO.isSome_eq {o : Option V} {u : Option Value} (r : RelO o u) : o.isSome = u.isSome := by
  cases o with
  | none => cases u with
    | none => rfl
    | some _ => exact (show False from r).elim
  | some _ => cases u with
    | none => exact (show False from r).elim
    | some _ => rfl
theorem KV.val {kvs : List (κ × V)} {vs : List (κ × Value)} (r : KV kvs vs) (k : κ) : RelO (valV kvs k) (valueAt vs k) := by
  unfold KV at r
  induction r with
  | nil => exact True.intro
  | @cons p q ps qs h t ih =>
    obtain ⟨h1, h2⟩ := h
    by_cases e : p.1 = k
    · have e' : q.1 = k := h1.symm.trans e
      have b : valueAt (q :: qs) k = some q.2 := by simp [valueAt, List.find?_cons, e']
      rw [valV_pos e, b]; exact h2
    · have e' : ¬ q.1 = k := fun z => e (h1.trans z)
      have b : valueAt (q :: qs) k = valueAt qs k := by simp [valueAt, List.find?_cons, e']
      rw [valV_neg e, b]; exact ih
theorem KV.any {kvs : List (κ × V)} {vs : List (κ × Value)} (r : KV kvs vs) (k : κ) : (kvs.any fun kv => decide (kv.1 = k)) = vs.any fun kv => decide (kv.1 = k) := by
  unfold KV at r
  induction r with
  | nil => rfl
  | cons h t ih => rw [List.any_cons, List.any_cons, ih, h.1]
theorem KV.repl {kvs : List (κ × V)} {vs : List (κ × Value)} (r : KV kvs vs) (k : κ) {y : V} {u : Value} (ry : RelV y u) :
    KV (kvs.map fun kv => if kv.1 = k then (kv.1, y) else kv) (vs.map fun kv => if kv.1 = k then (kv.1, u) else kv) := by
  unfold KV at r ⊢
  induction r with
  | nil => exact .nil
  | @cons p q ps qs h t ih =>
    rw [List.map_cons, List.map_cons]
    refine .cons ?_ ih
    obtain ⟨h1, h2⟩ := h
    by_cases e : p.1 = k
    · rw [if_pos e, if_pos (h1.symm.trans e)]; exact ⟨h1, ry⟩
    · rw [if_neg e, if_neg (fun z => e (h1.trans z))]; exact ⟨h1, h2⟩
theorem KV.put {kvs : List (κ × V)} {vs : List (κ × Value)} (r : KV kvs vs) (k : κ) {y : V} {u : Value} (ry : RelV y u) : KV (putK kvs k y) (stored vs k u) := by
  unfold putK stored
  rw [r.any k]
  by_cases e : (vs.any fun kv => decide (kv.1 = k)) = true
  · rw [if_pos e, if_pos e]; exact r.repl k ry
  · rw [if_neg e, if_neg e]; exact Paired.snoc r ⟨rfl, ry⟩
theorem KV.length {kvs : List (κ × V)} {vs : List (κ × Value)} (r : KV kvs vs) : kvs.length = vs.length := Paired.length r
end
theorem kV_is {P : Program} {w : World} {k : Key} {u : Value} (r : RelV (kV k) u) : (mixKind P w).is k u = true := by
  cases k with
  | inl i => obtain ⟨t, e⟩ := (show ∃ t, u = Value.int i t from r); subst e; exact mixKind_int P w i t
  | inr x => obtain ⟨t, e⟩ := (show ∃ t, u = Value.str x t from r); subst e; exact mixKind_str P w x t
theorem items_are {P : Program} {w : World} : ∀ {ks : List Key} {us : List Value}, Vals (ks.map kV) us → ItemsAre (mixKind P w) ks us
  | [], _, r => by rw [List.map_nil] at r; cases r; exact .nil
  | k :: ks, _, r => by
    rw [List.map_cons] at r
    cases r with
    | cons h t => exact .cons (kV_is h) (items_are t)
abbrev KT (H : Hp) : List (List Key × V) → List (List Key × Addr × Value) → Prop := Paired fun p q => p.1 = q.1 ∧ H q.2.1 = some (.tup (p.1.map kV)) ∧ RelV p.2 q.2.2
theorem KT.val {H : Hp} {kvs : List (List Key × V)} {xs : List (List Key × Addr × Value)} (r : KT H kvs xs) (k : List Key) : RelO (valV kvs k) ((atKey xs k).map (·.2)) := by
  induction r with
  | nil => exact True.intro
  | @cons p q ps qs h t ih =>
    obtain ⟨h1, _, h2⟩ := h
    by_cases e : p.1 = k
    · have e' : q.1 = k := h1.symm.trans e
      have b : atKey (q :: qs) k = some q.2 := by simp [atKey, List.find?_cons, e']
      rw [valV_pos e, b]; exact h2
    · have e' : ¬ q.1 = k := fun z => e (h1.trans z)
      have b : atKey (q :: qs) k = atKey qs k := by simp [atKey, List.find?_cons, e']
      rw [valV_neg e, b]; exact ih
theorem KT.repl {H : Hp} {kvs : List (List Key × V)} {xs : List (List Key × Addr × Value)} (r : KT H kvs xs) (k : List Key) {y : V} {u : Value} (ry : RelV y u) :
    KT H (kvs.map fun kv => if kv.1 = k then (kv.1, y) else kv) (xs.map (putAt k u)) := by
  induction r with
  | nil => exact .nil
  | @cons p q ps qs h t ih =>
    rw [List.map_cons, List.map_cons]
    refine .cons ?_ ih
    obtain ⟨h1, h2, h3⟩ := h
    unfold putAt
    by_cases e : p.1 = k
    · rw [if_pos e, if_pos (h1.symm.trans e)]; exact ⟨h1, h2, ry⟩
    · rw [if_neg e, if_neg (fun z => e (h1.trans z))]; exact ⟨h1, h2, h3⟩
theorem KT.put {H : Hp} {kvs : List (List Key × V)} {xs : List (List Key × Addr × Value)} (r : KT H kvs xs) (k : List Key) {b : Addr} {y : V} {u : Value} (hb : H b = some (.tup (k.map kV))) (ry : RelV y u) :
    KT H (putK kvs k y) (storedH xs k b u) := by
  have e : (kvs.any fun kv => decide (kv.1 = k)) = (atKey xs k).isSome := by
    rw [valV_any, (r.val k).isSome_eq, Option.isSome_map]
  unfold putK storedH
  rw [e]
  by_cases q : (atKey xs k).isSome = true
  · rw [if_pos q, if_pos q]; exact r.repl k ry
  · rw [if_neg q, if_neg q]; exact Paired.snoc r ⟨rfl, hb, ry⟩
theorem KT.keeps {H H' : Hp} {kvs : List (List Key × V)} {xs : List (List Key × Addr × Value)} (r : KT H kvs xs) (ht : ∀ b ys, H b = some (.tup ys) → H' b = some (.tup ys)) : KT H' kvs xs :=
  Paired.mapP r fun _ _ z => ⟨z.1, ht _ _ z.2.1, z.2.2⟩
section
variable {P : Program} {w : World} {H : Hp} {h : Heap} {a : Addr}
theorem rd_of {u : HO} (ok : HOk P w H h) (e : Rd H a u) : ObjOk P w H h a u := e.ok ok
theorem dk_rd {kvs : List (Key × V)} (ok : HOk P w H h) (e : Rd H a (.dK kvs)) : kvs.length ≤ sizeLine ∧ (a == sysModules) = false ∧ ∃ vs, KV kvs vs ∧ h.DictOf (mixKind P w) a vs :=
  show ObjOk P w H h a (.dK kvs) from rd_of ok e
theorem dk_of {kvs : List (Key × V)} (ok : HOk P w H h) (e : H a = some (.dK kvs)) : kvs.length ≤ sizeLine ∧ (a == sysModules) = false ∧ ∃ vs, KV kvs vs ∧ h.DictOf (mixKind P w) a vs := dk_rd ok (.inl e)
theorem key_of {ks : List Key} (ok : HOk P w H h) (e : H a = some (.tup (ks.map kV))) : (tupleKind (mixKind P w)).is h ks a := by
  obtain ⟨_, its, r, o, h1, h2, n, h3⟩ := (show ObjOk P w H h a (.tup (ks.map kV)) from ok a _ e)
  exact ⟨o, its.toArray, n, h1, h2, h3, by simpa using items_are r⟩
theorem dt_rd {kvs : List (List Key × V)} (ok : HOk P w H h) (e : Rd H a (.dT kvs)) : kvs.length ≤ sizeLine ∧ (a == sysModules) = false ∧
    ∃ xs, KT H kvs xs ∧ h.DictOfH (tupleKind (mixKind P w)) a xs := by
  obtain ⟨z, y, xs, r, o, es, ep, h1, h2, h3, h4, h5⟩ := (show ObjOk P w H h a (.dT kvs) from rd_of ok e)
  refine ⟨z, y, xs, r, o, es, ep, h1, h2, h3, h4, fun x hx => ?_, h5⟩
  have all : ∀ {l : List (List Key × V)} {m : List (List Key × Addr × Value)}, KT H l m → ∀ x ∈ m, (tupleKind (mixKind P w)).is h x.1 x.2.1 := by
    intro l m q
    induction q with
    | nil => intro x hx; exact nomatch hx
    | @cons p q ps qs hq t ih =>
      intro x hx
      rcases List.mem_cons.mp hx with e | hx
      · subst e
        exact key_of ok (by rw [← hq.1]; exact hq.2.1)
      · exact ih x hx
  exact all r x hx
theorem dt_of {kvs : List (List Key × V)} (ok : HOk P w H h) (e : H a = some (.dT kvs)) : kvs.length ≤ sizeLine ∧ (a == sysModules) = false ∧
    ∃ xs, KT H kvs xs ∧ h.DictOfH (tupleKind (mixKind P w)) a xs := dt_rd ok (.inl e)
end
def DGet (H : Hp) (a : Addr) (y : V) (r : Option V) : Prop :=
  (∃ kvs k, Rd H a (.dK kvs) ∧ y = kV k ∧ r = valV kvs k) ∨ ∃ kvs k b, Rd H a (.dT kvs) ∧ y = .ref b ∧ H b = some (.tup (k.map kV)) ∧ r = valV kvs k
def DPut (H : Hp) (a : Addr) (y v : V) (H' : Hp) : Prop :=
  (∃ kvs k, H a = some (.dK kvs) ∧ y = kV k ∧ kvs.length < sizeLine ∧ H' = upd H a (.dK (putK kvs k v))) ∨
  ∃ kvs k b, H a = some (.dT kvs) ∧ y = .ref b ∧ H b = some (.tup (k.map kV)) ∧ kvs.length < sizeLine ∧ H' = upd H a (.dT (putK kvs k v))
section
variable {X : Cx} {pins : List (Addr × Obj)} {σ : St} {H : Hp} {s : Shared} {a : Addr} {y v : V} {u r : Value} {o : Option V} {A : Around} {E : Value → Shared → Prop}
theorem Inv.big (I : Inv X pins σ H s) : sysModules < s.heap.objs.size := by
  have h : mainGlobals < s.heap.objs.size := (I.mod.glob.keeps I.bk).lt
  exact Nat.lt_trans (by decide) h
theorem d_getItem {Q : Value → Shared → Prop} (hu : A.units + 1 < cLine) (I : Inv X pins σ H s) (g : DGet H a y (some v)) (ry : RelV y u) (h : ∀ w' s', Inv X pins σ H s' → RelV v w' → Q w' s') :
    wpAny (model X.prog X.w) A (getItem (.ref a) u) Q E s := by
  rcases g with ⟨kvs, k, e, ey, l⟩ | ⟨kvs, k, b, e, ey, eb, l⟩
  · subst ey
    obtain ⟨z, hd, vs, rel, dd⟩ := dk_rd I.hok e
    obtain ⟨w', hw, rw'⟩ := RelO.some_of (v := v) (o := valueAt vs k) (by rw [l]; exact rel.val k)
    exact wpAny_getItem_of (kV_is ry) dd.mapOf hw (h w' _ (I.tok _) rw')
  · subst ey
    cases (show u = Value.ref b from ry)
    obtain ⟨z, hd, xs, rel, dd⟩ := dt_rd I.hok e
    obtain ⟨w', hw, rw'⟩ := RelO.some_of (v := v) (o := (atKey xs k).map (·.2)) (by rw [l]; exact rel.val k)
    obtain ⟨p, hp, hp2⟩ := Option.map_eq_some_iff.mp hw
    refine wpAny_getItem_heap (tupleKind_room_in1 hu) (key_of I.hok eb) dd hp ?_
    rw [hp2]
    exact h w' _ (I.tok _) rw'
theorem d_write {h' : Heap} {t' : Nat} {ob : HO} (I : Inv X pins σ H s) (mu : Mut (H a)) (hs : Heap.SameBut a s.heap h') (he : ∃ q, h'.get? a = some q) (new : ObjOk X.prog X.w (upd H a ob) h' a ob) :
    Inv X pins σ (upd H a ob) { s with heap := h', toks := t' } :=
  I.write (x := a) (e := a) mu (.inl rfl) (fun b q hb z => (hs.2 b hb).trans z) he new
theorem dk_new {P : Program} {w : World} {H' : Hp} {h' : Heap} {kvs : List (Key × V)} {vs : List (Key × Value)} (z : kvs.length ≤ sizeLine) (hd : (a == sysModules) = false) (rel : KV kvs vs) (dd : h'.DictOf (mixKind P w) a vs) :
    ObjOk P w H' h' a (.dK kvs) := ⟨z, hd, vs, rel, dd⟩
theorem d_setItem {H' : Hp} {Q : Unit → Shared → Prop} (hu : A.units + 1 < cLine) (I : Inv X pins σ H s) (g : DPut H a y v H') (ry : RelV y u) (rv : RelV v r) (h : ∀ s', Inv X pins σ H' s' → Q () s') :
    wpAny (model X.prog X.w) A (setItem (.ref a) u r) Q E s := by
  rcases g with ⟨kvs, k, e, ey, l, eH⟩ | ⟨kvs, k, b, e, ey, eb, l, eH⟩
  · subst ey eH
    obtain ⟨z, hd, vs, rel, dd⟩ := dk_of I.hok e
    have hz : vs.length ≤ sizeLine := by rw [← rel.length]; exact z
    have hl : (putK kvs k v).length ≤ sizeLine := by have := length_putK kvs k v; omega
    refine wpAny_setItem_pairs (hsz := hz) (kV_is ry) dd fun h' dd' hs => h _ ?_
    have he : ∃ q, h'.get? a = some q := let ⟨q, _, _, hq, _⟩ := dd'; ⟨q, hq⟩
    exact d_write I (by rw [e]; exact True.intro) hs he (dk_new hl hd (rel.put k rv) dd')
  · subst ey eH
    cases (show u = Value.ref b from ry)
    obtain ⟨z, hd, xs, rel, dd⟩ := dt_of I.hok e
    have hz : xs.length ≤ sizeLine := by rw [← Paired.length rel]; exact z
    have hl : (putK kvs k v).length ≤ sizeLine := by have := length_putK kvs k v; omega
    refine wpAny_setItem_heap (hsz := hz) (tupleKind_room_in1 hu) (key_of I.hok eb) dd fun h' dd' hs => h _ ?_
    obtain ⟨q, es, ep, hq, h2, h3, h4, _, h5⟩ := dd'
    refine d_write I (by rw [e]; exact True.intro) hs ⟨q, hq⟩ ⟨hl, hd, _, (rel.put k eb rv).keeps fun c ys ec => ?_, q, es, ep, hq, h2, h3, h4, h5⟩
    rw [upd_ne (ne_of ec e (fun z => nomatch z))]
    exact ec
end
section
variable {X : Cx} {pins : List (Addr × Obj)} {σ : St} {H : Hp} {s : Shared} {a : Addr} {kvs : List (Key × V)} {k : Key} {u : Value} {A : Around} {E : Value → Shared → Prop}
end
def NoSl (i : Expr) : Prop := ∀ ov iv, subscripted i false ov iv = operate [ov, iv] (getItem ov iv)
theorem subD_of {prog : Program} {w : World} {A : Around} {E : Value → Shared → Prop} {s : Shared} {env : Env} {value slice : Expr} {pos : Pos} {T id : String} {Q : Value → Shared → Prop}
    (hl : typeLookup (.type T) "__getitem__" = pure (some (.builtin id))) (hs : NoSl slice)
    (h : wpAny (model prog w) A (eval value env) (fun o s₁ => wpAny (model prog w) A (eval slice env) (fun i s₂ => s₂.TypeIs o T ∧ wpAny (model prog w) A (getItem o i) Q E s₂) E s₁) E s) :
    wpAny (model prog w) A (eval (.Subscript value slice pos) env) Q E s := by
  refine Subscript_ (wpAny_mono h (fun o s₁ h₁ => wpAny_mono h₁ (fun i s₂ h₂ => ?_) fun _ _ x => x) fun _ _ x => x)
  obtain ⟨hT, h₂⟩ := h₂
  unfold subscriptTail
  refine wpAny_bind ?_
  rw [getitemInPython_of_ne hT.not_modules]
  refine wpAny_bind (wpAny_specialOf hT hl ?_)
  have fin : wpAny (model prog w) A (subscripted slice false o i) (fun r s₃ => wpAny (model prog w) A (letTemporaryGo value o r >>= fun _ => pure r) Q E s₃) E s₂ := by
    rw [hs o i]
    exact wpAny_operating (wpAny_mono h₂ (fun r s₃ h₃ => wpAny_bind (wpAny_letTemporaryGo (wpAny_pure h₃))) fun _ _ x => x)
  first
    | exact wpAny_pure (wpAny_bind fin)
    | exact wpAny_bind (wpAny_pure (wpAny_bind fin))
    | exact wpAny_bind fin
theorem dict_typeIs {X : Cx} {pins : List (Addr × Obj)} {σ : St} {H : Hp} {s : Shared} {a : Addr} {y : V} {o : Option V} (I : Inv X pins σ H s) (g : DGet H a y o) : s.TypeIs (.ref a) "dict" := by
  rcases g with ⟨kvs, k, e, _, _⟩ | ⟨kvs, k, b, e, _, _, _⟩
  · obtain ⟨_, _, vs, _, dd⟩ := dk_rd I.hok e
    exact dd.typeIs
  · obtain ⟨_, _, xs, _, dd⟩ := dt_rd I.hok e
    exact dd.typeIs
def tDGet (td ty : TE) : TE := fun σ H Q => td σ H fun x H1 => ty σ H1 fun y H2 => ∃ a v, x = .ref a ∧ DGet H2 a y (some v) ∧ Q v H2
def sDPut (td ty tv : TE) : TS := fun D σ H => tv σ H fun v H1 => td σ H1 fun x H2 => ty σ H2 fun y H3 => ∃ a H4, x = .ref a ∧ DPut H3 a y v H4 ∧ D.nx σ H4
section
variable {X : Cx} {o i e value : Expr} {pos pos' tpos : Pos} {td ty tv : TE}
theorem pe_dget (hu : X.A.units + 1 < cLine) (ho : PE X o td) (hi : PE X i ty) (hs : NoSl i) : PE X (.Subscript o i pos) (tDGet td ty) := by
  intro pins s σ H Q I h
  refine subD_of PySem.F.slot_dict_getitem.lookup hs (thn (ho pins s σ H _ I h) fun u s1 ⟨x, H1, I1, rx, q1⟩ => thn (hi pins s1 σ H1 _ I1 q1) fun iv s2 ⟨y, H2, I2, ry, a, v, ex, g, q2⟩ => ?_)
  subst ex
  obtain rfl : u = Value.ref a := rx
  exact ⟨dict_typeIs I2 g, d_getItem hu I2 g ry fun w' s3 I3 rw' => ⟨v, H2, I3, rw', q2⟩⟩
theorem ps_dput (hu : X.A.units + 1 < cLine) (ho : PE X o td) (hi : PE X i ty) (hv : PE X value tv) (hs : swapsWith value (some (.Subscript o i pos')) pos.line X.env = pure false) :
    PS X (.Assign [.Subscript o i pos'] value pos) (sDPut td ty tv) := by
  intro pins s σ H D I h
  refine wpAny_Assign_Subscript (thn (hv pins s σ H _ I h) fun r s1 ⟨v, H1, I1, rv, q1⟩ => thn (ho pins s1 σ H1 _ I1 q1) fun u s2 ⟨x, H2, I2, rx, q2⟩ => thn (hi pins s2 σ H2 _ I2 q2) fun iv s3 ⟨y, H3, I3, ry, a, H4, ex, g, q3⟩ => ?_) hs
  subst ex
  obtain rfl : u = Value.ref a := rx
  exact d_setItem hu I3 g ry rv fun s4 I4 => ⟨σ, H4, I4, q3⟩
end
theorem dk_empty {P : Program} {w : World} {H : Hp} (h : Heap) (hb : sysModules < h.objs.size) : ObjOk P w H (h.push { cls := .type "dict", data := .dict #[] }) h.objs.size (.dK []) :=
  ⟨Nat.zero_le _, beq_eq_false_iff_ne.mpr (Ne.symm (Nat.ne_of_lt hb)), [], .nil, Heap.DictOf.new h⟩
def tDNewK : TE := fun _ H Q => ∀ p, H p = none → Q (.ref p) (upd H p (.dK []))
section
variable {X : Cx} {pos : Pos}
theorem pe_dnewK : PE X (.Dict [] [] pos) tDNewK := fun pins s σ H Q I h =>
  wpAny_Dict_empty ⟨.ref s.heap.objs.size, _, I.laid (a := s.heap.objs.size) (o := .dK []) (t' := s.toks) (fun _ _ q => Heap.get?_push_of_some _ q) (Nat.le_refl _) (dk_empty s.heap I.big), rfl, h _ (I.hok.fresh (Nat.le_refl _))⟩
end
def tPairs : List (TE × TE) → St → Hp → (List (V × V) → Hp → Prop) → Prop
  | [], _, H, Q => Q [] H
  | (tk, tv) :: r, σ, H, Q => tk σ H fun x H1 => tv σ H1 fun y H2 => tPairs r σ H2 fun ps H3 => Q ((x, y) :: ps) H3
abbrev VV : List (V × V) → List (Value × Value) → Prop := Paired fun p q => RelV p.1 q.1 ∧ RelV p.2 q.2
def PPs (X : Cx) (pos : Pos) (keys : List (Option Expr)) (values : List Expr) (trs : List (TE × TE)) : Prop :=
  ∀ (pins : List (Addr × Obj)) (s : Shared) (σ : St) (H : Hp) (Q : List (V × V) → Hp → Prop), Inv X pins σ H s → tPairs trs σ H Q →
    wpAny (model X.prog X.w) X.A (evalPairs (pairTrees keys values X.env pos)) (fun vs s' => ∃ ps H', Inv X pins σ H' s' ∧ VV ps vs ∧ Q ps H') X.xe s
theorem pps_nil {X : Cx} {pos : Pos} : PPs X pos [] [] [] := fun pins s σ H Q I h => pairTrees_nil_walk ⟨[], H, I, .nil, h⟩
theorem pps_cons {X : Cx} {pos : Pos} {k v : Expr} {ks : List (Option Expr)} {vs : List Expr} {tk tv : TE} {trs : List (TE × TE)} (hk : PE X k tk) (hv : PE X v tv) (hr : PPs X pos ks vs trs) :
    PPs X pos (some k :: ks) (v :: vs) ((tk, tv) :: trs) := fun pins s σ H Q I h =>
  pairTrees_cons_walk (thn (hk pins s σ H _ I h) fun u s1 ⟨x, H1, I1, rx, q1⟩ => thn (hv pins s1 σ H1 _ I1 q1) fun w2 s2 ⟨y, H2, I2, ry, q2⟩ =>
    thn (hr pins s2 σ H2 _ I2 q2) fun ws s3 ⟨ps, H3, I3, rel, q3⟩ => ⟨(x, y) :: ps, H3, I3, .cons ⟨rx, ry⟩ rel, q3⟩)
def mergeK (kvs more : List (Key × V)) : List (Key × V) := more.foldl (fun acc kv => putK acc kv.1 kv.2) kvs
theorem KV.merge : ∀ {more : List (Key × V)} {rs : List (Key × Value)} {kvs : List (Key × V)} {vs : List (Key × Value)}, KV more rs → KV kvs vs → KV (mergeK kvs more) (merged vs rs) := by
  intro more rs kvs vs r
  unfold KV at r
  induction r generalizing kvs vs with
  | nil => intro q; exact q
  | @cons p q ps qs h t ih =>
    intro r0
    have e : KV (putK kvs p.1 p.2) (stored vs q.1 q.2) := by
      have := r0.put p.1 h.2
      rw [← h.1]; exact this
    exact ih e
theorem length_mergeK : ∀ (more kvs : List (Key × V)), (mergeK kvs more).length ≤ kvs.length + more.length
  | [], kvs => by show kvs.length ≤ kvs.length + 0; omega
  | p :: r, kvs => by
    have h1 := length_mergeK r (putK kvs p.1 p.2)
    have h2 := length_putK kvs p.1 p.2
    show (mergeK (putK kvs p.1 p.2) r).length ≤ _
    rw [List.length_cons]; omega
theorem carries_of {P : Program} {w : World} : ∀ {kvs : List (Key × V)} {ws : List (Value × Value)}, VV (kvs.map fun kv => (kV kv.1, kv.2)) ws → ∃ rs, Carries (mixKind P w) ws rs ∧ KV kvs rs
  | [], _, r => by rw [List.map_nil] at r; cases r; exact ⟨[], True.intro, .nil⟩
  | p :: kvs, _, r => by
    rw [List.map_cons] at r
    cases r with
    | @cons a b as bs h t =>
      obtain ⟨rs, c, q⟩ := carries_of (P := P) (w := w) t
      obtain ⟨b1, b2⟩ := b
      exact ⟨(p.1, b2) :: rs, ⟨kV_is h.1, rfl, c⟩, .cons ⟨rfl, h.2⟩ q⟩
def tDisp (trs : List (TE × TE)) : TE := fun σ H Q => ∀ p, H p = none → tPairs trs σ (upd H p (.dK [])) fun ps H2 => H2 p = some (.dK []) ∧ ∃ kvs : List (Key × V), ps = kvs.map (fun kv => (kV kv.1, kv.2)) ∧ kvs.length ≤ 15 ∧ Q (.ref p) (upd H2 p (.dK (mergeK [] kvs)))
theorem pe_disp {X : Cx} {pos : Pos} {keys : List (Option Expr)} {values : List Expr} {trs : List (TE × TE)} (h : PPs X pos keys values trs) (hall : keys.all (·.isSome) = true) (hl : keys.length = values.length) (h0 : keys ≠ [])
    (h15 : keys.length ≤ 15) : PE X (.Dict keys values pos) (tDisp trs) := by
  intro pins s σ H Q I q
  have hn := I.hok.fresh (Nat.le_refl s.heap.objs.size)
  have I1 := I.laid (a := s.heap.objs.size) (o := .dK []) (h' := s.heap.push { cls := .type "dict", data := .dict #[] }) (t' := s.toks) (fun _ _ q => Heap.get?_push_of_some _ q) (Nat.le_refl _) (dk_empty s.heap I.big)
  refine wpAny_Dict_walk (knd := mixKind X.prog X.w) hall hl h0 h15 (thn (h pins _ σ _ _ I1 (q _ hn)) fun ws s2 ⟨ps, H2, I2, rel, e, kvs, ep, lk, q2⟩ => ?_)
  subst ep
  obtain ⟨rs, c, rk⟩ := carries_of (P := X.prog) (w := X.w) rel
  obtain ⟨z, hd, vs0, r0, dd⟩ := dk_of I2.hok e
  cases r0
  refine ⟨rs, c, dd, fun h' dd' hs => ⟨.ref s.heap.objs.size, _, ?_, rfl, q2⟩⟩
  have hz : (mergeK [] kvs).length ≤ sizeLine := by
    have h1 := length_mergeK kvs []
    rw [List.length_nil] at h1
    rw [sizeLine_eq]; omega
  have he : ∃ q, h'.get? s.heap.objs.size = some q := let ⟨q, _, _, hq, _⟩ := dd'; ⟨q, hq⟩
  exact d_write I2 (by rw [e]; exact True.intro) hs he (dk_new hz hd (rk.merge .nil) dd')
section
variable {X : Cx} {pins : List (Addr × Obj)} {σ : St} {H : Hp} {s : Shared} {a : Addr} {y d : V} {u r : Value} {o : Option V} {A : Around} {E : Value → Shared → Prop}
end
section
variable {X : Cx} {o e f : Expr} {apos cpos : Pos} {td ty tx : TE}
end
section
variable {X : Cx} {pins : List (Addr × Obj)} {σ : St} {H : Hp} {s : Shared} {a : Addr} {kvs : List (Key × V)} {A : Around} {E : Value → Shared → Prop}
end
section
variable {X : Cx} {pins : List (Addr × Obj)} {σ : St} {H : Hp} {s : Shared} {a : Addr} {y : V} {u : Value} {A : Around} {E : Value → Shared → Prop}
end
end L2
namespace Att
open PySem PySem.W PySem.Calls PyProof.Rows
theorem ints_of_wellAll {P : Params} {h : Heap} : ∀ (ns : List Int) (vs : List Value), WellAll P h vs (ns.map WData.int) → IntsAre vs ns := by
  intro ns
  induction ns with
  | nil =>
    intro vs w
    rw [List.map_nil] at w
    cases w
    exact .nil
  | cons n ns ih =>
    intro vs w
    rw [List.map_cons] at w
    cases w with
    | cons a b =>
      cases a
      exact .cons _ _ (ih _ b)
theorem script_of {l : OpenLaw} {n : Nat} (hn : l.most = some n) {P : Params} {h : Heap} {args : List WData} {vals : List Value}
    (hpre : l.row.toRowW.claim.pre args = true) (hwl : WellAll P h vals args) :
    ∃ a vs ns, vals = [Value.ref a] ∧ args = [WData.list (ns.map WData.int)] ∧ h.get? a = some { cls := .type "list", data := .seq vs.toArray } ∧ IntsAre vs ns ∧ ns.length ≤ n := by
  have hsh : WShape.hasAll [] args [.list .int] = true := (pre_splitW hpre).1
  have hc : l.pre.holds [] { args := args } = true := (pre_splitW hpre).2
  obtain ⟨d, r, rfl, h1, h2⟩ := hasAllW_cons hsh
  obtain rfl := hasAllW_nil h2
  obtain ⟨xs, rfl, h3⟩ := hasW_list h1
  obtain ⟨ns, rfl⟩ := items_int h3
  have hlen : ns.length ≤ n := by
    unfold OpenLaw.pre at hc
    have h4 : (WTm.not (.lt (.lit (.int (n : Int))) (.len (.arg 0)))).holds [] { args := [.list (ns.map .int)] } = true := by
      have h4 := (holds_andW hc).1
      rw [hn] at h4
      exact h4
    have h5 := condW_of h4 (w_not (w_lt w_lit (w_len_list (w_arg rfl))))
    rw [List.length_map] at h5
    refine Nat.le_of_not_lt fun q => ?_
    have q' : (n : Int) < ((ns.length : Nat) : Int) := by omega
    first
      | (rw [decide_eq_true q'] at h5; exact absurd h5 (by decide))
      | (simp at h5; omega)
  cases hwl with
  | cons w1 w2 =>
    cases w2
    cases w1 with
    | list ho hall => exact ⟨_, _, ns, rfl, rfl, ho, ints_of_wellAll ns _ hall, hlen⟩
theorem post_true (l : OpenLaw) (args : List WData) : l.row.toRowW.claim.post args (.bool true) args = true :=
  postW_of (r := l.row.toRowW) (X := (true == true))
    (show WShape.has [] (.bool true) .bool = true by first | rfl | decide | simp [WShape.has, WShape.arms, WShape.armsAll])
    (show (WTm.eq .res (.lit (.bool true))).value [] { args := args, res := some (.bool true), after := args } = some (.bool (true == true)) from w_eq_bool (w_res rfl) w_lit) rfl
theorem attach_call {l : OpenLaw} {n : Nat} {q : Program} {loose : List Str} {XP : (Str → Option Value) → Heap → Prop} {YP : World → Heap → Prop} {d : DefRec}
    (hn : l.most = some n) (hdf : d.params.defaults = [])
    (call : ∀ (w : World) (s₀ s₁ : Shared) (mg mb : Str → Option Value) (fa : Addr) (o : Obj) (pm cd doc : Value) (a : Addr) (vs : List Value) (ns : List Int),
      Ground q loose [] XP w s₀ mg mb s₁.heap → YP w s₁.heap →
      s₁.heap.get? fa = some o → o.data = .func (docDef d.name d.params d.body d.scope pm cd doc) → s₁.heap.CodeRec cd d.name → mg d.name = some (.ref fa) →
      s₁.heap.get? a = some { cls := .type "list", data := .seq vs.toArray } → IntsAre vs ns → ns.length ≤ n → s₁.gens = #[] →
      codeAny (model l.prog w) callerA (.call (.ref fa) ⟨[.ref a], []⟩) (fun r s' => r = .ok (.ret (.bool true)) ∧ OldK s₁.heap s'.heap ∧ s'.os = s₁.os ∧ AllBare s'.gens) s₁) :
    WalkO q loose XP YP l.row.toRowW d [] (fun f vs => PySem.call f vs) := by
  intro w s₀ s₁ mg mb G Y fa o pm cd doc dV kV ho hd hcd hD hmg hg args vals as hpre hlay hrd hwl hlo
  obtain rfl : dV = .none := Dflts.none hD hdf
  obtain rfl : kV = .none := Dflts.noKw hD
  obtain ⟨a, vs, ns, rfl, rfl, hobj, hints, hlen⟩ := script_of hn hpre hwl
  refine enter_call (codeAny_mono (call w s₀ s₁ mg mb fa o pm cd doc a vs ns G Y ho (fd_plain hd) hcd hmg hobj hints hlen hg) fun r s' hq => ?_)
  obtain ⟨rfl, h2, h3, h4⟩ := hq
  exact ⟨.inl ⟨.bool true, .bool true, [], rfl, fun _ => rfl, .bool true, post_true l _, fun _ => ⟨List.Pairwise.nil, fun _ hm => (nomatch hm)⟩⟩, h2, h3, h4⟩
section
variable {prog : Program} {w : World} {A : Around} {E : Value → Shared → Prop} {s : Shared} {K : Frag}
end
end Att
namespace L2
open PySem PySem.Spec PyProof.Rows
theorem vals_ints : ∀ {vs : List Value} {ns : List Int}, IntsAre vs ns → Vals (ns.map V.int) vs
  | _, _, .nil => .nil
  | _, _, .cons n t h => .cons ⟨t, rfl⟩ (vals_ints h)
def Only (H : Hp) : Prop := ∀ b, H b = none ∨ ∃ o xs, H b = some (.frz o (.lst xs))
theorem law_call {P : Program} {w : World} {K : PySem.W.Frag} {mg mb : Str → Option Value} {CX : CXT} {k : Nat} {fa a : Addr} {fd : FuncData} {x : Str} {sp : Sp} {s₁ : Shared} {vs : List Value} {ns : List Int}
    (KX : K.In s₁.heap) (hns : s₁.heap.Ns mainGlobals mg) (hb : s₁.heap.Ns builtinsNs mb) (hbb : ∀ x : Str, x ≠ "__name__" → mb x = bootBuiltins x) (hlim : s₁.heap.NoLimit) (hg : s₁.gens = #[])
    (ha : s₁.heap.get? a = some { cls := .type "list", data := .seq vs.toArray }) (hi : IntsAre vs ns) (hl : ns.length ≤ sizeLine) (hr : Room k callerA)
    (F : ∀ base : Heap, K.In base → base.Ns mainGlobals mg → FnOk P w K mg base CX k fa fd [x] sp) (hbind : ∀ (s : Shared) (u : Value), BindsTo s fd ⟨[u], []⟩ [(x, u)])
    (hsp : ∀ H : Hp, Only H → SqL K H a (ns.map V.int) → sp [.ref a] H (fun v _ => v = .bl true) fun _ _ _ => False)
    (hCX : ∀ H e s', CX [] H s₁ (fun _ _ _ => False) e s' → False) :
    codeAny (model P w) callerA (.call (.ref fa) ⟨[.ref a], []⟩) (fun r s' => r = .ok (.ret (.bool true)) ∧ OldK s₁.heap s'.heap ∧ s'.os = s₁.os ∧ AllBare s'.gens) s₁ := by
  have rv := vals_ints hi
  have lenV := hi.length
  have core : ∀ H : Hp, Only H → SqL K H a (ns.map V.int) → HOk P w H s₁.heap → (∀ b, H b ≠ none → b = a) → (H a ≠ none → K.lookup a = none) →
      codeAny (model P w) callerA (.call (.ref fa) ⟨[.ref a], []⟩) (fun r s' => r = .ok (.ret (.bool true)) ∧ OldK s₁.heap s'.heap ∧ s'.os = s₁.os ∧ AllBare s'.gens) s₁ := by
    intro H hO hS hok hA hK
    have base_of : ∀ {b : Addr} {o : Obj}, s₁.heap.get? b = some o → H b = none → (hidT s₁.heap H).get? b = some o := fun e n => hidT_get e n
    have noA : ∀ {b : Addr} {o : Obj} {es : Array DictEntry} {ep : Nat}, s₁.heap.get? b = some o → o.data = .dict es ep → H b = none := fun {b o es ep} e d => by
      cases q : H b with
      | none => rfl
      | some u =>
        have e' : b = a := hA b (by rw [q]; simp)
        subst e'
        rw [ha] at e; cases e
        have d' : Data.seq vs.toArray _ = Data.dict es ep := d
        cases d'
    have nsK : ∀ {b : Addr} {m : Str → Option Value}, s₁.heap.Ns b m → (hidT s₁.heap H).Ns b m := fun {b m} ⟨o, es, ep, e, d, r⟩ => ⟨o, es, ep, base_of e (noA e d), d, r⟩
    have hKb : K.In (hidT s₁.heap H) := fun b o e => base_of (KX b o e) (by
      cases q : H b with
      | none => rfl
      | some u =>
        have e' : b = a := hA b (by rw [q]; simp)
        subst e'
        rw [hK (by rw [q]; simp)] at e; cases e)
    have hM : Mod K mg (hidT s₁.heap H) := ⟨hKb, nsK hns, ⟨mb, nsK hb, hbb⟩, let ⟨mc, h1, h2⟩ := hlim; ⟨mc, nsK h1, h2⟩⟩
    have e0 : Env0 P w K mg (hidT s₁.heap H) callerA [] s₁ H := ⟨rfl, hM, fun b o e => of_hidT e, Nat.le_of_eq (hidT_size _ _), trivial, fun b hb => absurd (show b ∈ ([] : List Addr) from hb) (by simp), hok, .of_eq hg⟩
    refine codeAny_mono ((F _ hKb (nsK hns)).run callerA [] s₁ H ⟨[.ref a], []⟩ [.ref a] [.ref a] _ _ hr e0 (hbind s₁ (.ref a)) (.cons rfl .nil) (hsp H hO hS)) fun r s' h => ?_
    cases r with
    | error e => exact (hCX H e s' h).elim
    | ok fl =>
      cases fl with
      | next => exact False.elim h
      | brk => exact False.elim h
      | cont => exact False.elim h
      | ret u =>
        obtain ⟨v, H', os, bare, un, hok', r', q⟩ := h
        have q' : v = .bl true := q
        subst q'
        obtain rfl : u = Value.bool true := r'
        refine ⟨rfl, OldK.of_keep fun b o e => ?_, os, bare⟩
        cases q : H b with
        | none => exact un.keep b o e q (by intro z; exact absurd (show b ∈ ([] : List Addr) from z) (by simp)) (by simp)
        | some u =>
          rcases hO b with z | ⟨ob, xs, z⟩
          · rw [q] at z; cases z
          · have z2 := un.frzs b ob _ z
            obtain ⟨e1, _⟩ := hok b _ z
            obtain ⟨e2, _⟩ := hok' b _ z2
            rw [e] at e1; cases e1
            exact e2
  cases hk : K.lookup a with
  | some o =>
    have e := KX a o hk
    rw [ha] at e
    cases e
    refine core (fun _ => none) (fun _ => .inl rfl) (.inr ⟨_, vs.toArray, _, hk, rfl, rfl, rfl, by rw [List.size_toArray, lenV]; exact hl, by simpa using rv⟩) (fun b u z => by have z' : (none : Option HO) = some u := z; cases z') (fun b z => absurd rfl z) fun z => absurd rfl z
  | none =>
    refine core (fun b => if b = a then some (.frz { cls := .type "list", data := .seq vs.toArray } (.lst (ns.map V.int))) else none) (fun b => ?_) (.inl (.inr ⟨{ cls := .type "list", data := .seq vs.toArray }, if_pos rfl⟩)) (fun b u z => ?_) (fun b z => ?_) fun _ => hk
    · by_cases hb : b = a
      · exact .inr ⟨_, _, if_pos hb⟩
      · exact .inl (if_neg hb)
    · by_cases hb : b = a
      · have z' := (if_pos hb).symm.trans z
        cases z'
        subst hb
        exact ⟨ha, by rw [List.length_map]; exact hl, vs, _, rv, ha⟩
      · have z' := (if_neg hb).symm.trans z
        cases z'
    · by_cases hb : b = a
      · exact hb
      · exact absurd (if_neg hb) z
end L2
namespace L2
open PySem PySem.Spec PyProof.Rows
theorem walk_of {l : PySem.W.OpenLaw} {n k : Nat} {q : Program} {loose : List Str} {XP : (Str → Option Value) → Heap → Prop} {YP : World → Heap → Prop} {d : DefRec} {K : Params → PySem.W.Frag} {CX : World → CXT} {sp : World → Sp} {x : Str}
    (hn : l.most = some n) (hn2 : n ≤ sizeLine) (hdf : d.params.defaults = []) (hr : Room k callerA)
    (hY : ∀ (w : World) (h : Heap), YP w h → (K w.params).In h)
    (F : ∀ (w : World) (mg : Str → Option Value) (fa : Addr) (h : Heap), (K w.params).In h → h.Ns mainGlobals mg → mg d.name = some (.ref fa) →
      ∃ fd : FuncData, (∀ (s : Shared) (u : Value), BindsTo s fd ⟨[u], []⟩ [(x, u)]) ∧
        ∀ base : Heap, (K w.params).In base → base.Ns mainGlobals mg → FnOk l.prog w (K w.params) mg base (CX w) k fa fd [x] (sp w))
    (hsp : ∀ (w : World) (H : Hp) (a : Addr) (ns : List Int), ns.length ≤ n → Only H → SqL (K w.params) H a (ns.map V.int) → sp w [.ref a] H (fun v _ => v = .bl true) fun _ _ _ => False)
    (hCX : ∀ (w : World) (H : Hp) (s : Shared) (e : Value) (s' : Shared), CX w [] H s (fun _ _ _ => False) e s' → False) :
    PySem.W.WalkO q loose XP YP l.row.toRowW d [] (fun f vs => PySem.call f vs) := by
  refine Att.attach_call hn hdf fun w s₀ s₁ mg mb fa o pm cd doc a vs ns G Y ho hd hcd hmg hobj hints hlen hg => ?_
  have KX := hY w _ Y
  obtain ⟨fd, hb, hF⟩ := F w mg fa _ KX G.T.g hmg
  exact law_call KX G.T.g G.T.b G.T.builtins G.T.nolimit hg hobj hints (Nat.le_trans hlen hn2) hr hF hb (fun H hO hS => hsp w H a ns hlen hO hS) fun H e s' => hCX w H s₁ e s'
theorem walk_ofK {l : PySem.W.OpenLaw} {n k : Nat} {q : Program} {loose : List Str} {XP : (Str → Option Value) → Heap → Prop} {YP : World → Heap → Prop} {d : DefRec} {K : Params → PySem.W.Frag} {CX : CXT} {sp : PySem.W.Frag → Sp} {x : Str}
    (hn : l.most = some n) (hn2 : n ≤ sizeLine) (hdf : d.params.defaults = []) (hr : Room k callerA)
    (hY : ∀ (w : World) (h : Heap), YP w h → (K w.params).In h)
    (F : ∀ (w : World) (mg : Str → Option Value) (fa : Addr) (h : Heap), (K w.params).In h → h.Ns mainGlobals mg → mg d.name = some (.ref fa) →
      ∃ fd : FuncData, (∀ (s : Shared) (u : Value), BindsTo s fd ⟨[u], []⟩ [(x, u)]) ∧
        ∀ base : Heap, (K w.params).In base → base.Ns mainGlobals mg → FnOk l.prog w (K w.params) mg base CX k fa fd [x] (sp (K w.params)))
    (hsp : ∀ (K : PySem.W.Frag) (H : Hp) (a : Addr) (ns : List Int), ns.length ≤ n → Only H → SqL K H a (ns.map V.int) → sp K [.ref a] H (fun v _ => v = .bl true) fun _ _ _ => False)
    (hCX : ∀ (H : Hp) (s : Shared) (e : Value) (s' : Shared), CX [] H s (fun _ _ _ => False) e s' → False) :
    PySem.W.WalkO q loose XP YP l.row.toRowW d [] (fun f vs => PySem.call f vs) :=
  walk_of (K := K) (CX := fun _ => CX) (sp := fun w => sp (K w.params)) hn hn2 hdf hr hY F (fun w H a ns h1 h2 h3 => hsp (K w.params) H a ns h1 h2 h3) fun _ H s e s' => hCX H s e s'
end L2
namespace L2
open PySem PySem.Spec PyProof.Rows
def defArgs (s : Stmt) : Arguments := match s with
  | .FunctionDef _ a _ _ _ _ _ _ _ _ => a
  | _ => { posonlyargs := [], args := [], vararg := none, kwonlyargs := [], kw_defaults := [], kwarg := none, defaults := [] }
def defBody (s : Stmt) : List Stmt := match s with
  | .FunctionDef _ _ b _ _ _ _ _ _ _ => b
  | _ => []
def defScope (s : Stmt) : Scope := match s with
  | .FunctionDef _ _ _ _ _ _ sc _ _ _ => sc
  | _ => { kind := .function, names := [], isGenerator := false, isCoroutine := false }
abbrev CX0 : CXT := fun _ _ _ _ _ _ => False
abbrev E0 : XK := fun _ _ _ => False
theorem pass0 {X : Cx} : Passes CX0 X E0 := fun _ _ _ _ _ _ _ h => h.elim
structure Fun (K : PySem.W.Frag) (x qual : Str) (st : Stmt) (f : Addr) (fd : FuncData) : Prop where
  ex : ∃ (oc : Value) (od : Option Addr) (kV doc pm : Value) (an : Option Addr) (cdv ct : Value) (osl : Array (Option Value)),
    fd = PySem.W.fnOf x qual (defArgs st) (defBody st) (defScope st) .none kV doc pm an cdv ct ∧ K.lookup f = some ⟨oc, od, .func fd, osl⟩ ∧ PySem.W.codeIn K cdv qual = true
  kp : PySem.W.keepIn K (.ref f) = true
section
variable {P : Program} {w : World} {K : PySem.W.Frag} {mg : Str → Option Value} {base : Heap}
theorem Fun.ok {x qual : Str} {st : Stmt} {f : Addr} {fd : FuncData} {N ps : List Str} {k : Nat} {sp : Sp} (F : Fun K x qual st f fd) (S : FnScope N ps (defScope st)) (len : ∀ vs H Q E, sp vs H Q E → vs.length = ps.length)
    (hbody : ∀ (cdv : Value) (A : Around) (outer : List Env) (s : Shared) (H : Hp) (vs : List V) (Q : VK) (E : XK), Room k (A.deeper (envOfC qual (defScope st) s.heap.objs.size f cdv)) → sp vs H Q E →
      ∃ t, PSs (cxOf CX0 P w K mg base N qual (defScope st) f cdv A outer s H E).nox (defBody st) t ∧ t { nx := fun _ H' => Q .non H', rt := Q } (start N vs) H) : FnOk P w K mg base CX0 (k + 1) f fd ps sp := by
  obtain ⟨oc, od, kV, doc, pm, an, cdv, ct, osl, rfl, lk, hcd⟩ := F.ex
  refine fn_of lk hcd S len fun A outer s H vs Q E hr hsp => ?_
  obtain ⟨t, h, q⟩ := hbody cdv A outer s H vs Q E hr hsp
  exact ⟨t, h.nox, q⟩
theorem Fun.binds {x qual : Str} {st : Stmt} {f : Addr} {fd : FuncData} {ps : List Str} (F : Fun K x qual st f fd)
    (h : ∀ (kV doc pm : Value) (an : Option Addr) (cdv ct : Value) (us : List Value), us.length = ps.length → bindArgs (PySem.W.fnOf x qual (defArgs st) (defBody st) (defScope st) .none kV doc pm an cdv ct) ⟨us, []⟩ = pure (ps.zip us)) : Binds K fd ps [] := by
  obtain ⟨oc, od, kV, doc, pm, an, cdv, ct, osl, rfl, lk, hcd⟩ := F.ex
  exact .all (h kV doc pm an cdv ct)
theorem fun_mk {x qual : Str} {st : Stmt} {f : Addr} {oc : Value} {od an : Option Addr} {osl : Array (Option Value)} {kV doc pm cdv ct : Value} (l : K.lookup f = some ⟨oc, od, .func (PySem.W.fnOf x qual (defArgs st) (defBody st) (defScope st) .none kV doc pm an cdv ct), osl⟩)
    (c : PySem.W.codeIn K cdv qual = true) (k : PySem.W.keepIn K (.ref f) = true) : Fun K x qual st f (PySem.W.fnOf x qual (defArgs st) (defBody st) (defScope st) .none kV doc pm an cdv ct) := ⟨⟨oc, od, kV, doc, pm, an, cdv, ct, osl, rfl, l, c⟩, k⟩
end
theorem hu_of {A : Around} {k : Nat} (hr : Room k A) : A.units + 1 < cLine := Nat.lt_of_le_of_lt (Nat.add_le_add_left (by decide : 1 ≤ 64) _) hr.units
theorem small1000 {n : Nat} (h : n ≤ 1000) : n < sizeLine := Nat.lt_of_le_of_lt h (by decide)
section
variable {X : Cx}
theorem pv (i : Nat) {x : Str} {pos : Pos} (hN : X.N[i]? = some x := by rfl) (hv : Vis X.env.scope x := by first | exact Or.inl rfl | exact Or.inr (Or.inl rfl) | exact Or.inr (Or.inr rfl)) (hd : (x == ("__debug__" : Str)) = false := by decide)
    (hcd : (x == ("__classdict__" : Str)) = false := by decide) : PE X (.Name x pos) (tVar i) := pe_var hN hv hd hcd
end
theorem iteT {A B : Prop} (h : A) : if true = true then A else B := by
  rw [if_pos rfl]
  exact h
def Same (H H' : Hp) : Prop := ∀ b o, H b = some o → H' b = some o
theorem Same.refl (H : Hp) : Same H H := fun _ _ h => h
theorem Same.trans {H H1 H2 : Hp} (a : Same H H1) (b : Same H1 H2) : Same H H2 := fun c o h => b c o (a c o h)
theorem Same.free {H H' : Hp} (e : Same H H') {l : Addr} (h : H' l = Option.none) : H l = Option.none := by
  cases q : H l with
  | none => rfl
  | some o =>
    rw [e l o q] at h
    cases h
section
variable {κ : Type} [DecidableEq κ]
theorem valV_in {kvs : List (κ × V)} {k : κ} {v : V} (h : valV kvs k = some v) : k ∈ kvs.map (·.1) := by
  have q : (kvs.any fun kv => decide (kv.1 = k)) = true := by
    rw [valV_any, h]
    all_goals rfl
  obtain ⟨p, hp, e⟩ := List.any_eq_true.mp q
  exact List.mem_map.mpr ⟨p, hp, of_decide_eq_true e⟩
end
end L2
namespace L2
open PySem PySem.Spec PyProof.Rows
section
variable {prog : Program} {w : World} {A : Around} {R : Result → Shared → Prop} {s : Shared}
theorem comp_loop {elt tg iter : Expr} {ifs : List Expr} {sc : Scope} {pos : Pos} {it acc : Value} {ce : Env} (J : Nat → Shared → Prop)
    (turn : ∀ n s, J n s → wpAny (model prog w) A (pyNext it) (fun r s1 => match r with
      | none => R (.ok .next) s1
      | some v => wpAny (model prog w) A (letOwnedTupleGo tg it v) (fun _ s2 => wpAny (model prog w) A (assign tg ce v) (fun _ s3 =>
          wpAny (model prog w) A (forIn ifs true fun c r => if r = true then do let ok ← isTrue c ce (eval c ce); pure (ForInStep.yield ok) else pure (ForInStep.yield r)) (fun ok s4 =>
            if ok = true then
              wpAny (model prog w) A (eval elt ce) (fun x s5 => wpAny (model prog w) A (call (.builtin "list.append") [acc, x]) (fun _ s6 => ∃ m, m < n ∧ J m s6) (fun _ _ => False) s5) (fun _ _ => False) s4
            else ∃ m, m < n ∧ J m s4) (fun _ _ => False) s3) (fun _ _ => False) s2) (fun _ _ => False) s1) (fun _ _ => False) s)
    (n : Nat) (h : J n s) : codeAny (model prog w) A (.compLoop (.ListComp elt [⟨tg, iter, ifs, 0⟩] sc pos) 0 it acc ce) R s := by
  refine codeAny_loop rfl J (fun n s hJ => ?_) n h
  show wpAny _ A ((compTurn (.ListComp elt [⟨tg, iter, ifs, 0⟩] sc pos) 0 it acc ce).onRaise (fun x => do noteFrame x ce; theTreesLotGoes x)) _ _ s
  refine wpAny_noted ?_
  rw [compTurn_list]
  refine wpAny_bind (wpAny_standAt (wpAny_bind (wpAny_mono (turn n s hJ) (fun r s1 h1 => ?_) fun _ _ f => f.elim)))
  cases r with
  | none => exact wpAny_pure h1
  | some v =>
    refine wpAny_bind (wpAny_mono h1 (fun _ s2 h2 => ?_) fun _ _ f => f.elim)
    refine wpAny_bind (wpAny_mono h2 (fun _ s3 h3 => ?_) fun _ _ f => f.elim)
    refine wpAny_bind (wpAny_mono h3 (fun ok s4 h4 => ?_) fun _ _ f => f.elim)
    cases ok with
    | false => exact wpAny_pure ⟨rfl, h4⟩
    | true =>
      refine wpAny_bind (wpAny_bind (wpAny_mono h4 (fun x s5 h5 => ?_) fun _ _ f => f.elim))
      exact wpAny_bind (wpAny_mono h5 (fun _ s6 h6 => wpAny_pure (wpAny_pure ⟨rfl, h6⟩)) fun _ _ f => f.elim)
end
def compCx (X : Cx) (N : List Str) (sc : Scope) (cl : List (Str × Addr)) (s : Shared) (H : Hp) (fp : List Addr) : Cx where
  prog := X.prog
  w := X.w
  K := X.K
  mg := X.mg
  base := X.base
  A := X.A
  N := N
  s₀ := s
  H₀ := H
  env := compEnvC sc cl (s.heap.objs.size + 1) X.env
  outer := X.stack
  stack := X.stack
  ex := fp
  fn := fun _ => false
  calm := X.calm
  pn := []
  xe := fun _ _ => False
def compSt (own : List Str) (fr : List (Str × Nat)) (σ : St) : St := own.map (fun _ => none) ++ fr.map fun p => (σ[p.2]?).join
def KeepS (σ σ' : St) : Prop := σ.length = σ'.length ∧ ∀ (i : Nat) v, σ[i]? = some (some v) → σ'[i]? = some (some v)
def Fresh (g : TG) (σ : St) : Prop := ∀ x H (Q : St → Hp → Prop), g x σ H Q → g x σ H fun σ' H' => KeepS σ σ' ∧ Q σ' H'
theorem KeepS.set {σ : St} {i : Nat} (h : σ[i]? = some none) (v : V) : KeepS σ (σ.set i (some v)) := by
  refine ⟨by simp, fun j u e => ?_⟩
  by_cases hj : i = j
  · subst hj; rw [h] at e; cases e
  · rw [List.getElem?_set_ne hj]; exact e
theorem fresh_name {σ : St} {i : Nat} (h : σ[i]? = some none) : Fresh (gName i) σ := fun x H Q q => ⟨KeepS.set h x, q⟩
def PTs (X : Cx) (ifs : List Expr) (t : TT) : Prop :=
  ∀ (pins : List (Addr × Obj)) (s : Shared) (σ : St) (H : Hp) (Q : Bool → Hp → Prop), Inv X pins σ H s → t σ H Q →
    wpAny (model X.prog X.w) X.A (forIn ifs true fun c r => if r = true then do let ok ← isTrue c X.env (eval c X.env); pure (ForInStep.yield ok) else pure (ForInStep.yield r)) (TP X pins σ Q) X.xe s
theorem pts_nil {X : Cx} : PTs X [] (fun _ H Q => Q true H) := fun _ _ _ H _ I h => wpAny_tests_nil ⟨H, I, h⟩
theorem pts_one {X : Cx} {c : Expr} {t : TT} (h : PT X c t) : PTs X [c] t := fun pins s σ H Q I q => wpAny_tests_one (h pins s σ H Q I q)
def LCb (own : List Str) (fr : List (Str × Nat)) (g : TG) (tt : TT) (te : TE) (σ : St) (Q : VK) (J : It) (H1 : Hp) : Prop := ∃ W : Nat → Nat → List V → Hp → Prop, (∃ m, W 0 m [] H1) ∧ ∀ i m ys H, W i m ys H →
  (J.stop i H ∧ ∀ p, H p = none → Q (.ref p) (upd H p (.lst ys))) ∨ (J.go i H ∧ ys.length < sizeLine ∧ ∀ x H', J.yld i H x H' → g x (compSt own fr σ) H' fun σ2 H2 => tt σ2 H2 fun b H3 =>
    if b = true then te σ2 H3 fun y H4 => ∃ m', m' < m ∧ W (i + 1) m' (ys ++ [y]) H4 else ∃ m', m' < m ∧ W (i + 1) m' ys H3)
def tLC (own : List Str) (fr : List (Str × Nat)) (wi : TI) (g : TG) (tt : TT) (te : TE) : TE := fun σ H Q => wi σ H fun J H1 => LCb own fr g tt te σ Q J H1
abbrev accObj (us : List Value) : Obj := { cls := .type "list", data := .seq us.toArray us.length }
theorem acc_snoc (us : List Value) (u : Value) : ({ cls := .type "list", data := .seq (us.toArray.push u) (us.length + 1) } : Obj) = accObj (us ++ [u]) := by
  unfold accObj
  rw [List.length_append, List.length_singleton, List.push_toArray]
structure Caps (X : Cx) (sc : Scope) (cl : List (Str × Addr)) (fr : List (Str × Nat)) : Prop where
  clos : closureFor sc X.env = pure cl
  sub : ∀ x c, cl.lookup x = some c → X.env.cells.lookup x = some c
  has : ∀ x, ((relabel sc X.env).names.lookup x = some .cell ∨ (relabel sc X.env).names.lookup x = some .free) → ∃ c, cl.lookup x = some c
  cap : ∀ p ∈ fr, X.N[p.2]? = some p.1 ∧ X.env.kindOf p.1 ≠ some .local ∧ Vis X.env.scope p.1 ∧ ((relabel sc X.env).names.lookup p.1 = some .cell ∨ (relabel sc X.env).names.lookup p.1 = some .free)
structure CompSc (sc : Scope) : Prop where
  kind : sc.kind = .function
  cell : ∀ y ∈ sc.names, y.2 ≠ .cell
  nms : ∀ y ∈ sc.names, y.2 = .local → sc.names.lookup y.1 = some .local
section
variable {X : Cx}
theorem Inv.stkNot {pins : List (Addr × Obj)} {σ : St} {H : Hp} {s : Shared} (I : Inv X pins σ H s) {b : Addr} (h1 : b ≠ X.env.locals) (h2 : b ∉ X.fs) : b ∉ frs X.stack := fun z => by
  rcases List.mem_cons.mp (I.stkSub b z) with e | e
  · exact h1 e
  · exact h2 e
theorem compSt_get {own : List Str} {fr : List (Str × Nat)} {σ : St} {N : List Str} (hN : N = own ++ fr.map (·.1)) {i : Nat} {x : Str} {v : V} (h1 : N[i]? = some x) (h2 : (compSt own fr σ)[i]? = some (some v)) :
    ∃ p ∈ fr, p.1 = x ∧ σ[p.2]? = some (some v) := by
  unfold compSt at h2
  subst hN
  by_cases hi : i < own.length
  · rw [List.getElem?_append_left (by simpa using hi), List.getElem?_map] at h2
    rw [List.getElem?_eq_getElem hi] at h2
    cases h2
  · rw [List.getElem?_append_right (by simpa using hi), List.length_map, List.getElem?_map] at h2
    rw [List.getElem?_append_right (by simpa using hi), List.getElem?_map] at h1
    cases e : fr[i - own.length]? with
    | none => rw [e] at h1; cases h1
    | some p =>
      rw [e] at h1 h2
      refine ⟨p, List.mem_of_getElem? e, Option.some.inj h1, ?_⟩
      have h2' : (σ[p.2]?).join = some v := Option.some.inj h2
      cases e3 : σ[p.2]? with
      | none => rw [e3] at h2'; cases h2'
      | some o => rw [e3] at h2'; rw [show o = some v from h2']
theorem Inv.block {pins : List (Addr × Obj)} {σ : St} {H : Hp} {s : Shared} {own : List Str} {fr : List (Str × Nat)} {sc : Scope} {cl : List (Str × Addr)} {fp : List Addr} {h1 : Heap} {m : Str → Option Value} {tk : Nat}
    (I : Inv X pins σ H s) (hf : ∀ b ∈ fp, FpOk X pins H b) (hfl : ∀ b ∈ fp, b < s.heap.objs.size) (S : CompSc sc) (C : Caps X sc cl fr)
    (old : ∀ b o, s.heap.get? b = some o → h1.get? b = some o) (hn : h1.Ns (s.heap.objs.size + 1) m) (hD : h1.get? s.heap.objs.size = some (accObj [])) :
    Inv (compCx X (own ++ fr.map (·.1)) sc cl s H fp) [(s.heap.objs.size, accObj [])] (compSt own fr σ) H { s with heap := h1, toks := tk } := by
  have cellLt : ∀ x c, cl.lookup x = some c → c < s.heap.objs.size := fun x c e => by
    obtain ⟨v, z⟩ := I.cell x c (C.sub x c e)
    exact z.lt
  have sizeC : s.heap.objs.size ≤ s.heap.objs.size + 1 := Nat.le_succ _
  refine ⟨⟨I.ok.mod, S.kind, I.ok.glob, I.ok.blt, sizeC, fun x y c e1 e2 => I.ok.inj x y c (C.sub x c e1) (C.sub y c e2), fun x hx => C.has x hx, fun _ _ z => (by cases z), I.ok.hd, I.ok.frames, .inl rfl, fun b hb => ⟨?_, fun x c e z => ?_⟩,
    I.bs, Nat.le_trans I.ok.bsz I.sz, fun b o e hb => ?_, fun b hb z => ?_, I.stack, I.stkFree⟩, rfl, I.bare, Un.kept old, ⟨m, hn, fun i x v e1 e2 e3 => ?_⟩, fun x c e => ?_, I.hok.fresh sizeC, fun x c e => I.freeC x c (C.sub x c e), fun p hp => ?_, I.hok.kept old, ?_⟩
  · exact Nat.ne_of_lt (Nat.lt_succ_of_lt (hfl b hb))
  · exact (hf b hb).2.2.2.2.1 x c (C.sub x c e) z
  · rcases (hf b hb).2.2.2.1 with z | z
    · exact I.ok.noex b o e z
    · exact absurd (Nat.lt_of_lt_of_le (Heap.lt_size e) (Nat.le_trans I.ok.bsz z)) (Nat.lt_irrefl _)
  · exact I.stkNot (hf b hb).2.1 (hf b hb).2.2.1 z
  · obtain ⟨p, hp, rfl, e4⟩ := compSt_get rfl e1 e2
    obtain ⟨c1, c2, c3, c4⟩ := C.cap p hp
    obtain ⟨m0, hn0, hl⟩ := I.loc
    obtain ⟨u, r, l⟩ := hl p.2 p.1 v c1 e4 c3
    refine ⟨u, r, .inr ⟨c4, ?_⟩⟩
    rcases l with ⟨k, _⟩ | ⟨_, c, hc, ho, hoe, hod⟩
    · exact absurd k c2
    · obtain ⟨c', hc'⟩ := C.has p.1 c4
      have := C.sub p.1 c' hc'
      rw [hc] at this
      cases this
      exact ⟨c, hc', ho, old _ _ hoe, hod⟩
  · obtain ⟨v, o, ho, hd⟩ := I.cell x c (C.sub x c e)
    exact ⟨v, o, old _ _ ho, hd⟩
  · have hp' : p = (s.heap.objs.size, accObj []) := by simpa [compCx] using hp
    subst hp'
    refine ⟨hD, I.hok.fresh (Nat.le_refl _), ?_, ?_, fun v z => by cases z⟩
    · exact Nat.ne_of_lt (Nat.lt_succ_self _)
    · exact I.stkNot (Nat.ne_of_gt I.lt) (I.nofs (Nat.le_refl _))
  · show (compSt own fr σ).length = (own ++ fr.map (·.1)).length
    unfold compSt
    rw [List.length_append, List.length_append, List.length_map, List.length_map, List.length_map]
theorem HOk.track {P : Program} {w : World} {H : Hp} {h : Heap} {a : Addr} {o : HO} (x : HOk P w H h) (hn : H a = none) (new : ObjOk P w (upd H a o) h a o) : HOk P w (upd H a o) h := fun b u e => by
  by_cases hb : b = a
  · subst hb; rw [upd_same] at e; cases e; exact new
  · rw [upd_ne hb] at e
    exact (x b u e).stay (fun c v _ q => q) (fun c q => by rw [upd_ne (ne_of_none q hn)]; exact q) fun c xs q => by rw [upd_ne (ne_of_none q hn)]; exact q
theorem Inv.unblock {pins : List (Addr × Obj)} {σ : St} {H H3 : Hp} {s s4 : Shared} {N : List Str} {σ3 : St} {sc : Scope} {cl : List (Str × Addr)} {fp : List Addr} {h' : Heap} {ys : List V} {us : List Value}
    (I : Inv X pins σ H s) (hf : ∀ b ∈ fp, FpOk X pins H b) (I4 : Inv (compCx X N sc cl s H fp) [(s.heap.objs.size, accObj us)] σ3 H3 s4) (hv : Vals ys us) (hz : ys.length ≤ sizeLine)
    (hs : Heap.SameBut (s.heap.objs.size + 1) s4.heap h') : Inv X pins σ (upd H3 s.heap.objs.size (.lst ys)) { s4 with heap := h' } := by
  obtain ⟨eD, nD, neD, _, _⟩ := I4.pin (s.heap.objs.size, accObj us) (List.mem_append_right _ (by simp))
  have eD : s4.heap.get? s.heap.objs.size = some (accObj us) := eD
  have nD : H3 s.heap.objs.size = none := nD
  have b4 : Un (frs X.stack) fp H H3 s.heap s4.heap := I4.base
  have nC : H3 (s.heap.objs.size + 1) = none := I4.free
  have neC : ∀ b o, s.heap.get? b = some o → b ≠ s.heap.objs.size + 1 := fun b o e => Nat.ne_of_lt (Nat.lt_succ_of_lt (Heap.lt_size e))
  have neD' : ∀ b o, s.heap.get? b = some o → b ≠ s.heap.objs.size := fun b o e => Nat.ne_of_lt (Heap.lt_size e)
  have k4 : ∀ b o, b ≠ s.heap.objs.size + 1 → s4.heap.get? b = some o → h'.get? b = some o := fun b o hb e => hs.extBut b o hb e
  refine I.call' (s' := { s4 with heap := h' }) (ch := fp) I4.os ⟨fun b o e n h1 h2 => k4 b o (neC b o e) (b4.keep b o e n h1 h2), fun b o e n h1 h2 => ?_, fun b o e n h2 => ?_, fun b o e h2 => ?_,
    fun b xs e => ?_, fun b o u e => ?_, fun b ps e => ?_⟩ ?_ I4.bare fun b hb => ⟨(hf b hb).2.2.2.1, (hf b hb).2.1, (hf b hb).2.2.2.2.1, (hf b hb).2.2.2.2.2⟩
  · obtain ⟨sl, q⟩ := b4.slot b o e n h1 h2
    exact ⟨sl, k4 b _ (neC b o e) q⟩
  · rw [upd_ne (neD' b o e)]; exact b4.free b o e n h2
  · obtain ⟨o', q⟩ := b4.there b o e h2
    exact ⟨o', k4 b _ (neC b o e) q⟩
  · have q := b4.tups b xs e
    rw [upd_ne (ne_of_none q nD)]; exact q
  · have q := b4.frzs b o u e
    rw [upd_ne (ne_of_none q nD)]; exact q
  · obtain ⟨more, q⟩ := b4.tbls b ps e
    exact ⟨more, by rw [upd_ne (ne_of_none q nD)]; exact q⟩
  · have hk : HOk X.prog X.w H3 h' := fun b u e => (I4.hok b u e).stay (fun c v hc q => k4 c v (fun z => by
      subst z
      rcases hc with hc | hc
      · subst hc; rw [nC] at e; cases e
      · rw [nC] at hc; cases hc) q) (fun _ q => q) fun _ _ q => q
    refine hk.track nD ⟨hz, us, us.length, hv, k4 _ _ (Nat.ne_of_lt (Nat.lt_succ_self _)) eD⟩
theorem comp_core {elt tg iter : Expr} {ifs : List Expr} {sc : Scope} {pos : Pos} {own : List Str} {fr : List (Str × Nat)} {cl : List (Str × Addr)} {g : TG} {tt : TT} {te : TE} {RR : Value → Addr → Result → Shared → Prop} {E : Value → Shared → Prop}
    {pins : List (Addr × Obj)} {σ : St} {H2 : Hp} {s2 : Shared} {Q : VK} {it : Addr} {fp : List Addr} {tn : Nat → Heap → Prop} {J : It} (hc : X.calm = true) (S : CompSc sc) (C : Caps X sc cl fr)
    (hg : ∀ s H fp, PG (compCx X (own ++ fr.map (·.1)) sc cl s H fp) tg g) (hfr : ∀ σ, Fresh g (compSt own fr σ)) (ht : ∀ s H fp, PTs (compCx X (own ++ fr.map (·.1)) sc cl s H fp) ifs tt)
    (he : ∀ s H fp, PE (compCx X (own ++ fr.map (·.1)) sc cl s H fp) elt te) (I2 : Inv X pins σ H2 s2) (T : Turn X.prog X.w X.K tg J fp it tn) (st2 : tn 0 s2.heap) (f2 : ∀ b ∈ fp, FpOk X pins H2 b) (hW : LCb own fr g tt te σ Q J H2)
    (hRR : ∀ s5 H4 ys us, Inv (compCx X (own ++ fr.map (·.1)) sc cl s2 H2 fp) [(s2.heap.objs.size, accObj us)] (compSt own fr σ) H4 s5 → Vals ys us → ys.length ≤ sizeLine → (∀ p, H4 p = none → Q (.ref p) (upd H4 p (.lst ys))) →
      RR (.ref s2.heap.objs.size) (s2.heap.objs.size + 1) (.ok .next) s5) :
    wpAny (model X.prog X.w) X.A (newList []) (fun acc s3 => wpAny (model X.prog X.w) X.A (newFunctionEnv sc X.env.globals cl [] X.env.qual none .none (some X.env)) (fun ce s4 =>
      codeAny (model X.prog X.w) X.A (.compStart (.ListComp elt [⟨tg, iter, ifs, 0⟩] sc pos) 0 (.ref it) acc { ce with scope := relabel sc X.env }) (RR acc ce.locals) s4) E s3) E s2 := by
  obtain ⟨W, ⟨m0, w0⟩, turn⟩ := hW
  have fpl : ∀ b ∈ fp, b < s2.heap.objs.size := fun b hb => by
    obtain ⟨o, e, _⟩ := T.obj _ _ st2 b hb
    exact Heap.lt_size e
  refine wpAny_newObj_type (wpAny_newFunctionEnv S.cell (by intro y hy; simp at hy) (fun h₁ hns₁ hsb₁ => ?_) S.kind)
  dsimp only at hns₁ hsb₁ ⊢
  generalize hH2 : s2.heap.push { cls := .type "list", dict := none, data := .seq ([] : List Value).toArray } = G at hns₁ hsb₁ ⊢
  have hC : G.objs.size = s2.heap.objs.size + 1 := by rw [← hH2, Heap.size_push]
  rw [hC] at hns₁ hsb₁ ⊢
  have old : ∀ b o, s2.heap.get? b = some o → h₁.get? b = some o := fun b o e => by
    exact hsb₁.extBut b o (Nat.ne_of_lt (Nat.lt_succ_of_lt (Heap.lt_size e))) (Heap.get?_push_of_some _ (hH2 ▸ Heap.get?_push_of_some _ e))
  have hacc : h₁.get? s2.heap.objs.size = some (accObj []) := hsb₁.extBut _ _ (Nat.ne_of_lt (Nat.lt_succ_self _)) (Heap.get?_push_of_some _ (hH2 ▸ Heap.get?_push_size _ rfl))
  have I3 := I2.block (own := own) (tk := s2.toks + ([] : List (Str × Value)).length) f2 fpl S C old hns₁ hacc
  have stat : ∀ {H' : Hp} {us : List Value}, (∀ b ∈ fp, H' b = none) → ∀ b ∈ fp, FpOk (compCx X (own ++ fr.map (·.1)) sc cl s2 H2 fp) [(s2.heap.objs.size, accObj us)] H' b := fun {H' us} hn b hb => by
    obtain ⟨_, g1, g2, g3, g4, g5⟩ := f2 b hb
    have hbl := fpl b hb
    refine ⟨hn b hb, ?_, I2.stkNot g1 g2, .inl hb, fun x c e => g4 x c (C.sub x c e), fun p hp => ?_⟩
    · exact Nat.ne_of_lt (Nat.lt_succ_of_lt hbl)
    · have hp' : p = (s2.heap.objs.size, accObj us) := by simpa [compCx] using hp
      subst hp'
      exact Nat.ne_of_gt hbl
  have loop : ∀ s3 : Shared, s3 = { s2 with heap := h₁, toks := s2.toks + ([] : List (Str × Value)).length } →
      codeAny (model X.prog X.w) X.A (.compLoop (.ListComp elt [⟨tg, iter, ifs, 0⟩] sc pos) 0 (.ref it) (.ref s2.heap.objs.size) (compEnvC sc cl (s2.heap.objs.size + 1) X.env))
        (RR (.ref s2.heap.objs.size) (s2.heap.objs.size + 1)) s3 := by
    rintro s3 rfl
    refine comp_loop (fun n s' => ∃ i ys us H', Vals ys us ∧ Inv (compCx X (own ++ fr.map (·.1)) sc cl s2 H2 fp) [(s2.heap.objs.size, accObj us)] (compSt own fr σ) H' s' ∧ tn i s'.heap ∧ (∀ b ∈ fp, H' b = none) ∧ ys.length ≤ sizeLine ∧ W i n ys H') ?_ m0
      ⟨0, [], [], H2, .nil, I3, T.keep _ _ _ st2 fun b _ o e => old b o e, fun b hb => (f2 b hb).1, Nat.zero_le _, w0⟩
    rintro n s4 ⟨i, ys, us, H4, hv, I4, st4, fr4, hz, w4⟩
    rcases turn i n ys H4 w4 with ⟨stop, fin⟩ | ⟨go, hlt, step⟩
    · refine thn (T.done (compCx X (own ++ fr.map (·.1)) sc cl s2 H2 fp) rfl rfl rfl hc i _ s4 _ H4 _ I4 (stat fr4) st4 stop) fun r s5 ⟨hr, I5⟩ => ?_
      subst hr
      exact hRR s5 H4 ys us I5 hv hz fin
    · refine thn (T.item (compCx X (own ++ fr.map (·.1)) sc cl s2 H2 fp) rfl rfl rfl hc i _ s4 _ H4 _ I4 (stat fr4) st4 go) fun r s5 ⟨u, hr, h5⟩ => ?_
      subst hr
      refine thn h5 fun _ s6 ⟨x, H6, I6, r6, y6, st6, fr6⟩ => ?_
      have I6' := I6.pinned (stat fr6) (T.obj _ _ st6)
      refine thn (hg s2 H2 fp _ s6 _ H6 x u _ I6' r6 (hfr σ x H6 _ (step x H6 y6))) fun _ s7 ⟨σ7, H7, I7, k7, q7⟩ => ?_
      refine thn (ht s2 H2 fp _ s7 σ7 H7 _ I7 q7) fun ok s8 ⟨H8, I8, q8⟩ => ?_
      have fps : ∀ {pins' : List (Addr × Obj)} {σ' : St} {H' : Hp} {s' : Shared}, Inv (compCx X (own ++ fr.map (·.1)) sc cl s2 H2 fp) ([(s2.heap.objs.size, accObj us)] ++ pinsAt fp s6.heap) σ' H' s' → ∀ b ∈ fp, (∀ o, s6.heap.get? b = some o → s'.heap.get? b = some o) ∧ H' b = none := fun {pins' σ' H' s'} I' b hb => by
        obtain ⟨o, e, _⟩ := T.obj _ _ st6 b hb
        have z := I'.pin (b, o) (List.mem_append_right _ (List.mem_append_right _ (mem_pinsAt hb e)))
        exact ⟨fun o' e' => by rw [e] at e'; cases e'; exact z.1, z.2.1⟩
      cases ok with
      | false =>
        rw [if_neg Bool.false_ne_true] at q8
        obtain ⟨m', hm, w8⟩ := q8
        rw [if_neg Bool.false_ne_true]
        exact ⟨m', hm, i + 1, ys, us, H8, hv, (I8.unpinned).weak k7.1 k7.2, T.keep _ _ _ st6 fun b hb o e => (fps (pins' := []) I8 b hb).1 o e, fun b hb => (fps (pins' := []) I8 b hb).2, hz, w8⟩
      | true =>
        rw [if_pos rfl] at q8
        rw [if_pos rfl]
        refine thn (he s2 H2 fp _ s8 σ7 H8 _ I8 q8) fun y s9 ⟨v, H9, I9, r9, m', hm, w9⟩ => ?_
        have pD := I9.pin (s2.heap.objs.size, accObj us) (List.mem_append_right _ (List.mem_append_left _ (by simp)))
        have zD : s9.heap.get? s2.heap.objs.size = some (accObj us) := pD.1
        have nD : H9 s2.heap.objs.size = none := pD.2.1
        refine append_at (hsz := by show us.toArray.size ≤ sizeLine; rw [List.size_toArray, ← hv.length]; exact hz) zD fun h5 hs5 hD5 => ?_
        have Ia : Inv (compCx X (own ++ fr.map (·.1)) sc cl s2 H2 fp) (pinsAt fp s6.heap) σ7 H9 s9 := I9.pins_of fun p hp => I9.pin p (List.mem_append_right _ (List.mem_append_right _ hp))
        have neD : s2.heap.objs.size ≠ s2.heap.objs.size + 1 := Nat.ne_of_lt (Nat.lt_succ_self _)
        have Ib : Inv (compCx X (own ++ fr.map (·.1)) sc cl s2 H2 fp) (pinsAt fp s6.heap) σ7 H9 { s9 with heap := h5, toks := s9.toks } := Ia.turned (it := s2.heap.objs.size) (fun b o hb e => hs5.extBut b o hb e) nD neD (.inr (Nat.le_refl _)) (fun x c e z => by
            obtain ⟨v', q⟩ := I2.cell x c (C.sub x c e)
            have q' := q.lt
            rw [z] at q'
            exact Nat.lt_irrefl _ q') fun p hp z => by
            have hp' : p ∈ pinsAt fp s6.heap := by simpa [compCx] using hp
            have q' := fpl p.1 (of_pinsAt hp').1
            rw [z] at q'
            exact Nat.lt_irrefl _ q'
        have Ic : Inv (compCx X (own ++ fr.map (·.1)) sc cl s2 H2 fp) [(s2.heap.objs.size, accObj (us ++ [y]))] σ7 H9 { s9 with heap := h5, toks := s9.toks } := Ib.pins_of fun p hp => by
          have hp' : p = (s2.heap.objs.size, accObj (us ++ [y])) := by simpa using hp
          subst hp'
          exact ⟨hD5.trans (congrArg some (acc_snoc us y)), nD, neD, pD.2.2.2.1, fun v z => by cases z⟩
        refine ⟨m', hm, i + 1, ys ++ [v], us ++ [y], H9, hv.append (.cons r9 .nil), Ic.weak k7.1 k7.2, T.keep _ _ _ st6 fun b hb o e => ?_, fun b hb => (fps (pins' := []) I9 b hb).2, ?_, w9⟩
        · exact hs5.extBut b o (Nat.ne_of_lt (fpl b hb)) ((fps (pins' := []) I9 b hb).1 o e)
        · rw [List.length_append]; exact hlt
  exact codeAny_compStart_list (loop _ rfl) (T.self _ 0 _ _ _ (T.keep _ _ _ st2 fun b _ o e => old b o e) (loop _ rfl))
theorem pe_lcomp {elt tg iter : Expr} {ifs : List Expr} {sc : Scope} {pos : Pos} {own : List Str} {fr : List (Str × Nat)} {cl : List (Str × Addr)} {wi : TI} {g : TG} {tt : TT} {te : TE} (hc : X.calm = true) (hi : PI X tg iter wi) (S : CompSc sc) (C : Caps X sc cl fr)
    (hg : ∀ s H fp, PG (compCx X (own ++ fr.map (·.1)) sc cl s H fp) tg g) (hfr : ∀ σ, Fresh g (compSt own fr σ)) (ht : ∀ s H fp, PTs (compCx X (own ++ fr.map (·.1)) sc cl s H fp) ifs tt)
    (he : ∀ s H fp, PE (compCx X (own ++ fr.map (·.1)) sc cl s H fp) elt te) (hs : ∀ x, foldedSetIterable iter X.env x = pure x := by intro _; rfl) :
    PE X (.ListComp elt [⟨tg, iter, ifs, 0⟩] sc pos) (tLC own fr wi g tt te) := by
  intro pins s σ H Q I h
  rw [eval_ListComp]
  refine wpAny_comprehension_free (use := none) rfl hs C.clos S.kind S.nms (thn (hi pins s σ H _ I h) fun xv s1 h1 => thn h1 fun itv s2 h2 => ?_)
  obtain ⟨it, fp, tn, J, H2, e, I2, T, st2, f2, hW⟩ := h2
  subst e
  refine comp_core (RR := fun acc A => compPost (model X.prog X.w) X.A X.xe none (EP X pins σ Q) acc A) hc S C hg hfr ht he I2 T st2 f2 hW fun s5 H4 ys us I5 hv hz fin => ?_
  obtain ⟨m5, hn5, _⟩ := id I5.loc
  have nD : H4 s2.heap.objs.size = none := (I5.pin (s2.heap.objs.size, accObj us) (List.mem_append_right _ (by simp))).2.1
  exact ⟨m5, hn5, fun h' hs' => ⟨.ref s2.heap.objs.size, upd H4 s2.heap.objs.size (.lst ys), I2.unblock f2 I5 hv hz hs', rfl, fin _ nD⟩⟩
theorem ps_setC {i : Nat} {y : Str} {py spos : Pos} {elt tg iter : Expr} {ifs : List Expr} {sc : Scope} {pos : Pos} {own : List Str} {fr : List (Str × Nat)} {cl : List (Str × Addr)} {wi : TI} {g : TG} {tt : TT} {te : TE} (hN : X.N.Nodup) (hy : X.N[i]? = some y)
    (hx : Loc X.env.scope y) (hc : X.calm = true) (hi : PI X tg iter wi) (S : CompSc sc) (C : Caps X sc cl fr)
    (hg : ∀ s H fp, PG (compCx X (own ++ fr.map (·.1)) sc cl s H fp) tg g) (hfr : ∀ σ, Fresh g (compSt own fr σ)) (ht : ∀ s H fp, PTs (compCx X (own ++ fr.map (·.1)) sc cl s H fp) ifs tt)
    (he : ∀ s H fp, PE (compCx X (own ++ fr.map (·.1)) sc cl s H fp) elt te) (hs : ∀ x, foldedSetIterable iter X.env x = pure x := by intro _; rfl)
    (hsw : swapsWith (.ListComp elt [⟨tg, iter, ifs, 0⟩] sc pos) (some (.Name y py)) spos.line X.env = pure true := by rfl) (hf : X.fn y = true ∨ X.env.scope.names.lookup y = some .local := by first | exact .inl rfl | exact .inr rfl | assumption) :
    PS X (.Assign [.Name y py] (.ListComp elt [⟨tg, iter, ifs, 0⟩] sc pos) spos) (tAsg (tLC own fr wi g tt te) (gName i)) := by
  intro pins s σ H D I h
  rw [exec_Assign_Name_used _ _ _ _ hsw]
  refine wpAny_bind (wpAny_standAt (wpAny_bind ?_))
  show wpAny _ X.A (do let _ ← comprehension (.ListComp elt [⟨tg, iter, ifs, 0⟩] sc pos) sc X.env _ (newList []) false (eval iter X.env) (some (assign (.Name y py) X.env))) _ _ s
  refine wpAny_bind (thn (wpAny_comprehension_free (use := some (assign (.Name y py) X.env)) (Q := fun _ s' => SP X pins D .next s') rfl hs C.clos S.kind S.nms
    (thn (hi pins s σ H _ I h) fun xv s1 h1 => thn h1 fun itv s2 h2 => ?_)) fun _ s' hq => wpAny_pure (wpAny_pure hq))
  obtain ⟨it, fp, tn, J, H2, e, I2, T, st2, f2, hW⟩ := h2
  subst e
  refine comp_core (RR := fun acc A => compPost (model X.prog X.w) X.A X.xe (some (assign (.Name y py) X.env)) (fun _ s' => SP X pins D .next s') acc A) hc S C hg hfr ht he I2 T st2 f2 hW fun s5 H4 ys us I5 hv hz fin => ?_
  obtain ⟨m5, hn5, _⟩ := id I5.loc
  have nD : H4 s2.heap.objs.size = none := (I5.pin (s2.heap.objs.size, accObj us) (List.mem_append_right _ (by simp))).2.1
  have nC : H4 (s2.heap.objs.size + 1) = none := I5.free
  have I6 : Inv X pins σ (upd H4 s2.heap.objs.size (.lst ys)) s5 := I2.unblock f2 I5 hv hz (Heap.SameBut.refl _ _)
  show wpAny _ X.A (assign (.Name y py) X.env (.ref s2.heap.objs.size)) _ _ s5
  refine wpAny_assign_Name (store_ok2 (v := .ref s2.heap.objs.size) I6 hN hy hx rfl (fun s7 I7 ⟨a, hsb, ha⟩ => ?_) hf)
  have Clt : s2.heap.objs.size < s2.heap.objs.size + 1 := Nat.lt_succ_self _
  have neL : s2.heap.objs.size + 1 ≠ X.env.locals := Nat.ne_of_gt (Nat.lt_trans I2.lt Clt)
  have neCell : ∀ x c, X.env.cells.lookup x = some c → c ≠ s2.heap.objs.size + 1 := fun x c e => by
    obtain ⟨v', q⟩ := I2.cell x c e
    exact Nat.ne_of_lt (Nat.lt_trans q.lt Clt)
  have neA : s2.heap.objs.size + 1 ≠ a := by
    rcases ha with rfl | ha
    · exact neL
    · exact Ne.symm (neCell _ _ ha)
  refine ⟨m5, hn5.sameBut hsb neA, fun h' hs' => ⟨_, _, ?_, fin _ nD⟩⟩
  exact I7.turned (it := s2.heap.objs.size + 1) (t' := s7.toks) (fun b o hb e => hs'.extBut b o hb e) (by rw [upd_ne (Nat.ne_of_gt Clt)]; exact nC) neL (.inr (Nat.le_trans I2.sz (Nat.le_of_lt Clt))) neCell fun p hp z => by
    have q := Heap.lt_size (I2.pin p hp).1
    rw [z] at q
    exact absurd (Nat.lt_trans Clt q) (Nat.lt_irrefl _)
end
end L2
namespace L2
open PySem PySem.Spec PyProof.Rows
section
variable {X : Cx} {tg : Expr}
end
section
variable {X : Cx}
end
section
variable {X : Cx} {pins : List (Addr × Obj)} {σ σ' : St} {H H' : Hp} {s s' : Shared}
end
section
variable {X : Cx}
end
end L2
namespace L2
open PySem PySem.Spec PyProof.Rows
theorem relabel_kind {sc : Scope} {env : Env} {x : Str} {k : NameKind} (h : (relabel sc env).names.lookup x = some k) : ∃ y ∈ sc.names, y.2 = k ∨ y.2 = .free := by
  have hm := PySem.mem_of_lookup h
  obtain ⟨y, hy, e⟩ := List.mem_map.mp hm
  refine ⟨y, hy, ?_⟩
  obtain ⟨n, k0⟩ := y
  dsimp only at e
  split at e
  · rename_i hc
    rw [Bool.and_eq_true, Bool.and_eq_true] at hc
    exact .inr (beq_iff_eq.mp hc.1.1)
  · cases e
    exact .inl rfl
theorem caps0 {X : Cx} {sc : Scope} (h : ∀ y ∈ sc.names, y.2 ≠ .free ∧ y.2 ≠ .cell) : Caps X sc [] [] where
  clos := closureFor_none fun y hy => (h y hy).1
  sub := fun x c e => by cases e
  has := fun x e => by
    exfalso
    rcases e with e | e <;> obtain ⟨y, hy, z⟩ := relabel_kind e <;> rcases z with z | z
    · exact (h y hy).2 z
    · exact (h y hy).1 z
    · exact (h y hy).1 z
    · exact (h y hy).1 z
  cap := fun p hp => nomatch hp
theorem Same.up {H H' : Hp} {p : Addr} {o : HO} (e : Same H H') (h : H' p = none) : Same H (upd H' p o) := fun b u q => by
  rw [upd_ne (ne_of_none (e b u q) h)]
  exact e b u q
theorem Same.new {H : Hp} {p : Addr} {o : HO} (h : H p = none) : Same H (upd H p o) := (Same.refl H).up h
theorem Same.wr {H H' : Hp} {p : Addr} {o : HO} (e : Same H H') (h : H p = none) : Same H (upd H' p o) := fun b u q => by
  rw [upd_ne (ne_of_none q h)]
  exact e b u q
section
variable {X : Cx}
def rIxA (K : PySem.W.Frag) : R2 := fun x y H Q => ∃ p xs i, x = .ref p ∧ y = .int i ∧ SqL K H p xs ∧ 0 ≤ i ∧ i < (xs.length : Int) ∧ ∀ v ∈ xs, Q v H
theorem ix_any : IxR X (rIxA X.K) := by
  intro value slice pins s σ H x y v u Q I rx ry h hs
  obtain ⟨p, xs, i, ex, ey, hq, h0, h1, q⟩ := h
  obtain ⟨j, rfl⟩ := Int.eq_ofNat_of_zero_le h0
  have hj : j < xs.length := by omega
  exact ix_list value slice pins s σ H x y v u Q I rx ry ⟨p, xs, j, xs[j], ex, ey, hq, atI_nat (List.getElem?_eq_getElem hj), q _ (List.getElem_mem hj)⟩ hs
end
theorem mod_lo (x : Int) {m : Int} (h : 0 < m) : 0 ≤ x % m := Int.emod_nonneg _ (by omega)
theorem mod_hi (x : Int) {m : Int} (h : 0 < m) : x % m < m := Int.emod_lt_of_pos _ h
section
variable {X : Cx} {es : List Expr} {t : TA} {pos : Pos}
def tTupA (t : TA) : TE := fun σ H Q => t σ H fun xs H1 => xs.length ≤ sizeLine ∧ ∀ p H', H1 p = none → Same H1 H' → H' p = some (.tup xs) → Q (.ref p) H'
def tLstA (t : TA) : TE := fun σ H Q => t σ H fun xs H1 => xs.length ≤ sizeLine ∧ ∀ p H', H1 p = none → Same H1 H' → H' p = some (.lst xs) → Q (.ref p) H'
def tDctA : TE := fun _ H Q => ∀ p H', H p = none → Same H H' → H' p = some (.dK []) → Q (.ref p) H'
theorem pe_tupA {x1} (h : PA X es t) : PE X (.Tuple es x1 pos) (tTupA t) := by
  intro pins s σ H Q I hq
  refine wpAny_Tuple_spliced (thn (h pos pins s σ H _ I hq) fun us s1 ⟨xs, H1, I1, r, z, q⟩ => ⟨by rw [← r.length]; exact z, ?_⟩)
  have hf : H1 s1.heap.objs.size = none := I1.hok.fresh (Nat.le_refl _)
  refine ⟨.ref s1.heap.objs.size, upd H1 s1.heap.objs.size (.tup xs), I1.laid (t' := s1.toks) (fun b u e => Heap.get?_push_of_some _ e) (Nat.le_refl _) ?_, rfl, q _ _ hf (Same.new hf) upd_same⟩
  exact ⟨z, us, r, ⟨_, Heap.get?_push_size _ rfl, rfl, _, rfl⟩⟩
theorem pe_lstA (h : PA X es t) : PE X (.List es pos) (tLstA t) := by
  intro pins s σ H Q I hq
  refine wpAny_List_spliced (thn (h pos pins s σ H _ I hq) fun us s1 ⟨xs, H1, I1, r, z, q⟩ => ⟨by rw [← r.length]; exact z, ?_⟩)
  have hf : H1 s1.heap.objs.size = none := I1.hok.fresh (Nat.le_refl _)
  refine ⟨.ref s1.heap.objs.size, upd H1 s1.heap.objs.size (.lst xs), I1.laid (t' := s1.toks) (fun b u e => Heap.get?_push_of_some _ e) (Nat.le_refl _) ?_, rfl, q _ _ hf (Same.new hf) upd_same⟩
  exact ⟨z, us, 0, r, Heap.get?_push_size _ rfl⟩
theorem pe_dctA : PE X (.Dict [] [] pos) tDctA := fun pins s σ H Q I h => pe_dnewK pins s σ H Q I fun p hp => h p _ hp (Same.new hp) upd_same
theorem OpR.imp {f : Value → Value → Sem Value} {r r' : R2} (h : OpR X f r) (i : ∀ x y H Q, r' x y H Q → r x y H Q) : OpR X f r' := fun pins s σ H x y v u Q I rx ry q => h pins s σ H x y v u Q I rx ry (i x y H Q q)
theorem SlR.imp {r r' : V → Option Int → Option Int → Hp → VK → Prop} (h : SlR X r) (i : ∀ x lo hi H Q, r' x lo hi H Q → r x lo hi H Q) : SlR X r' := fun pins s σ H x v vl vu lo hi sl Q I rx hs pl pu q => h pins s σ H x v vl vu lo hi sl Q I rx hs pl pu (i x lo hi H Q q)
def rCatA : R2 := fun x y H Q => ∃ l b xs zs, x = .ref l ∧ y = .ref b ∧ H l = some (.lst xs) ∧ H b = some (.lst zs) ∧ xs.length + zs.length ≤ sizeLine ∧ ∀ p H', H p = none → Same H H' → H' p = some (.lst (xs ++ zs)) → Q (.ref p) H'
theorem op_catA : OpR X (binaryOp .Add) rCatA := op_cat.imp fun _ _ _ _ ⟨l, b, xs, zs, h1, h2, h3, h4, h5, q⟩ => ⟨l, b, xs, zs, h1, h2, h3, h4, h5, fun p hp => q p _ hp (Same.new hp) upd_same⟩
def rSlLA (K : PySem.W.Frag) : V → Option Int → Option Int → Hp → VK → Prop := fun x lo hi H Q => ∃ a xs, x = .ref a ∧ SqL K H a xs ∧ ∀ p H', H p = none → Same H H' → H' p = some (.lst (cutV xs lo hi)) → Q (.ref p) H'
theorem sl_listA : SlR X (rSlLA X.K) := sl_list.imp fun _ _ _ _ _ ⟨a, xs, h1, h2, q⟩ => ⟨a, xs, h1, h2, fun p hp => q p _ hp (Same.new hp) upd_same⟩
end
end L2
namespace L2
open PySem PySem.Spec PyProof.Rows
def clo (env : Env) : List (Str × NameKind) → List (Str × Addr) → List (Str × Addr)
  | [], acc => acc
  | (n, k) :: r, acc => clo env r (if k == .free then (n, (env.cells.lookup n).getD 0) :: acc else acc)
theorem closure_clo {env : Env} {sc : Scope} (h : ∀ y ∈ sc.names, y.2 = .free → ∃ c, env.cells.lookup y.1 = some c) : closureFor sc env = pure (clo env sc.names []) := by
  have all : ∀ (names : List (Str × NameKind)) (acc : List (Str × Addr)), (∀ y ∈ names, y.2 = .free → ∃ c, env.cells.lookup y.1 = some c) →
      (forIn names acc fun x r => (match x with
        | (name, kind) => if (kind == NameKind.free) = true then do
            let a ← cellOf env name
            pure (ForInStep.yield ((name, a) :: r))
          else pure (ForInStep.yield r) : Sem (ForInStep (List (Str × Addr))))) = pure (clo env names acc) := by
    intro names
    induction names with
    | nil => intro acc _; rfl
    | cons x r ih =>
      intro acc hx
      obtain ⟨n, k⟩ := x
      rw [List.forIn_cons]
      cases hk : (k == NameKind.free) with
      | true =>
        obtain ⟨c, hc⟩ := hx (n, k) List.mem_cons_self (beq_iff_eq.mp hk)
        have e : cellOf env n = pure c := by unfold cellOf; rw [hc]
        dsimp only
        rw [if_pos hk, e]
        refine Eq.trans (by first | rfl | simp) ((ih ((n, c) :: acc) fun y hy => hx y (List.mem_cons_of_mem _ hy)).trans ?_)
        show _ = pure (clo env r (if (k == NameKind.free) = true then (n, (env.cells.lookup n).getD 0) :: acc else acc))
        rw [if_pos hk, show env.cells.lookup n = some c from hc]
        rfl
      | false =>
        dsimp only
        rw [if_neg (by rw [hk]; exact Bool.false_ne_true)]
        refine Eq.trans (by first | rfl | simp) ((ih acc fun y hy => hx y (List.mem_cons_of_mem _ hy)).trans ?_)
        show _ = pure (clo env r (if (k == NameKind.free) = true then (n, (env.cells.lookup n).getD 0) :: acc else acc))
        rw [if_neg (by rw [hk]; exact Bool.false_ne_true)]
  have e := all sc.names [] h
  show ((forIn sc.names [] fun x r => (match x with
        | (name, kind) => if (kind == NameKind.free) = true then do
            let a ← cellOf env name
            pure (ForInStep.yield ((name, a) :: r))
          else pure (ForInStep.yield r) : Sem (ForInStep (List (Str × Addr))))) >>= fun cs => pure cs) = _
  rw [e]
  rfl
theorem clo_sub {env : Env} : ∀ {names : List (Str × NameKind)} {acc : List (Str × Addr)}, (∀ y ∈ names, y.2 = .free → ∃ c, env.cells.lookup y.1 = some c) → (∀ x c, acc.lookup x = some c → env.cells.lookup x = some c) →
    ∀ x c, (clo env names acc).lookup x = some c → env.cells.lookup x = some c
  | [], _, _, h => h
  | (n, k) :: r, acc, hx, h => by
    refine clo_sub (names := r) (fun y hy => hx y (List.mem_cons_of_mem _ hy)) fun x c e => ?_
    cases hk : (k == NameKind.free) with
    | true =>
      rw [hk, if_pos rfl] at e
      obtain ⟨c', hc⟩ := hx (n, k) List.mem_cons_self (beq_iff_eq.mp hk)
      rw [List.lookup_cons] at e
      cases hxn : (x == n) with
      | true =>
        rw [hxn] at e
        have q := beq_iff_eq.mp hxn
        subst q
        have e' : (env.cells.lookup x).getD 0 = c := Option.some.inj e
        have hc' : env.cells.lookup x = some c' := hc
        rw [hc'] at e' ⊢
        exact congrArg some e'
      | false => rw [hxn] at e; exact h x c e
    | false => rw [hk, if_neg Bool.false_ne_true] at e; exact h x c e
theorem clo_has {env : Env} {x : Str} : ∀ {names : List (Str × NameKind)} {acc : List (Str × Addr)}, ((x, NameKind.free) ∈ names ∨ ∃ c, acc.lookup x = some c) → ∃ c, (clo env names acc).lookup x = some c
  | [], _, h => h.elim (fun z => nomatch z) id
  | (n, k) :: r, acc, h => by
    refine clo_has (names := r) ?_
    have put : ∀ c', ∃ c, ((n, c') :: acc).lookup x = some c ∨ (x ≠ n ∧ acc.lookup x = none) := fun c' => by
      rw [List.lookup_cons]
      cases hxn : (x == n) with
      | true => exact ⟨c', .inl rfl⟩
      | false =>
        cases ha : acc.lookup x with
        | some c => exact ⟨c, .inl rfl⟩
        | none => exact ⟨0, .inr ⟨fun z => by subst z; simp at hxn, rfl⟩⟩
    rcases h with h | ⟨c, h⟩
    · rcases List.mem_cons.mp h with q | q
      · cases q
        refine .inr ?_
        rw [if_pos (by rfl), List.lookup_cons]
        simp
      · exact .inl q
    · refine .inr ?_
      cases hk : (k == NameKind.free) with
      | true =>
        rw [if_pos (by rfl)]
        obtain ⟨c1, q | q⟩ := put ((env.cells.lookup n).getD 0)
        · exact ⟨c1, q⟩
        · rw [q.2] at h; cases h
      | false => rw [if_neg Bool.false_ne_true]; exact ⟨c, h⟩
theorem relabel_at {sc : Scope} {env : Env} {x : Str} {k : NameKind} (h : (relabel sc env).names.lookup x = some k) : ∃ y ∈ sc.names, y.1 = x ∧ (y.2 = k ∨ y.2 = .free) := by
  have hm := PySem.mem_of_lookup h
  obtain ⟨y, hy, e⟩ := List.mem_map.mp hm
  refine ⟨y, hy, ?_⟩
  obtain ⟨n, k0⟩ := y
  dsimp only at e
  split at e
  · rename_i hc
    rw [Bool.and_eq_true, Bool.and_eq_true] at hc
    cases e
    exact ⟨rfl, .inr (beq_iff_eq.mp hc.1.1)⟩
  · cases e
    exact ⟨rfl, .inl rfl⟩
theorem caps_of {X : Cx} {sc : Scope} {fr : List (Str × Nat)} (hX : ∀ x, X.env.kindOf x = some .cell → ∃ c, X.env.cells.lookup x = some c) (hcell : ∀ y ∈ sc.names, y.2 ≠ .cell)
    (hfree : ∀ y ∈ sc.names, y.2 = .free → X.env.kindOf y.1 = some .cell)
    (hcap : ∀ p ∈ fr, X.N[p.2]? = some p.1 ∧ X.env.kindOf p.1 = some .cell ∧ (relabel sc X.env).names.lookup p.1 = some .cell) : Caps X sc (clo X.env sc.names []) fr where
  clos := closure_clo fun y hy e => hX _ (hfree y hy e)
  sub := clo_sub (fun y hy e => hX _ (hfree y hy e)) fun x c e => by cases e
  has := fun x e => by
    refine clo_has (.inl ?_)
    rcases e with e | e <;> obtain ⟨y, hy, rfl, z⟩ := relabel_at e <;> rcases z with z | z
    · exact absurd z (hcell y hy)
    · rw [← z]; exact hy
    · rw [← z]; exact hy
    · rw [← z]; exact hy
  cap := fun p hp => by
    obtain ⟨h1, h2, h3⟩ := hcap p hp
    exact ⟨h1, by rw [h2]; decide, .inr (.inl h2), .inl h3⟩
theorem caps_def {X : Cx} {sc : Scope} {fr : List (Str × Nat)} (scX : Scope) (N : List Str) (h1 : X.env.scope = scX) (h2 : X.N = N) (hX : ∀ x, X.env.kindOf x = some .cell → ∃ c, X.env.cells.lookup x = some c)
    (hcell : ∀ y ∈ sc.names, y.2 ≠ .cell) (hfree : ∀ y ∈ sc.names, y.2 = .free → scX.names.lookup y.1 = some .cell)
    (hcap : ∀ p ∈ fr, N[p.2]? = some p.1 ∧ scX.names.lookup p.1 = some .cell ∧ (relabel sc { scope := scX, locals := 0, globals := 0, cells := [] }).names.lookup p.1 = some .cell) : Caps X sc (clo X.env sc.names []) fr := by
  refine caps_of hX hcell (fun y hy e => ?_) fun p hp => ?_
  · show X.env.scope.names.lookup y.1 = some .cell
    rw [h1]
    exact hfree y hy e
  · obtain ⟨a, b, c⟩ := hcap p hp
    refine ⟨by rw [h2]; exact a, ?_, ?_⟩
    · show X.env.scope.names.lookup p.1 = some .cell
      rw [h1]
      exact b
    · have e : relabel sc X.env = relabel sc { scope := scX, locals := 0, globals := 0, cells := [] } := by
        unfold relabel Env.kindOf
        rw [h1]
      rw [e]
      exact c
section
variable {X : Cx}
theorem CallR.imp {f : Value} {r r' : List V → Hp → VK → Prop} (h : CallR X f r) (i : ∀ xs H Q, r' xs H Q → r xs H Q) : CallR X f r' := fun pins s σ H xs us Q I rv q => h pins s σ H xs us Q I rv (i xs H Q q)
def rLstA (K : PySem.W.Frag) : List V → Hp → VK → Prop := fun xs H Q => ∃ p ys, xs = [.ref p] ∧ (SqL K H p ys ∨ SqT K H p ys) ∧ ∀ l H', H l = none → Same H H' → H' l = some (.lst ys) → Q (.ref l) H'
theorem call_lstA : CallR X (.type "list") (rLstA X.K) := call_list_of.imp fun _ _ _ ⟨p, ys, h1, h2, q⟩ => ⟨p, ys, h1, h2, fun l hl => q l _ hl (Same.new hl) upd_same⟩
def rRepA : R2 := fun x y H Q => ∃ l k xs, x = .ref l ∧ y = .int k ∧ H l = some (.lst xs) ∧ -(2 ^ 63) ≤ k ∧ k < 2 ^ 63 ∧ xs.length * k.toNat ≤ sizeLine ∧ ∀ p H', H p = none → Same H H' → H' p = some (.lst (List.replicate k.toNat xs).flatten) → Q (.ref p) H'
theorem op_repA : OpR X (binaryOp .Mult) rRepA := op_rep.imp fun _ _ _ _ ⟨l, k, xs, h1, h2, h3, h4, h5, h6, q⟩ => ⟨l, k, xs, h1, h2, h3, h4, h5, h6, fun p hp => q p _ hp (Same.new hp) upd_same⟩
end
end L2
namespace L2
open PySem PySem.Spec PyProof.Rows
theorem lc_any {K : PySem.W.Frag} {a : Addr} {xs : List V} {own : List Str} {fr : List (Str × Nat)} {g : TG} {tt : TT} {te : TE} {σ : St} {H : Hp} {Q : VK} (hz : xs.length ≤ sizeLine) (Pv : Nat → List V → Hp → Prop) (h0 : Pv 0 [] H) (hl : ∀ i ys H, Pv i ys H → SqL K H a xs)
    (hs : ∀ i x ys H' (K1 : V → Hp → Prop) (K0 : Hp → Prop), xs[i]? = some x → Pv i ys H' → (∀ y H4, Pv (i + 1) (ys ++ [y]) H4 → K1 y H4) → (∀ H3, Pv (i + 1) ys H3 → K0 H3) →
      g x (compSt own fr σ) H' fun σ2 H2 => tt σ2 H2 fun b H3 => if b = true then te σ2 H3 K1 else K0 H3)
    (hd : ∀ H' p ys, Pv xs.length ys H' → ys.length ≤ xs.length → H' p = none → Q (.ref p) (upd H' p (.lst ys))) : LCb own fr g tt te σ Q (Itl K a) H := by
  refine ⟨fun i m ys H => m = xs.length - i ∧ i ≤ xs.length ∧ ys.length ≤ i ∧ Pv i ys H, ⟨xs.length, by simp, Nat.zero_le _, Nat.zero_le _, h0⟩, ?_⟩
  rintro i m ys H ⟨rfl, hi, hy, p⟩
  by_cases hlt : i < xs.length
  · refine .inr ⟨⟨xs, xs[i], hl _ _ H p, by simp [hlt]⟩, by omega, fun x H' y => ?_⟩
    obtain ⟨rfl, y⟩ := y
    have hc := y xs (hl _ _ _ p)
    refine hs i x ys H' _ _ hc p (fun y H4 p4 => ⟨xs.length - (i + 1), by omega, rfl, hlt, ?_, p4⟩) fun H3 p3 => ⟨xs.length - (i + 1), by omega, rfl, hlt, by omega, p3⟩
    rw [List.length_append, List.length_singleton]
    omega
  · have e : i = xs.length := by omega
    subst e
    exact .inl ⟨⟨xs, hl _ _ H p, Nat.le_refl _⟩, fun q hq => hd H q ys p hy hq⟩
theorem lc_range {lo : Int} {n : Nat} {own : List Str} {fr : List (Str × Nat)} {g : TG} {tt : TT} {te : TE} {σ : St} {H : Hp} {Q : VK} (hz : n ≤ sizeLine) (Pv : Nat → List V → Hp → Prop) (h0 : Pv 0 [] H)
    (hs : ∀ i ys H' (K1 : V → Hp → Prop) (K0 : Hp → Prop), i < n → Pv i ys H' → (∀ y H4, Pv (i + 1) (ys ++ [y]) H4 → K1 y H4) → (∀ H3, Pv (i + 1) ys H3 → K0 H3) →
      g (.int (lo + i)) (compSt own fr σ) H' fun σ2 H2 => tt σ2 H2 fun b H3 => if b = true then te σ2 H3 K1 else K0 H3)
    (hd : ∀ H' p ys, Pv n ys H' → ys.length ≤ n → H' p = none → Q (.ref p) (upd H' p (.lst ys))) : LCb own fr g tt te σ Q (Itr lo n) H := by
  refine ⟨fun i m ys H => m = n - i ∧ i ≤ n ∧ ys.length ≤ i ∧ Pv i ys H, ⟨n, by simp, Nat.zero_le _, Nat.zero_le _, h0⟩, ?_⟩
  rintro i m ys H ⟨rfl, hi, hy, p⟩
  by_cases hlt : i < n
  · refine .inr ⟨hlt, by omega, fun x H' y => ?_⟩
    obtain ⟨rfl, rfl⟩ := y
    refine hs i ys H' _ _ hlt p (fun y H4 p4 => ⟨n - (i + 1), by omega, rfl, hlt, ?_, p4⟩) fun H3 p3 => ⟨n - (i + 1), by omega, rfl, hlt, by omega, p3⟩
    rw [List.length_append, List.length_singleton]
    omega
  · have e : i = n := by omega
    subst e
    exact .inl ⟨Nat.le_refl _, fun q hq => hd H q ys p hy hq⟩
section
variable {X : Cx} {pins : List (Addr × Obj)} {σ : St} {H : Hp} {s : Shared}
end
section
variable {X : Cx} {K : PySem.W.Frag}
theorem ix_listK (h : X.K = K) : IxR X (rIxL K) := h ▸ ix_list
theorem ix_tupK (h : X.K = K) : IxR X (rIxT K) := h ▸ ix_tup
end
theorem SqL.same {K : PySem.W.Frag} {H H' : Hp} {a : Addr} {xs : List V} (h : SqL K H a xs) (s : Same H H') : SqL K H' a xs := by
  rcases h with (h | ⟨o, h⟩) | h
  · exact .inl (.inl (s _ _ h))
  · exact .inl (.inr ⟨o, s _ _ h⟩)
  · exact .inr h
end L2
namespace L2
open PySem PySem.Spec PyProof.Rows
section
variable {X : Cx}
end
mutual
inductive DV (K : PySem.W.Frag) (H : Hp) : V → PyData → Prop
  | non : DV K H .non .none
  | bl (b : Bool) : DV K H (.bl b) (.bool b)
  | int (i : Int) : DV K H (.int i) (.int i)
  | str (z : Str) : DV K H (.str z) (.str z)
  | lst {p : Addr} {xs : List V} {ds : List PyData} : SqL K H p xs → DVs K H xs ds → DV K H (.ref p) (.list ds)
  | tup {p : Addr} {xs : List V} {ds : List PyData} : SqT K H p xs → DVs K H xs ds → DV K H (.ref p) (.tuple ds)
inductive DVs (K : PySem.W.Frag) (H : Hp) : List V → List PyData → Prop
  | nil : DVs K H [] []
  | cons {x : V} {xs : List V} {d : PyData} {ds : List PyData} : DV K H x d → DVs K H xs ds → DVs K H (x :: xs) (d :: ds)
end
section
variable {X : Cx} {pins : List (Addr × Obj)} {σ : St} {H H' : Hp} {s : Shared} {K : PySem.W.Frag}
theorem SqT.same {a : Addr} {xs : List V} (h : SqT K H a xs) (s : Same H H') : SqT K H' a xs := by
  rcases h with (h | ⟨o, h⟩) | h
  · exact .inl (.inl (s _ _ h))
  · exact .inl (.inr ⟨o, s _ _ h⟩)
  · exact .inr h
mutual
theorem DV.same (e : Same H H') : ∀ {x : V} {d : PyData}, DV K H x d → DV K H' x d
  | _, _, .non => .non
  | _, _, .bl b => .bl b
  | _, _, .int i => .int i
  | _, _, .str z => .str z
  | _, _, .lst h t => .lst (h.same e) (DVs.same e t)
  | _, _, .tup h t => .tup (h.same e) (DVs.same e t)
theorem DVs.same (e : Same H H') : ∀ {xs : List V} {ds : List PyData}, DVs K H xs ds → DVs K H' xs ds
  | _, _, .nil => .nil
  | _, _, .cons h t => .cons (DV.same e h) (DVs.same e t)
end
mutual
theorem DV.reads (I : Inv X pins σ H s) : ∀ {x : V} {d : PyData} {v : Value}, DV X.K H x d → RelV x v → ∃ as, Reads s.heap v d as
  | _, _, _, .non, r => by cases r; exact ⟨_, .none⟩
  | _, _, _, .bl b, r => by cases r; exact ⟨_, .bool b⟩
  | _, _, _, .int i, r => by obtain ⟨t, rfl⟩ := r; exact ⟨_, .int i t⟩
  | _, _, _, .str z, r => by obtain ⟨t, rfl⟩ := r; exact ⟨_, .str z t⟩
  | _, _, _, .lst h t, r => by
    cases r
    obtain ⟨its, rv, ⟨o, n, e1, e2, _, e3⟩, _⟩ := I.list h
    obtain ⟨as, ra⟩ := DVs.reads I t rv
    exact ⟨_, .list e1 e2 e3 (by simpa using ra)⟩
  | _, _, _, .tup h t, r => by
    cases r
    obtain ⟨its, rv, ⟨o, e1, e2, n, e3⟩, _⟩ := I.tuple h
    obtain ⟨as, ra⟩ := DVs.reads I t rv
    exact ⟨_, .tuple e1 e2 e3 (by simpa using ra)⟩
theorem DVs.reads (I : Inv X pins σ H s) : ∀ {xs : List V} {ds : List PyData} {vs : List Value}, DVs X.K H xs ds → Vals xs vs → ∃ as, ReadsAll s.heap vs ds as
  | _, _, _, .nil, r => by cases r; exact ⟨_, .nil⟩
  | _, _, _, .cons h t, r => by
    cases r with
    | cons r1 r2 =>
      obtain ⟨as, a⟩ := DV.reads I h r1
      obtain ⟨bs, b⟩ := DVs.reads I t r2
      exact ⟨_, .cons a b⟩
end
def rEqD (K : PySem.W.Frag) (u : Nat) (neg : Bool) : R2 := fun x y H Q => ∃ dx dy, DV K H x dx ∧ DV K H y dy ∧ dx.canLay0 = true ∧ dy.canLay0 = true ∧ min dx.depth dy.depth ≤ u ∧ Q (.bl (if neg then !PyData.eqv dx dy else PyData.eqv dx dy)) H
theorem op_eqD {u : Nat} (hu : X.A.units + u < cLine) : OpR X (compareOp .Eq) (rEqD X.K u false) := by
  intro pins s σ H x y v w Q I rx ry h
  obtain ⟨dx, dy, hx, hy, cx, cy, hd, q⟩ := h
  obtain ⟨as, ra⟩ := hx.reads I rx
  obtain ⟨bs, rb⟩ := hy.reads I ry
  exact SeqAt.compareEq_reads ra rb cx cy (by omega) ⟨.bl _, H, I, rfl, q⟩
theorem op_neD {u : Nat} (hu : X.A.units + u < cLine) : OpR X (compareOp .NotEq) (rEqD X.K u true) := by
  intro pins s σ H x y v w Q I rx ry h
  obtain ⟨dx, dy, hx, hy, cx, cy, hd, q⟩ := h
  obtain ⟨as, ra⟩ := hx.reads I rx
  obtain ⟨bs, rb⟩ := hy.reads I ry
  exact SeqAt.compareNe_reads ra rb cx cy (by omega) ⟨.bl _, H, I, rfl, q⟩
theorem reads_get {h : Heap} : ∀ {vs : List Value} {ds : List PyData} {as : List Addr} {j : Nat} {v : Value}, ReadsAll h vs ds as → vs[j]? = some v → ∃ d bs, ds[j]? = some d ∧ Reads h v d bs
  | _, _, _, _, _, .nil, e => by cases e
  | _, _, _, 0, _, .cons r t, e => by cases e; exact ⟨_, _, rfl, r⟩
  | _, _, _, j + 1, _, .cons r t, e => by
    obtain ⟨d, bs, h1, h2⟩ := reads_get (j := j) t (by simpa using e)
    exact ⟨d, bs, by simpa using h1, h2⟩
theorem lay_get : ∀ {ds : List PyData} {j : Nat} {d : PyData}, PyData.canLayAll0 ds = true → ds[j]? = some d → d.canLay0 = true
  | [], _, _, _, e => by cases e
  | d :: ds, 0, _, h, e => by
    cases e
    have h' : (d.canLay0 && PyData.canLayAll0 ds) = true := h
    rw [Bool.and_eq_true] at h'
    exact h'.1
  | d :: ds, j + 1, d', h, e => by
    have h' : (d.canLay0 && PyData.canLayAll0 ds) = true := h
    rw [Bool.and_eq_true] at h'
    exact lay_get h'.2 (by simpa using e)
open Classical in
noncomputable def alike (vs : List Value) (ds : List PyData) (dx : PyData) (y : Value) : Bool := decide (∃ (j : Nat) (d : PyData), vs[j]? = some y ∧ ds[j]? = some d ∧ PyData.eqv d dx = true)
open Classical in
theorem alike_at {h : Heap} {vs : List Value} {ds : List PyData} {as : List Addr} {dx : PyData} (r : ReadsAll h vs ds as) (c : PyData.canLayAll0 ds = true) {j : Nat} {y : Value} {d : PyData} (e : vs[j]? = some y) (ed : ds[j]? = some d) : alike vs ds dx y = PyData.eqv d dx := by
  unfold alike
  cases q : PyData.eqv d dx with
  | true => exact decide_eq_true ⟨j, d, e, ed, q⟩
  | false =>
    refine decide_eq_false fun ⟨j', d', e', ed', q'⟩ => ?_
    obtain ⟨d1, b1, x1, r1⟩ := reads_get r e
    obtain ⟨d2, b2, x2, r2⟩ := reads_get r e'
    rw [ed] at x1; cases x1
    rw [ed'] at x2; cases x2
    have := SeqAt.Reads.unique _ _ _ _ _ (lay_get c ed) r1 r2
    rw [← this, q] at q'
    cases q'
theorem alike_any {h : Heap} {dx : PyData} {vs : List Value} {ds : List PyData} {as : List Addr} (r : ReadsAll h vs ds as) (c : PyData.canLayAll0 ds = true) : vs.any (alike vs ds dx) = ds.any fun d => PyData.eqv d dx := by
  have hl := SeqAt.ReadsAll.length _ _ _ r
  rw [Bool.eq_iff_iff, List.any_eq_true, List.any_eq_true]
  constructor
  · rintro ⟨y, hy, q⟩
    obtain ⟨j, hj, e⟩ := List.mem_iff_getElem.mp hy
    obtain ⟨d, _, ed, _⟩ := reads_get r (j := j) (by rw [List.getElem?_eq_getElem hj, e])
    rw [alike_at r c (by rw [List.getElem?_eq_getElem hj, e]) ed] at q
    exact ⟨d, List.mem_of_getElem? ed, q⟩
  · rintro ⟨d, hd, q⟩
    obtain ⟨j, hj, e⟩ := List.mem_iff_getElem.mp hd
    have hj' : j < vs.length := by omega
    refine ⟨vs[j], List.getElem_mem hj', ?_⟩
    rw [alike_at r c (List.getElem?_eq_getElem hj') (by rw [List.getElem?_eq_getElem hj, e])]
    exact q
def rInD (K : PySem.W.Frag) (u : Nat) (neg : Bool) : R2 := fun x y H Q => ∃ dx p ds xs, DV K H x dx ∧ y = .ref p ∧ (SqL K H p xs ∨ SqT K H p xs) ∧ DVs K H xs ds ∧ dx.canLay0 = true ∧ PyData.canLayAll0 ds = true ∧ dx.depth ≤ u ∧
  Q (.bl (if neg then !(ds.any fun d => PyData.eqv d dx) else ds.any fun d => PyData.eqv d dx)) H
theorem op_inD {u : Nat} (hu : X.A.units + 1 + u < cLine) : OpR X (compareOp .In) (rInD X.K u false) := by
  intro pins s σ H x y v w Q I rx ry h
  obtain ⟨dx, p, ds, xs, hx, rfl, hq, hs, cx, cs, hd, q⟩ := h
  cases ry
  obtain ⟨as, ra⟩ := hx.reads I rx
  have key : ∀ {its : List Value}, Vals xs its → (∀ y ∈ its, SeqAt.EqAt X.A.in1 s y v (alike its ds dx y)) ∧ its.any (alike its ds dx) = ds.any fun d => PyData.eqv d dx := fun {its} rv => by
    obtain ⟨bs, rb⟩ := hs.reads I rv
    refine ⟨fun y hy => ?_, alike_any rb cs⟩
    obtain ⟨j, hj, e⟩ := List.mem_iff_getElem.mp hy
    have ej : its[j]? = some y := by rw [List.getElem?_eq_getElem hj, e]
    obtain ⟨d, _, ed, rd⟩ := reads_get rb ej
    rw [alike_at rb cs ej ed]
    exact SeqAt.eqAt_reads d dx _ s y v _ _ rd ra (lay_get cs ed) cx (by show X.A.units + 1 + _ < cLine; omega)
  rcases hq with hq | hq
  · obtain ⟨its, r, pl, hz⟩ := I.list hq
    obtain ⟨k1, k2⟩ := key r
    refine SeqAt.in_listAt (alike its ds dx) pl.isList (fun w hw => k1 w (by simpa using hw)) ⟨.bl _, H, I, rfl, ?_⟩
    rw [List.any_toArray, k2]
    exact q
  · obtain ⟨its, r, pl, hz⟩ := I.tuple hq
    obtain ⟨k1, k2⟩ := key r
    refine SeqAt.in_tupleAt (alike its ds dx) pl (fun w hw => k1 w (by simpa using hw)) ⟨.bl _, H, I, rfl, ?_⟩
    rw [List.any_toArray, k2]
    exact q
def rIndexD (K : PySem.W.Frag) (u : Nat) : V → List V → Hp → VK → Prop := fun o vs H Q => ∃ x dx p ds xs, ∃ j : Nat, vs = [x] ∧ o = .ref p ∧ DV K H x dx ∧ SqL K H p xs ∧ DVs K H xs ds ∧ dx.canLay0 = true ∧ PyData.canLayAll0 ds = true ∧ dx.depth ≤ u ∧
  (∃ d, ds[j]? = some d ∧ PyData.eqv d dx = true) ∧ (∀ (m : Nat) d, m < j → ds[m]? = some d → PyData.eqv d dx = false) ∧ Q (.int (j : Int)) H
theorem mt_indexD {u : Nat} (hu : X.A.units + 3 + u < cLine) : MtM X "list.index" (rIndexD X.K u) := by
  intro pins s σ H o vs v us Q I ro rv h
  obtain ⟨x, dx, p, ds, xs, j, rfl, rfl, hx, hq, hs, cx, cs, hd, ⟨d, hj, ed⟩, hno, q⟩ := h
  cases ro
  obtain ⟨w, rfl, rw'⟩ := rv.one
  obtain ⟨as, ra⟩ := hx.reads I rw'
  obtain ⟨its, r, pl, hz⟩ := I.list hq
  obtain ⟨⟨cls, dict, data, sl⟩, n, e, c1, c2, c3⟩ := pl
  dsimp only at c1 c2 c3
  subst c1 c2 c3
  obtain ⟨bs, rb⟩ := hs.reads I r
  have hlen := SeqAt.ReadsAll.length _ _ _ rb
  have hj' : j < its.length := by
    have := (List.getElem?_eq_some_iff.mp hj).1
    omega
  have hl := r.length
  have hbig : sizeLine < 2 ^ 63 - 1 := by decide
  refine call_meets F.slot_list_index ⟨_, e, rfl⟩ F.entry_list_index (F.args_list_index_2 _ _) (SeqAt.list_indexAt p its.toArray n none sl w (alike its ds dx) j (by simpa using hj') (by omega) ?_ ?_) ⟨e, fun y hy => ?_, ?_⟩
  · rw [List.getElem_toArray, alike_at rb cs (List.getElem?_eq_getElem hj') hj]
    exact ed
  · intro m hm hmj
    have hm' : m < its.length := by simpa using hm
    obtain ⟨d', _, ed', _⟩ := reads_get rb (List.getElem?_eq_getElem hm')
    rw [List.getElem_toArray, alike_at rb cs (List.getElem?_eq_getElem hm') ed']
    exact hno m d' hmj ed'
  · have hy : y ∈ its := by simpa using hy
    obtain ⟨m, hm, em⟩ := List.mem_iff_getElem.mp hy
    have ej : its[m]? = some y := by rw [List.getElem?_eq_getElem hm, em]
    obtain ⟨d', _, ed', rd⟩ := reads_get rb ej
    rw [alike_at rb cs ej ed']
    exact SeqAt.eqAt_reads d' dx _ s y w _ _ rd ra (lay_get cs ed') cx (by show X.A.units + 1 + _ < cLine; omega)
  · exact ⟨.int j, H, I.tok _, ⟨_, rfl⟩, q⟩
def rCountD (K : PySem.W.Frag) (u : Nat) : V → List V → Hp → VK → Prop := fun o vs H Q => ∃ x dx p ds xs, vs = [x] ∧ o = .ref p ∧ DV K H x dx ∧ SqL K H p xs ∧ DVs K H xs ds ∧ dx.canLay0 = true ∧ PyData.canLayAll0 ds = true ∧ dx.depth ≤ u ∧
  Q (.int ((ds.countP fun d => PyData.eqv d dx : Nat) : Int)) H
theorem countP_alike {h : Heap} {dx : PyData} {vs : List Value} {ds : List PyData} {as : List Addr} (f : Value → Bool) (r : ReadsAll h vs ds as) : (∀ (j : Nat) y d, vs[j]? = some y → ds[j]? = some d → f y = PyData.eqv d dx) → vs.countP f = ds.countP fun d => PyData.eqv d dx := by
  intro hf
  induction vs generalizing ds as with
  | nil => cases r; rfl
  | cons v vs ih =>
    cases r with
    | cons r1 r2 =>
      rw [List.countP_cons, List.countP_cons, hf 0 _ _ rfl rfl, ih r2 fun j y d e1 e2 => hf (j + 1) y d (by simpa using e1) (by simpa using e2)]
theorem mt_countD {u : Nat} (hu : X.A.units + 3 + u < cLine) : MtM X "list.count" (rCountD X.K u) := by
  intro pins s σ H o vs v us Q I ro rv h
  obtain ⟨x, dx, p, ds, xs, rfl, rfl, hx, hq, hs, cx, cs, hd, q⟩ := h
  cases ro
  obtain ⟨w, rfl, rw'⟩ := rv.one
  obtain ⟨as, ra⟩ := hx.reads I rw'
  obtain ⟨its, r, pl, hz⟩ := I.list hq
  obtain ⟨⟨cls, dict, data, sl⟩, n, e, c1, c2, c3⟩ := pl
  dsimp only at c1 c2 c3
  subst c1 c2 c3
  obtain ⟨bs, rb⟩ := hs.reads I r
  refine call_meets F.slot_list_count ⟨_, e, rfl⟩ F.entry_list_count (F.args_list_count_2 _ _) (SeqAt.list_countAt p its.toArray n none sl w (alike its ds dx)) ⟨e, fun y hy => ?_, ?_⟩
  · have hy : y ∈ its := by simpa using hy
    obtain ⟨m, hm, em⟩ := List.mem_iff_getElem.mp hy
    have ej : its[m]? = some y := by rw [List.getElem?_eq_getElem hm, em]
    obtain ⟨d', _, ed', rd⟩ := reads_get rb ej
    rw [alike_at rb cs ej ed']
    exact SeqAt.eqAt_reads d' dx _ s y w _ _ rd ra (lay_get cs ed') cx (by show X.A.units + 1 + _ < cLine; omega)
  · refine ⟨.int _, H, I.tok _, ⟨_, rfl⟩, ?_⟩
    rw [List.toList_toArray, countP_alike (dx := dx) _ rb fun j y d e1 e2 => alike_at rb cs e1 e2]
    exact q
end
end L2
namespace L2
open PySem PySem.Spec PyProof.Rows
section
variable {X : Cx}
end
section
variable {X : Cx} {K : PySem.W.Frag} {u : Nat}
theorem op_eqDK (h : X.K = K) (hu : X.A.units + u < cLine) : OpR X (compareOp .Eq) (rEqD K u false) := h ▸ op_eqD hu
theorem op_neDK (h : X.K = K) (hu : X.A.units + u < cLine) : OpR X (compareOp .NotEq) (rEqD K u true) := h ▸ op_neD hu
end
theorem hu64 {A : Around} {k : Nat} (hr : Room k A) : A.units + 64 < cLine := hr.units
theorem hu63 {A : Around} {k : Nat} (hr : Room k A) : A.units + 1 + 63 < cLine := by have := hr.units; omega
theorem hu61 {A : Around} {k : Nat} (hr : Room k A) : A.units + 3 + 61 < cLine := by have := hr.units; omega
section
variable {X : Cx}
end
end L2
namespace L2
open PySem PySem.Spec PyProof.Rows
section
variable {X : Cx}
end
end L2
namespace L2
open PySem PySem.Spec PyProof.Rows
section
variable {X : Cx} {tg : Expr}
end
end L2
namespace L2
open PySem PySem.Spec PyProof.Rows
section
variable {P : Program} {w : World} {A : Around} {E : Value → Shared → Prop} {s : Shared}
end
end L2
namespace L2
open PySem PySem.Spec PyProof.Rows
section
variable {X : Cx}
end
end L2
namespace L2
open PySem PySem.Spec PyProof.Rows
theorem call_lstAK {X : Cx} {K : PySem.W.Frag} (h : X.K = K) : CallR X (.type "list") (rLstA K) := h ▸ call_lstA
end L2
namespace L2
open PySem PySem.Spec PyProof.Rows
section
variable {X : Cx}
end
end L2
namespace L2
open PySem PySem.Spec PyProof.Rows
section
variable {X : Cx}
end
section
variable {X : Cx}
end
end L2
set_option maxHeartbeats 4000000
namespace Srt
open PySem PySem.W PyProof.Rows
def Ok {α : Type} (n : Nat) (lt : Nat → Nat → Bool) (P : α → Prop) : KasT α → Prop
  | .ret a => P a
  | .ask i j k => i < n ∧ j < n ∧ Ok n lt P (k (lt i j))
section
variable {α β : Type} {n : Nat} {lt : Nat → Nat → Bool}
theorem Ok.mono {P R : α → Prop} (h : ∀ a, P a → R a) : ∀ {t : KasT α}, Ok n lt P t → Ok n lt R t
  | .ret _, q => h _ q
  | .ask _ _ _, q => ⟨q.1, q.2.1, Ok.mono h q.2.2⟩
theorem Ok.bind {R : β → Prop} {f : α → KasT β} : ∀ {t : KasT α}, Ok n lt (fun a => Ok n lt R (f a)) t → Ok n lt R (t.bind f)
  | .ret _, q => q
  | .ask _ _ k, q => ⟨q.1, q.2.1, Ok.bind (t := k _) q.2.2⟩
theorem Ok.wp {P : α → Prop} {cmp : Nat → Nat → (Bool → Shared → Prop) → Shared → Prop} {s : Shared} {Q : α → Shared → Prop} (hc : ∀ i j C, i < n → j < n → C (lt i j) s → cmp i j C s) (hq : ∀ a, P a → Q a s) :
    ∀ {t : KasT α}, Ok n lt P t → t.kasWp cmp Q s
  | .ret _, q => hq _ q
  | .ask i j k, q => hc i j _ q.1 q.2.1 (Ok.wp hc hq (t := k _) q.2.2)
end
structure Swo (lt : Nat → Nat → Bool) : Prop where
  irr : ∀ a, lt a a = false
  tr : ∀ a b c, lt a b = true → lt b c = true → lt a c = true
  nt : ∀ a b c, lt a c = true → lt a b = true ∨ lt b c = true
section
variable {n : Nat} {lt : Nat → Nat → Bool} (W : Swo lt)
include W
theorem Swo.le_of_lt {a b : Nat} (h : lt a b = true) : lt b a = false := by
  cases e : lt b a with
  | false => rfl
  | true => rw [← W.irr a, ← W.tr a b a h e]
theorem Swo.le_tr {a b c : Nat} (h1 : lt b a = false) (h2 : lt c b = false) : lt c a = false := by
  cases e : lt c a with
  | false => rfl
  | true => rcases W.nt c b a e with q | q
            · rw [q] at h2; cases h2
            · rw [q] at h1; cases h1
theorem Swo.lt_le {a b c : Nat} (h1 : lt a b = true) (h2 : lt c b = false) : lt a c = true := by
  rcases W.nt a c b h1 with q | q
  · exact q
  · rw [q] at h2; cases h2
end
abbrev g (p : Array Nat) (i : Nat) : Nat := p.getD i 0
def Up (lt : Nat → Nat → Bool) (p : Array Nat) (n : Nat) : Prop := ∀ i j, i ≤ j → j < n → lt (g p j) (g p i) = false
def Dn (lt : Nat → Nat → Bool) (p : Array Nat) (n : Nat) : Prop := ∀ i j, i ≤ j → j < n → lt (g p i) (g p j) = false
def Bd (n : Nat) (p : Array Nat) : Prop := p.size = n ∧ ∀ i, g p i < n
theorem g_of {p q : Array Nat} {i j : Nat} (h : p[i]? = q[j]?) : g p i = g q j := by
  unfold g
  rw [Array.getD_eq_getD_getElem?, Array.getD_eq_getD_getElem?, h]
theorem bd_perm {n : Nat} {p q : Array Nat} (hn : 0 < n) (h : q.Perm p) (b : Bd n p) : Bd n q := by
  refine ⟨by rw [h.size_eq]; exact b.1, fun i => ?_⟩
  unfold g
  rw [Array.getD_eq_getD_getElem?]
  cases e : q[i]? with
  | none => exact hn
  | some x =>
    have hx : x ∈ q := Array.mem_of_getElem? e
    have hx2 : x ∈ p := (h.mem_iff).mp hx
    obtain ⟨j, hj, ej⟩ := Array.mem_iff_getElem.mp hx2
    have := b.2 j
    unfold g at this
    rw [Array.getD_eq_getD_getElem?, Array.getElem?_eq_getElem hj, ej] at this
    exact this
section
variable {n : Nat} {lt : Nat → Nat → Bool} (W : Swo lt) (hn : 0 < n)
theorem up_more {p : Array Nat} {k : Nat} (W : Swo lt) (h0 : 1 ≤ k) (h : Up lt p k) (hk : lt (g p k) (g p (k - 1)) = false) : Up lt p (k + 1) := by
  intro i j hij hj
  by_cases e : j = k
  · subst e
    by_cases e2 : i = j
    · subst e2; exact W.irr _
    · exact W.le_tr (h i (j - 1) (by omega) (by omega)) hk
  · exact h i j hij (by omega)
theorem dn_more {p : Array Nat} {k : Nat} (W : Swo lt) (h0 : 1 ≤ k) (h : Dn lt p k) (hk : lt (g p (k - 1)) (g p k) = false) : Dn lt p (k + 1) := by
  intro i j hij hj
  by_cases e : j = k
  · subst e
    by_cases e2 : i = j
    · subst e2; exact W.irr _
    · exact W.le_tr hk (h i (j - 1) (by omega) (by omega))
  · exact h i j hij (by omega)
theorem asc_ok (W : Swo lt) {p : Array Nat} (b : Bd n p) : ∀ (f k : Nat), 1 ≤ k → Up lt p k → Ok n lt (fun m => k ≤ m ∧ m ≤ k + f ∧ Up lt p m ∧ (m < k + f → lt (g p m) (g p (m - 1)) = true)) (kas_asc p f k)
  | 0, k, _, h => ⟨Nat.le_refl _, Nat.le_refl _, h, fun z => absurd z (by simp)⟩
  | f + 1, k, h0, h => by
    refine ⟨b.2 _, b.2 _, ?_⟩
    cases e : lt (p.getD k 0) (p.getD (k - 1) 0) with
    | true =>
      show Ok n lt _ (if true = true then _ else _)
      rw [if_pos rfl]
      exact ⟨Nat.le_refl _, Nat.le_add_right _ _, h, fun _ => e⟩
    | false =>
      show Ok n lt _ (if false = true then _ else _)
      rw [if_neg (by decide)]
      exact (asc_ok W b f (k + 1) (by omega) (up_more W h0 h e)).mono fun m hm => ⟨by omega, by omega, hm.2.2.1, fun z => hm.2.2.2 (by omega)⟩
theorem rev_like {p : Array Nat} {i j : Nat} (W : Swo lt) (hj : j ≤ p.size) (he : ∀ k, i ≤ k → k < j → lt (g p k) (g p (j - 1)) = false ∧ lt (g p (j - 1)) (g p k) = false) (k : Nat) :
    lt (g (kas_rev p i j) k) (g p k) = false ∧ lt (g p k) (g (kas_rev p i j) k) = false := by
  have e := getElem?_mirror_all (i := i) hj k
  by_cases h : i ≤ k ∧ k < j
  · rw [if_pos h] at e
    have e' : g (kas_rev p i j) k = g p (i + j - 1 - k) := g_of e
    rw [e']
    have a := he (i + j - 1 - k) (by omega) (by omega)
    have c := he k h.1 h.2
    exact ⟨W.le_tr c.2 a.1, W.le_tr a.2 c.1⟩
  · rw [if_neg h] at e
    have e' : g (kas_rev p i j) k = g p k := g_of e
    rw [e']
    exact ⟨W.irr _, W.irr _⟩
theorem dn_like {p q : Array Nat} {k : Nat} (W : Swo lt) (hl : ∀ i, lt (g q i) (g p i) = false ∧ lt (g p i) (g q i) = false) (h : Dn lt p k) : Dn lt q k := fun i j hij hj =>
  W.le_tr (W.le_tr (hl j).2 (h i j hij hj)) (hl i).1
theorem rev_up {p : Array Nat} {k : Nat} (hk : k ≤ p.size) (h : Dn lt p k) : Up lt (kas_rev p 0 k) k := by
  intro i j hij hj
  have e1 := getElem?_mirror_all (i := 0) hk i
  have e2 := getElem?_mirror_all (i := 0) hk j
  rw [if_pos ⟨Nat.zero_le _, by omega⟩] at e1 e2
  have e1' : g (kas_rev p 0 k) i = g p (0 + k - 1 - i) := g_of e1
  have e2' : g (kas_rev p 0 k) j = g p (0 + k - 1 - j) := g_of e2
  rw [e1', e2']
  exact h _ _ (by omega) (by omega)
theorem rev_perm (p : Array Nat) (i j : Nat) : (kas_rev p i j).Perm p := mirror_perm p i j _
def Like (lt : Nat → Nat → Bool) (p : Array Nat) (k q : Nat) : Prop := q + 1 ≤ k ∧ ∀ m, k - (q + 1) ≤ m → m < k → lt (g p m) (g p (k - 1)) = false ∧ lt (g p (k - 1)) (g p m) = false
theorem like0 {p : Array Nat} {k : Nat} (W : Swo lt) (h : 1 ≤ k) : Like lt p k 0 := ⟨by omega, fun m h1 h2 => by
  have : m = k - 1 := by omega
  subst this
  exact ⟨W.irr _, W.irr _⟩⟩
theorem desc_ok (W : Swo lt) (hn : 0 < n) : ∀ (f : Nat) (p : Array Nat) (k q : Nat), Bd n p → 1 ≤ k → k + f ≤ n → Dn lt p k → Like lt p k q →
    Ok n lt (fun r => r.1.Perm p ∧ k ≤ r.2.1 ∧ r.2.1 ≤ k + f ∧ Dn lt r.1 r.2.1 ∧ Like lt r.1 r.2.1 r.2.2) (kas_desc f p k q)
  | 0, p, k, q, _, _, _, hd, hl => ⟨.refl _, Nat.le_refl _, Nat.le_refl _, hd, hl⟩
  | f + 1, p, k, q, b, h0, hf, hd, hl => by
    refine ⟨b.2 _, b.2 _, ?_⟩
    cases e : lt (p.getD k 0) (p.getD (k - 1) 0) with
    | true =>
      show Ok n lt _ (if true = true then _ else _)
      rw [if_pos rfl]
      by_cases hq : q > 0
      · rw [if_pos hq]
        have hk : k ≤ p.size := by rw [b.1]; omega
        have lk := rev_like W hk hl.2
        have pm := rev_perm p (k - (q + 1)) k
        have ek : g (kas_rev p (k - (q + 1)) k) k = g p k := g_of (by
          have := getElem?_mirror_all (i := k - (q + 1)) hk k
          rw [if_neg (by omega)] at this
          exact this)
        have d1 : Dn lt (kas_rev p (k - (q + 1)) k) (k + 1) := dn_more W h0 (dn_like W lk hd) (by
          rw [ek]
          exact W.le_tr (W.le_of_lt e) (lk (k - 1)).1)
        exact (desc_ok W hn f _ (k + 1) 0 (bd_perm hn pm b) (by omega) (by omega) d1 (like0 W (by omega))).mono fun r hr => ⟨hr.1.trans pm, by omega, by omega, hr.2.2.2⟩
      · rw [if_neg hq]
        exact (desc_ok W hn f p (k + 1) 0 b (by omega) (by omega) (dn_more W h0 hd (W.le_of_lt e)) (like0 W (by omega))).mono fun r hr => ⟨hr.1, by omega, by omega, hr.2.2.2⟩
    | false =>
      show Ok n lt _ (if false = true then _ else _)
      rw [if_neg (by decide)]
      refine ⟨b.2 _, b.2 _, ?_⟩
      cases e2 : lt (p.getD (k - 1) 0) (p.getD k 0) with
      | true =>
        show Ok n lt _ (if true = true then _ else _)
        rw [if_pos rfl]
        exact ⟨.refl _, Nat.le_refl _, Nat.le_add_right _ _, hd, hl⟩
      | false =>
        show Ok n lt _ (if false = true then _ else _)
        rw [if_neg (by decide)]
        refine (desc_ok W hn f p (k + 1) (q + 1) b (by omega) (by omega) (dn_more W h0 hd e2) ⟨by have := hl.1; omega, fun m h1 h2 => ?_⟩).mono fun r hr => ⟨hr.1, by omega, by omega, hr.2.2.2⟩
        show lt (g p m) (g p k) = false ∧ lt (g p k) (g p m) = false
        by_cases em : m = k
        · subst em; exact ⟨W.irr _, W.irr _⟩
        · have := hl.2 m (by omega) (by omega)
          exact ⟨W.le_tr e2 this.1, W.le_tr this.2 e⟩
theorem tail3_ok (W : Swo lt) (hn : 0 < n) {p : Array Nat} {k : Nat} (b : Bd n p) (h1 : 1 ≤ k) (hk : k ≤ n) (hd : Dn lt p k) : Ok n lt (fun r => 1 ≤ r.1 ∧ r.1 ≤ n ∧ r.2.Perm p ∧ Up lt r.2 r.1) (kas_tail3 k n p) := by
  unfold kas_tail3
  have pm := rev_perm p 0 k
  refine Ok.bind ((asc_ok W (bd_perm hn pm b) (n - k) k h1 (rev_up (by rw [b.1]; exact hk) hd)).mono fun m hm => ?_)
  exact ⟨by omega, by omega, pm, hm.2.2.1⟩
theorem descPart_ok (W : Swo lt) (hn : 0 < n) {p : Array Nat} {k : Nat} (b : Bd n p) (h1 : 1 ≤ k) (hk : k + 1 ≤ n) (hd : Dn lt p (k + 1)) : Ok n lt (fun r => 1 ≤ r.1 ∧ r.1 ≤ n ∧ r.2.Perm p ∧ Up lt r.2 r.1) (kas_descPart k n p) := by
  unfold kas_descPart
  refine Ok.bind ((desc_ok W hn (n - (k + 1)) p (k + 1) 0 b (by omega) (by omega) hd (like0 W (by omega))).mono fun r hr => ?_)
  obtain ⟨pm, a1, a2, dn, lk⟩ := hr
  have br := bd_perm hn pm b
  split
  · have hk' : r.2.1 ≤ r.1.size := by rw [br.1]; omega
    have pm2 := rev_perm r.1 (r.2.1 - (r.2.2 + 1)) r.2.1
    exact (tail3_ok W hn (bd_perm hn pm2 br) (by omega) (by omega) (dn_like W (rev_like W hk' lk.2) dn)).mono fun x hx => ⟨hx.1, hx.2.1, (hx.2.2.1.trans pm2).trans pm, hx.2.2.2⟩
  · exact (tail3_ok W hn br (by omega) (by omega) dn).mono fun x hx => ⟨hx.1, hx.2.1, hx.2.2.1.trans pm, hx.2.2.2⟩
theorem dn_of_like {p : Array Nat} {k : Nat} (W : Swo lt) (h : Up lt p k) (h0 : lt (g p 0) (g p (k - 1)) = false) : Dn lt p k := fun i j hij hj => by
  have a := h 0 i (by omega) (by omega)
  have c := h j (k - 1) (by omega) (by omega)
  exact W.le_tr (W.le_tr c h0) a
theorem count_ok (W : Swo lt) (hn : 0 < n) {p : Array Nat} (b : Bd n p) : Ok n lt (fun r => 1 ≤ r.1 ∧ r.1 ≤ n ∧ r.2.Perm p ∧ Up lt r.2 r.1) (kas_count n p) := by
  unfold kas_count
  have u1 : Up lt p 1 := fun i j hij hj => by
    have : i = j := by omega
    subst this
    exact W.irr _
  refine Ok.bind ((asc_ok W b (n - 1) 1 (by omega) u1).mono fun k hk => ?_)
  obtain ⟨h1, h2, up, h3⟩ := hk
  by_cases e : (k == n) = true
  · rw [if_pos e]
    exact ⟨h1, by omega, .refl _, up⟩
  · rw [if_neg e]
    have hne : k ≠ n := fun z => e (by rw [z]; simp)
    have hlt := h3 (by omega)
    by_cases hk1 : k > 1
    · rw [if_pos hk1]
      refine ⟨b.2 _, b.2 _, ?_⟩
      cases e2 : lt (p.getD 0 0) (p.getD (k - 1) 0) with
      | true =>
        show Ok n lt _ (if true = true then _ else _)
        rw [if_pos rfl]
        exact ⟨h1, by show k ≤ n; omega, .refl _, up⟩
      | false =>
        show Ok n lt _ (if false = true then _ else _)
        rw [if_neg (by decide)]
        have hks : k ≤ p.size := by rw [b.1]; omega
        have dn := dn_of_like W up e2
        have pm := rev_perm p 0 k
        have lk := rev_like (i := 0) W hks fun m _ hm => ⟨dn m (k - 1) (by omega) (by omega) |> fun z => z, up m (k - 1) (by omega) (by omega)⟩
        have ek : g (kas_rev p 0 k) k = g p k := g_of (by
          have := getElem?_mirror_all (i := 0) hks k
          rw [if_neg (by omega)] at this
          exact this)
        have d1 : Dn lt (kas_rev p 0 k) (k + 1) := dn_more W h1 (dn_like W lk dn) (by
          rw [ek]
          exact W.le_tr (W.le_of_lt hlt) (lk (k - 1)).1)
        exact (descPart_ok W hn (bd_perm hn pm b) h1 (by omega) d1).mono fun r hr => ⟨hr.1, hr.2.1, hr.2.2.1.trans pm, hr.2.2.2⟩
    · rw [if_neg hk1]
      have : k = 1 := by omega
      subst this
      have d1 : Dn lt p 1 := fun i j hij hj => by
        have : i = j := by omega
        subst this
        exact W.irr _
      exact descPart_ok W hn b h1 (by omega) (dn_more W h1 d1 (W.le_of_lt hlt))
theorem place_ok (W : Swo lt) {p : Array Nat} {k : Nat} (b : Bd n p) (up : Up lt p k) : ∀ (f l r : Nat), l ≤ r → r ≤ k → r - l ≤ f → (∀ i, i < l → lt (g p k) (g p i) = false) → (∀ i, r ≤ i → i < k → lt (g p k) (g p i) = true) →
    Ok n lt (fun m => m ≤ k ∧ (∀ i, i < m → lt (g p k) (g p i) = false) ∧ ∀ i, m ≤ i → i < k → lt (g p k) (g p i) = true) (kas_place p k f l r)
  | 0, l, r, h1, h2, h3, hl, hr => ⟨by omega, hl, fun i hi hk => hr i (by omega) hk⟩
  | f + 1, l, r, h1, h2, h3, hl, hr => by
    unfold kas_place
    by_cases e : l ≥ r
    · rw [if_pos e]
      exact ⟨by omega, hl, fun i hi hk => hr i (by omega) hk⟩
    · rw [if_neg e]
      refine ⟨b.2 _, b.2 _, ?_⟩
      cases e2 : lt (p.getD k 0) (p.getD ((l + r) / 2) 0) with
      | true =>
        show Ok n lt _ (if true = true then _ else _)
        rw [if_pos rfl]
        exact place_ok W b up f l ((l + r) / 2) (by omega) (by omega) (by omega) hl fun i hi hk => W.lt_le e2 (up _ i hi hk)
      | false =>
        show Ok n lt _ (if false = true then _ else _)
        rw [if_neg (by decide)]
        exact place_ok W b up f ((l + r) / 2 + 1) r (by omega) h2 (by omega) (fun i hi => W.le_tr (up i ((l + r) / 2) (by omega) (by omega)) e2) hr
theorem bin_ok (W : Swo lt) (hn : 0 < n) : ∀ (f : Nat) (p : Array Nat) (k : Nat), Bd n p → k + f = n → Up lt p k → Ok n lt (fun q => q.Perm p ∧ Up lt q n) (kas_bin f p k)
  | 0, p, k, _, hk, up => ⟨.refl _, by rw [← hk]; exact up⟩
  | f + 1, p, k, b, hk, up => by
    unfold kas_bin
    refine Ok.bind ((place_ok W b up k 0 k (Nat.zero_le _) (Nat.le_refl _) (by omega) (fun i hi => absurd hi (by omega)) fun i h1 h2 => absurd h2 (by omega)).mono fun l hl => ?_)
    obtain ⟨l1, l2, l3⟩ := hl
    have pm := bubble_perm p k (k - l)
    have hs : k < p.size := by rw [b.1]; omega
    have at' : ∀ i, g (bubble p k (k - l)) i = if i = l then g p k else if l < i ∧ i ≤ k then g p (i - 1) else g p i := fun i => by
      have e := getElem?_bubble hs (k - l) (by omega) i
      rw [show k - (k - l) = l by omega] at e
      by_cases h1 : i = l
      · rw [if_pos h1] at e ⊢; exact g_of e
      · rw [if_neg h1] at e ⊢
        by_cases h2 : l < i ∧ i ≤ k
        · rw [if_pos h2] at e ⊢; exact g_of e
        · rw [if_neg h2] at e ⊢; exact g_of e
    have up2 : Up lt (bubble p k (k - l)) (k + 1) := by
      intro i j hij hj
      rw [at' i, at' j]
      by_cases i1 : i = l
      · rw [if_pos i1]
        by_cases j1 : j = l
        · rw [if_pos j1]; exact W.irr _
        · rw [if_neg j1, if_pos ⟨by omega, by omega⟩]
          exact W.le_of_lt (l3 (j - 1) (by omega) (by omega))
      · rw [if_neg i1]
        by_cases i2 : l < i ∧ i ≤ k
        · rw [if_pos i2, if_neg (by omega), if_pos ⟨by omega, by omega⟩]
          exact up _ _ (by omega) (by omega)
        · rw [if_neg i2]
          by_cases j1 : j = l
          · rw [if_pos j1]; exact l2 i (by omega)
          · rw [if_neg j1]
            by_cases j2 : l < j ∧ j ≤ k
            · rw [if_pos j2]; exact up _ _ (by omega) (by omega)
            · rw [if_neg j2]; exact up _ _ (by omega) (by omega)
    exact (bin_ok W hn f _ (k + 1) (bd_perm hn pm b) (by omega) up2).mono fun q hq => ⟨hq.1.trans pm, hq.2⟩
theorem sort_ok (W : Swo lt) (hn : 0 < n) : Ok n lt (fun q => q.Perm (List.toArray (List.range n)) ∧ Up lt q n) (kas_sort n) := by
  unfold kas_sort
  have b : Bd n (List.toArray (List.range n)) := by
    refine ⟨by simp, fun i => ?_⟩
    unfold g
    rw [Array.getD_eq_getD_getElem?]
    by_cases h : i < n
    · simp [h]
    · simp [h, hn]
  refine Ok.bind ((count_ok W hn b).mono fun r hr => ?_)
  obtain ⟨h1, h2, pm, up⟩ := hr
  split
  · rename_i hlt
    have e : max r.1 1 = r.1 := by omega
    rw [e]
    exact (bin_ok W hn _ _ _ (bd_perm hn pm b) (by omega) up).mono fun q hq => ⟨hq.1.trans pm, hq.2⟩
  · have e : r.1 = n := by omega
    exact ⟨pm, by rw [← e]; exact up⟩
end
end Srt
namespace L2
open PySem PySem.Spec PyProof.Rows
mutual
inductive DT (H : Hp) : V → PyData → Prop
  | non : DT H .non .none
  | bl (b : Bool) : DT H (.bl b) (.bool b)
  | int (i : Int) : DT H (.int i) (.int i)
  | str (z : Str) : DT H (.str z) (.str z)
  | tup {p : Addr} {xs : List V} {ds : List PyData} : H p = some (.tup xs) → DTs H xs ds → DT H (.ref p) (.tuple ds)
inductive DTs (H : Hp) : List V → List PyData → Prop
  | nil : DTs H [] []
  | cons {x : V} {xs : List V} {d : PyData} {ds : List PyData} : DT H x d → DTs H xs ds → DTs H (x :: xs) (d :: ds)
end
mutual
theorem DT.dv {K : PySem.W.Frag} {H : Hp} : ∀ {x : V} {d : PyData}, DT H x d → DV K H x d
  | _, _, .non => .non
  | _, _, .bl b => .bl b
  | _, _, .int i => .int i
  | _, _, .str z => .str z
  | _, _, .tup h t => .tup (SqT.of h) (DTs.dv t)
theorem DTs.dv {K : PySem.W.Frag} {H : Hp} : ∀ {xs : List V} {ds : List PyData}, DTs H xs ds → DVs K H xs ds
  | _, _, .nil => .nil
  | _, _, .cons h t => .cons (DT.dv h) (DTs.dv t)
end
section
variable {H : Hp}
end
theorem tup_ne {H : Hp} {a b : Addr} {xs : List V} {o : HO} (ha : H a = some (.tup xs)) (hb : H b = some o) (ho : ∀ ys, o ≠ .tup ys) : a ≠ b := fun e => by
  subst e
  rw [ha] at hb
  exact ho xs (Option.some.inj hb).symm
mutual
def noB : PyData → Bool
  | .none => true
  | .bool _ => false
  | .int _ => true
  | .str _ => true
  | .list xs => noBs xs
  | .tuple xs => noBs xs
  | .dict _ => false
def noBs : List PyData → Bool
  | [] => true
  | x :: xs => noB x && noBs xs
end
mutual
theorem eqv_iff : ∀ (a b : PyData), noB a = true → noB b = true → (PyData.eqv a b = true ↔ a = b)
  | .list xs, b, ha, hb => by
    cases b with
    | list ys =>
      have := eqvs_iff xs ys (by simpa [noB] using ha) (by simpa [noB] using hb)
      simp only [PyData.eqv, this, PyData.list.injEq]
    | _ => simp [PyData.eqv]
  | .tuple xs, b, ha, hb => by
    cases b with
    | tuple ys =>
      have := eqvs_iff xs ys (by simpa [noB] using ha) (by simpa [noB] using hb)
      simp only [PyData.eqv, this, PyData.tuple.injEq]
    | _ => simp [PyData.eqv]
  | .dict _, _, ha, _ => by simp [noB] at ha
  | .bool _, _, ha, _ => by simp [noB] at ha
  | .none, b, _, hb => by cases b <;> simp_all [PyData.eqv, noB]
  | .int i, b, _, hb => by cases b <;> simp_all [PyData.eqv, noB]
  | .str i, b, _, hb => by cases b <;> simp_all [PyData.eqv, noB]
theorem eqvs_iff : ∀ (xs ys : List PyData), noBs xs = true → noBs ys = true → (PyData.eqvAll xs ys = true ↔ xs = ys)
  | [], ys, _, _ => by cases ys <;> simp [PyData.eqvAll]
  | x :: xs, ys, ha, hb => by
    cases ys with
    | nil => simp [PyData.eqvAll]
    | cons y ys =>
      rw [noBs, Bool.and_eq_true] at ha hb
      have h1 := eqv_iff x y ha.1 hb.1
      have h2 := eqvs_iff xs ys ha.2 hb.2
      simp only [PyData.eqvAll, Bool.and_eq_true, h1, h2, List.cons.injEq]
end
theorem noBs_all : ∀ {xs : List PyData}, (∀ x ∈ xs, noB x = true) → noBs xs = true
  | [], _ => rfl
  | x :: xs, h => by
    rw [noBs, h x List.mem_cons_self, noBs_all fun y hy => h y (List.mem_cons_of_mem _ hy)]
    rfl
theorem lays_all : ∀ {xs : List PyData}, (∀ x ∈ xs, x.canLay0 = true) → PyData.canLayAll0 xs = true
  | [], _ => rfl
  | x :: xs, h => by
    show (x.canLay0 && PyData.canLayAll0 xs) = true
    rw [h x List.mem_cons_self, lays_all fun y hy => h y (List.mem_cons_of_mem _ hy)]
    rfl
theorem nd_add {α : Type} {l : List α} {x : α} (h : l.Nodup) (hx : x ∉ l) : (l ++ [x]).Nodup :=
  List.nodup_append.mpr ⟨h, List.nodup_cons.mpr ⟨fun z => (List.not_mem_nil z).elim, List.nodup_nil⟩, fun a ha b hb e => hx (by rw [List.mem_singleton.mp hb] at e; rw [← e]; exact ha)⟩
end L2
set_option maxHeartbeats 4000000
namespace L2
open PySem PySem.Spec PyProof.Rows
mutual
def sk : PyData → PyData → Bool
  | .none, .none => true
  | .bool _, .bool _ => true
  | .int _, .int _ => true
  | .str _, .str _ => true
  | .tuple xs, .tuple ys => sks xs ys
  | _, _ => false
def sks : List PyData → List PyData → Bool
  | [], _ => true
  | _ :: _, [] => true
  | x :: xs, y :: ys => sk x y && sks xs ys
end
mutual
def ltD : PyData → PyData → Bool
  | .bool a, .bool b => !a && b
  | .int i, .int j => decide (i < j)
  | .str x, .str y => decide (x.cps.toList < y.cps.toList)
  | .tuple xs, .tuple ys => ltDs xs ys
  | _, _ => false
def ltDs : List PyData → List PyData → Bool
  | [], [] => false
  | [], _ :: _ => true
  | _ :: _, [] => false
  | x :: xs, y :: ys => if PyData.eqv x y = true then ltDs xs ys else ltD x y
end
mutual
theorem sk_eq : ∀ (a b : PyData), sk a b = true → (PyData.eqv a b = true ↔ a = b)
  | .tuple xs, b, h => by
    cases b with
    | tuple ys => simp only [PyData.eqv, PyData.tuple.injEq]; exact sks_eq xs ys (by simpa [sk] using h)
    | _ => simp [sk] at h
  | .none, b, h => by cases b <;> simp_all [sk, PyData.eqv]
  | .bool _, b, h => by cases b <;> simp_all [sk, PyData.eqv]
  | .int _, b, h => by cases b <;> simp_all [sk, PyData.eqv]
  | .str _, b, h => by cases b <;> simp_all [sk, PyData.eqv]
  | .list _, b, h => by cases b <;> simp [sk] at h
  | .dict _, b, h => by cases b <;> simp [sk] at h
theorem sks_eq : ∀ (xs ys : List PyData), sks xs ys = true → (PyData.eqvAll xs ys = true ↔ xs = ys)
  | [], ys, _ => by cases ys <;> simp [PyData.eqvAll]
  | x :: xs, [], _ => by simp [PyData.eqvAll]
  | x :: xs, y :: ys, h => by
    rw [sks, Bool.and_eq_true] at h
    simp only [PyData.eqvAll, Bool.and_eq_true, sk_eq x y h.1, sks_eq xs ys h.2, List.cons.injEq]
end
theorem str_ext {x y : Str} (h : x.cps.toList = y.cps.toList) : x = y := by
  obtain ⟨a⟩ := x
  obtain ⟨b⟩ := y
  exact congrArg Str.mk (Array.ext' h)
mutual
theorem ltD_irr : ∀ a : PyData, ltD a a = false
  | .tuple xs => by rw [ltD]; exact ltDs_irr xs
  | .none => rfl
  | .bool b => by cases b <;> rfl
  | .int i => by simp [ltD]
  | .str x => by simp [ltD, List.lt_irrefl]
  | .list _ => rfl
  | .dict _ => rfl
theorem ltDs_irr : ∀ xs : List PyData, ltDs xs xs = false
  | [] => rfl
  | x :: xs => by
    rw [ltDs, ltDs_irr xs, ltD_irr x]
    split <;> rfl
end
mutual
theorem ltD_tot : ∀ (a b : PyData), sk a b = true → ltD a b = false → ltD b a = false → a = b
  | .tuple xs, b, h, h1, h2 => by
    cases b with
    | tuple ys => exact congrArg PyData.tuple (ltDs_tot xs ys (by simpa [sk] using h) (by simpa [ltD] using h1) (by simpa [ltD] using h2))
    | _ => simp [sk] at h
  | .none, b, h, _, _ => by cases b <;> simp_all [sk]
  | .bool a, b, h, h1, h2 => by
    cases b with
    | bool c => cases a <;> cases c <;> simp_all [ltD]
    | _ => simp [sk] at h
  | .int i, b, h, h1, h2 => by
    cases b with
    | int j => simp only [ltD, decide_eq_false_iff_not] at h1 h2; exact congrArg _ (by omega)
    | _ => simp [sk] at h
  | .str x, b, h, h1, h2 => by
    cases b with
    | str y =>
      simp only [ltD, decide_eq_false_iff_not] at h1 h2
      exact congrArg _ (str_ext (List.le_antisymm (List.not_lt.mp h2) (List.not_lt.mp h1)))
    | _ => simp [sk] at h
  | .list _, b, h, _, _ => by cases b <;> simp [sk] at h
  | .dict _, b, h, _, _ => by cases b <;> simp [sk] at h
theorem ltDs_tot : ∀ (xs ys : List PyData), sks xs ys = true → ltDs xs ys = false → ltDs ys xs = false → xs = ys
  | [], [], _, _, _ => rfl
  | [], _ :: _, _, h, _ => by simp [ltDs] at h
  | _ :: _, [], _, _, h => by simp [ltDs] at h
  | x :: xs, y :: ys, h, h1, h2 => by
    rw [sks, Bool.and_eq_true] at h
    by_cases e : x = y
    · subst e
      have ex : PyData.eqv x x = true := (sk_eq x x h.1).mpr rfl
      rw [ltDs, if_pos ex] at h1 h2
      rw [ltDs_tot xs ys h.2 h1 h2]
    · have e1 : ¬ PyData.eqv x y = true := fun z => e ((sk_eq x y h.1).mp z)
      have hs : sk y x = true := sk_symm x y h.1
      have e2 : ¬ PyData.eqv y x = true := fun z => e ((sk_eq y x hs).mp z).symm
      rw [ltDs, if_neg e1] at h1
      rw [ltDs, if_neg e2] at h2
      exact absurd (ltD_tot x y h.1 h1 h2) e
theorem sk_symm : ∀ (a b : PyData), sk a b = true → sk b a = true
  | .tuple xs, b, h => by
    cases b with
    | tuple ys => rw [sk]; exact sks_symm xs ys (by simpa [sk] using h)
    | _ => simp [sk] at h
  | .none, b, h => by cases b <;> simp_all [sk]
  | .bool _, b, h => by cases b <;> simp_all [sk]
  | .int _, b, h => by cases b <;> simp_all [sk]
  | .str _, b, h => by cases b <;> simp_all [sk]
  | .list _, b, h => by cases b <;> simp [sk] at h
  | .dict _, b, h => by cases b <;> simp [sk] at h
theorem sks_symm : ∀ (xs ys : List PyData), sks xs ys = true → sks ys xs = true
  | [], [], _ => rfl
  | [], _ :: _, _ => rfl
  | _ :: _, [], _ => rfl
  | x :: xs, y :: ys, h => by
    rw [sks, Bool.and_eq_true] at h ⊢
    exact ⟨sk_symm x y h.1, sks_symm xs ys h.2⟩
end
mutual
theorem ltD_tr : ∀ (a b c : PyData), sk a b = true → sk b c = true → sk a c = true → ltD a b = true → ltD b c = true → ltD a c = true
  | .tuple xs, b, c, h1, h2, h3, l1, l2 => by
    cases b with
    | tuple ys =>
      cases c with
      | tuple zs => rw [ltD]; exact ltDs_tr xs ys zs (by simpa [sk] using h1) (by simpa [sk] using h2) (by simpa [sk] using h3) (by simpa [ltD] using l1) (by simpa [ltD] using l2)
      | _ => simp [sk] at h3
    | _ => simp [sk] at h1
  | .none, b, c, _, _, _, l1, _ => by cases b <;> simp [ltD] at l1
  | .bool a, b, c, h1, h2, h3, l1, l2 => by
    cases b with
    | bool y =>
      cases c with
      | bool z => cases a <;> cases y <;> cases z <;> simp_all [ltD]
      | _ => simp [sk] at h3
    | _ => simp [sk] at h1
  | .int i, b, c, h1, h2, h3, l1, l2 => by
    cases b with
    | int y =>
      cases c with
      | int z => simp only [ltD, decide_eq_true_eq] at *; omega
      | _ => simp [sk] at h3
    | _ => simp [sk] at h1
  | .str i, b, c, h1, h2, h3, l1, l2 => by
    cases b with
    | str y =>
      cases c with
      | str z => simp only [ltD, decide_eq_true_eq] at *; exact List.lt_trans l1 l2
      | _ => simp [sk] at h3
    | _ => simp [sk] at h1
  | .list _, b, c, _, _, _, l1, _ => by cases b <;> simp [ltD] at l1
  | .dict _, b, c, _, _, _, l1, _ => by cases b <;> simp [ltD] at l1
theorem ltDs_tr : ∀ (xs ys zs : List PyData), sks xs ys = true → sks ys zs = true → sks xs zs = true → ltDs xs ys = true → ltDs ys zs = true → ltDs xs zs = true
  | _, _, [], _, _, _, _, l2 => by
    rename_i ys _ _ _ _
    cases ys <;> simp [ltDs] at l2
  | [], _, _ :: _, _, _, _, _, _ => rfl
  | x :: xs, [], _ :: _, _, _, _, l1, _ => by simp [ltDs] at l1
  | x :: xs, y :: ys, z :: zs, h1, h2, h3, l1, l2 => by
    rw [sks, Bool.and_eq_true] at h1 h2 h3
    by_cases e1 : x = y
    · subst e1
      have q1 : PyData.eqv x x = true := (sk_eq x x h1.1).mpr rfl
      rw [ltDs, if_pos q1] at l1
      by_cases e2 : x = z
      · subst e2
        rw [ltDs, if_pos q1] at l2 ⊢
        exact ltDs_tr xs ys zs h1.2 h2.2 h3.2 l1 l2
      · have q2 : ¬ PyData.eqv x z = true := fun w => e2 ((sk_eq x z h3.1).mp w)
        rw [ltDs, if_neg q2] at l2 ⊢
        exact l2
    · have q1 : ¬ PyData.eqv x y = true := fun w => e1 ((sk_eq x y h1.1).mp w)
      rw [ltDs, if_neg q1] at l1
      by_cases e2 : y = z
      · subst e2
        rw [ltDs, if_neg q1]
        exact l1
      · have q2 : ¬ PyData.eqv y z = true := fun w => e2 ((sk_eq y z h2.1).mp w)
        rw [ltDs, if_neg q2] at l2
        have l3 := ltD_tr x y z h1.1 h2.1 h3.1 l1 l2
        have q3 : ¬ PyData.eqv x z = true := fun w => by
          have := (sk_eq x z h3.1).mp w
          subst this
          rw [ltD_irr] at l3
          cases l3
        rw [ltDs, if_neg q3]
        exact l3
end
mutual
theorem ltD_nt : ∀ (a b c : PyData), sk a b = true → sk b c = true → sk a c = true → ltD a c = true → ltD a b = true ∨ ltD b c = true
  | .tuple xs, b, c, h1, h2, h3, l => by
    cases b with
    | tuple ys =>
      cases c with
      | tuple zs => rw [ltD, ltD]; exact ltDs_nt xs ys zs (by simpa [sk] using h1) (by simpa [sk] using h2) (by simpa [sk] using h3) (by simpa [ltD] using l)
      | _ => simp [sk] at h3
    | _ => simp [sk] at h1
  | .none, b, c, _, _, _, l => by cases c <;> simp [ltD] at l
  | .bool a, b, c, h1, h2, h3, l => by
    cases b with
    | bool y =>
      cases c with
      | bool z => cases a <;> cases y <;> cases z <;> simp_all [ltD]
      | _ => simp [sk] at h3
    | _ => simp [sk] at h1
  | .int i, b, c, h1, h2, h3, l => by
    cases b with
    | int y =>
      cases c with
      | int z => simp only [ltD, decide_eq_true_eq] at *; omega
      | _ => simp [sk] at h3
    | _ => simp [sk] at h1
  | .str i, b, c, h1, h2, h3, l => by
    cases b with
    | str y =>
      cases c with
      | str z =>
        simp only [ltD, decide_eq_true_eq] at *
        by_cases hab : i.cps.toList < y.cps.toList
        · exact .inl hab
        · exact .inr (List.lt_of_le_of_lt (List.not_lt.mp hab) l)
      | _ => simp [sk] at h3
    | _ => simp [sk] at h1
  | .list _, b, c, _, _, _, l => by cases c <;> simp [ltD] at l
  | .dict _, b, c, _, _, _, l => by cases c <;> simp [ltD] at l
theorem ltDs_nt : ∀ (xs ys zs : List PyData), sks xs ys = true → sks ys zs = true → sks xs zs = true → ltDs xs zs = true → ltDs xs ys = true ∨ ltDs ys zs = true
  | xs, _, [], _, _, _, l => by cases xs <;> simp [ltDs] at l
  | [], [], _ :: _, _, _, _, _ => .inr rfl
  | [], _ :: _, _ :: _, _, _, _, _ => .inl rfl
  | x :: xs, [], _ :: _, _, _, _, _ => .inr rfl
  | x :: xs, y :: ys, z :: zs, h1, h2, h3, l => by
    rw [sks, Bool.and_eq_true] at h1 h2 h3
    by_cases e3 : x = z
    · subst e3
      have q3 : PyData.eqv x x = true := (sk_eq x x h3.1).mpr rfl
      rw [ltDs, if_pos q3] at l
      by_cases e1 : x = y
      · subst e1
        rw [ltDs, if_pos q3, ltDs, if_pos q3]
        exact ltDs_nt xs ys zs h1.2 h2.2 h3.2 l
      · have q1 : ¬ PyData.eqv x y = true := fun w => e1 ((sk_eq x y h1.1).mp w)
        have q2 : ¬ PyData.eqv y x = true := fun w => e1 ((sk_eq y x h2.1).mp w).symm
        rw [ltDs, if_neg q1, ltDs, if_neg q2]
        cases p1 : ltD x y with
        | true => exact .inl rfl
        | false =>
          cases p2 : ltD y x with
          | true => exact .inr rfl
          | false => exact absurd (ltD_tot x y h1.1 p1 p2) e1
    · have q3 : ¬ PyData.eqv x z = true := fun w => e3 ((sk_eq x z h3.1).mp w)
      rw [ltDs, if_neg q3] at l
      rcases ltD_nt x y z h1.1 h2.1 h3.1 l with p | p
      · left
        have q1 : ¬ PyData.eqv x y = true := fun w => by
          have := (sk_eq x y h1.1).mp w
          subst this
          rw [ltD_irr] at p
          cases p
        rw [ltDs, if_neg q1]
        exact p
      · right
        have q2 : ¬ PyData.eqv y z = true := fun w => by
          have := (sk_eq y z h2.1).mp w
          subst this
          rw [ltD_irr] at p
          cases p
        rw [ltDs, if_neg q2]
        exact p
end
end L2
set_option maxHeartbeats 4000000
namespace L2
open PySem PySem.Spec PyProof.Rows
def LtAt (A : Around) (s : Shared) (x y : Value) (b : Bool) : Prop := ∀ (prog : Program) (w : World) (E : Value → Shared → Prop) (Q : Value → Shared → Prop), Q (.bool b) s → wpAny (model prog w) A (richCompare .Lt x y) Q E s
open SeqAt in
theorem tuple_ltAt (l b : Addr) (us vs : Array Value) (n n2 : Nat) (dd dd2 : Option Addr) (sl sl2 : Array (Option Value)) (e : Nat → Bool) (c : Bool) :
    Meets (Builtin.«tuple.__lt__» ⟨[.ref l, .ref b], []⟩)
      (fun A R s => s.heap.get? l = some { cls := .type "tuple", dict := dd, data := .seq us n, slots := sl } ∧ s.heap.get? b = some { cls := .type "tuple", dict := dd2, data := .seq vs n2, slots := sl2 } ∧
        (∀ j (h1 : j < us.size) (h2 : j < vs.size), EqAt A.in1 s us[j] vs[j] (e j)) ∧
        (∀ i (h1 : i < us.size) (h2 : i < vs.size), (∀ j, j < i → e j = true) → e i = false → LtAt A.in1 s us[i] vs[i] c) ∧
        ((∀ j, j < min us.size vs.size → e j = true) → c = decide (us.size < vs.size)) ∧ R (.ok (.ret (.bool c))) s) :=
  .of_wp fun prog w A R s h => by
    obtain ⟨hp, g, d, tk, os⟩ := s
    obtain ⟨hl, hb, he, hlt, hall, h⟩ := h
    have f2 := AutoSeq1.sub_tuple_tuple
    have hZ : (us.toList.zip vs.toList).length = min us.size vs.size := by simp
    wp_walk using wpAny_loadPart' hl, wpAny_loadPart' hb, wpAny_forIn_list _ (fun rest b s' => b.1 = none ∧ s' = ⟨hp, g, d, tk, os⟩ ∧ ∃ i, rest = (us.toList.zip vs.toList).drop i ∧ ∀ j, j < i → e j = true) _
    case turn =>
      rintro ⟨y, x⟩ rest b s' ⟨hb', rfl, i, hz, hi⟩
      have hlt' : i < (us.toList.zip vs.toList).length := by
        rcases Nat.lt_or_ge i (us.toList.zip vs.toList).length with h' | h'
        · exact h'
        · rw [List.drop_of_length_le h'] at hz; cases hz
      have h1 : i < us.size := by omega
      have h2 : i < vs.size := by omega
      rw [List.drop_eq_getElem_cons hlt'] at hz
      injection hz with hyx hrest
      have hy : y = us[i] := by have := congrArg Prod.fst hyx; simpa using this
      have hx : x = vs[i] := by have := congrArg Prod.snd hyx; simpa using this
      subst hy hx
      refine wpAny_bind (he i h1 h2 prog w _ _ ?_)
      cases hy : e i with
      | true =>
        wp_walk
        exact ⟨rfl, rfl, i + 1, hrest, fun j hj => by
          by_cases z : j = i
          · rw [z]; exact hy
          · exact hi j (by omega)⟩
      | false =>
        have q := hlt i h1 h2 hi hy
        dsimp only
        rw [if_pos (by rfl)]
        refine wpAny_bind (wpAny_rule (wpAny_bind (q prog w _ _ ?_)))
        exact wpAny_bind (wpAny_pure (wpAny_pure (wpAny_pure ⟨_, rfl, h⟩)))
    case fin =>
      rintro ⟨b1, b2⟩ s' ⟨hb', rfl, i, hz, hi⟩
      simp only at hb'
      subst hb'
      have hge : min us.size vs.size ≤ i := by
        rcases Nat.lt_or_ge i (us.toList.zip vs.toList).length with h' | h'
        · rw [List.drop_eq_getElem_cons h'] at hz; cases hz
        · omega
      have := hall fun j hj => hi j (by omega)
      wp_walk
      exact ⟨_, rfl, by rw [this] at h; simpa [Builtin.Tuple.tupleCompareSizes] using h⟩
    case h =>
      exact ⟨rfl, rfl, 0, rfl, fun j hj => absurd hj (Nat.not_lt_zero _)⟩
theorem LtAt.tuples {A : Around} {s : Shared} {l b : Addr} {us vs : Array Value} {e : Nat → Bool} {c : Bool} (hl : s.heap.IsTuple l us) (hb : s.heap.IsTuple b vs) (hu : A.units < cLine)
    (he : ∀ j (h1 : j < us.size) (h2 : j < vs.size), SeqAt.EqAt A.in1 s us[j] vs[j] (e j)) (hlt : ∀ i (h1 : i < us.size) (h2 : i < vs.size), (∀ j, j < i → e j = true) → e i = false → LtAt A.in1 s us[i] vs[i] c)
    (hall : (∀ j, j < min us.size vs.size → e j = true) → c = decide (us.size < vs.size)) : LtAt A s (.ref l) (.ref b) c := fun prog w E Q h => by
  obtain ⟨⟨cls, dd, data, sl⟩, ho, hc, n, hd⟩ := id hl
  obtain ⟨⟨cls2, dd2, data2, sl2⟩, ho2, hc2, n2, hd2⟩ := id hb
  simp only at hc hd hc2 hd2
  subst hc hd hc2 hd2
  exact richCompare_meets_room (op := .Lt) ⟨_, ho, rfl⟩ ⟨_, ho2, rfl⟩ F.slot_tuple_lt F.entry_tuple_lt (F.args_tuple_lt_2 _ _) (tuple_ltAt l b us vs n n2 dd dd2 sl sl2 e c)
    ⟨ho, ho2, he, hlt, hall, show Value.bool c ≠ Value.notImplemented ∧ Q (.bool c) s from ⟨(fun x => nomatch x), h⟩⟩ hu
theorem LtAt.ints {A : Around} {s : Shared} (i j : Int) (t u : Tok) : LtAt A s (.int i t) (.int j u) (decide (i < j)) := fun prog w E Q h => PyProof.Rows.lt_int h
theorem LtAt.strs {A : Around} {s : Shared} (i j : Str) (t u : Tok) : LtAt A s (.str i t) (.str j u) (decide (i.cps.toList < j.cps.toList)) := fun prog w E Q h => PyProof.Rows.lt_str h
theorem LtAt.bools {A : Around} {s : Shared} (i j : Bool) : LtAt A s (.bool i) (.bool j) (!i && j) := fun prog w E Q h => by
  refine PyProof.Rows.lt_bool ?_
  cases i <;> cases j <;> exact h
open SeqAt in
theorem ltDs_at : ∀ (xs ys : List PyData) (i : Nat), i < xs.length → i < ys.length → (∀ j, j < i → pairEq xs ys j = true) → pairEq xs ys i = false → ltDs xs ys = ltD (xs.getD i .none) (ys.getD i .none)
  | x :: xs, y :: ys, 0, _, _, _, h => by
    have h' : PyData.eqv x y = false := h
    rw [ltDs, if_neg (by rw [h']; decide)]
    rfl
  | x :: xs, y :: ys, i + 1, h1, h2, hj, h => by
    have h' : PyData.eqv x y = true := hj 0 (by omega)
    rw [ltDs, if_pos h']
    exact ltDs_at xs ys i (by simpa using h1) (by simpa using h2) (fun j hlt => hj (j + 1) (by omega)) h
  | [], _, _, h1, _, _, _ => absurd h1 (Nat.not_lt_zero _)
  | _ :: _, [], _, _, h2, _, _ => absurd h2 (Nat.not_lt_zero _)
open SeqAt in
theorem ltDs_all : ∀ (xs ys : List PyData), (∀ j, j < min xs.length ys.length → pairEq xs ys j = true) → ltDs xs ys = decide (xs.length < ys.length)
  | [], [], _ => rfl
  | [], _ :: _, _ => by simp [ltDs]
  | _ :: _, [], _ => by simp [ltDs]
  | x :: xs, y :: ys, h => by
    have h' : PyData.eqv x y = true := h 0 (by simp)
    rw [ltDs, if_pos h', ltDs_all xs ys fun j hj => h (j + 1) (by simp only [List.length_cons]; omega)]
    simp
theorem sks_at : ∀ (xs ys : List PyData) (i : Nat), i < xs.length → i < ys.length → sks xs ys = true → sk (xs.getD i .none) (ys.getD i .none) = true
  | x :: xs, y :: ys, 0, _, _, h => by rw [sks, Bool.and_eq_true] at h; exact h.1
  | x :: xs, y :: ys, i + 1, h1, h2, h => by
    rw [sks, Bool.and_eq_true] at h
    exact sks_at xs ys i (by simpa using h1) (by simpa using h2) h.2
  | [], _, _, h1, _, _ => absurd h1 (Nat.not_lt_zero _)
  | _ :: _, [], _, _, h2, _ => absurd h2 (Nat.not_lt_zero _)
theorem depth_at : ∀ (xs : List PyData) (i : Nat), i < xs.length → (xs.getD i .none).depth ≤ PyData.depthAll xs
  | x :: xs, 0, _ => by show x.depth ≤ max x.depth _; omega
  | x :: xs, i + 1, h => by
    have := depth_at xs i (by simpa using h)
    show (xs.getD i .none).depth ≤ max x.depth (PyData.depthAll xs)
    omega
  | [], _, h => absurd h (Nat.not_lt_zero _)
theorem reads_at {h : Heap} : ∀ {vs : List Value} {ds : List PyData} {as : List Addr} {i : Nat} (hi : i < vs.length), ReadsAll h vs ds as → ∃ bs, Reads h vs[i] (ds.getD i .none) bs
  | _, _, _, 0, _, .cons r _ => ⟨_, r⟩
  | _, _, _, i + 1, hi, .cons _ t => reads_at (i := i) (by simpa using hi) t
theorem lays_at {ds : List PyData} {i : Nat} (h : PyData.canLayAll0 ds = true) (hi : i < ds.length) : (ds.getD i .none).canLay0 = true :=
  lay_get (j := i) h (by rw [List.getD_eq_getElem?_getD, List.getElem?_eq_getElem hi]; rfl)
open SeqAt in
theorem lt_reads : ∀ (n : Nat) (da db : PyData) (A : Around) (s : Shared) (a b : Value) (as bs : List Addr), da.depth ≤ n → Reads s.heap a da as → Reads s.heap b db bs → da.canLay0 = true → db.canLay0 = true → sk da db = true → da ≠ .none →
    A.units + n < cLine → LtAt A s a b (ltD da db)
  | n, .int i, db, A, s, a, b, as, bs, _, ra, rb, _, _, hk, _, _ => by
    cases db <;> simp [sk] at hk
    cases ra; cases rb
    exact LtAt.ints _ _ _ _
  | n, .str i, db, A, s, a, b, as, bs, _, ra, rb, _, _, hk, _, _ => by
    cases db <;> simp [sk] at hk
    cases ra; cases rb
    exact LtAt.strs _ _ _ _
  | n, .bool i, db, A, s, a, b, as, bs, _, ra, rb, _, _, hk, _, _ => by
    cases db <;> simp [sk] at hk
    cases ra; cases rb
    exact LtAt.bools _ _
  | n, .none, db, A, s, a, b, as, bs, _, _, _, _, _, _, hn, _ => absurd rfl hn
  | n, .list _, db, A, s, a, b, as, bs, _, _, _, _, _, hk, _, _ => by cases db <;> simp [sk] at hk
  | n, .dict _, db, A, s, a, b, as, bs, _, _, _, _, _, hk, _, _ => by cases db <;> simp [sk] at hk
  | 0, .tuple xs, db, A, s, a, b, as, bs, hd, _, _, _, _, _, _, _ => by
    have : PyData.depthAll xs + 1 ≤ 0 := hd
    omega
  | n + 1, .tuple xs, db, A, s, a, b, as, bs, hd, ra, rb, ca, cb, hk, _, hu => by
    cases db with
    | tuple ys =>
      have hks : sks xs ys = true := by simpa [sk] using hk
      have hd' : PyData.depthAll xs ≤ n := by
        have : PyData.depthAll xs + 1 ≤ n + 1 := hd
        omega
      cases ra with
      | tuple h1 h2 h3 h4 =>
        cases rb with
        | tuple k1 k2 k3 k4 =>
          rename_i l o us m b' o' vs m'
          have lx := ReadsAll.length _ _ _ h4
          have ly := ReadsAll.length _ _ _ k4
          rw [Array.length_toList] at lx ly
          have e : ltD (.tuple xs) (.tuple ys) = ltDs xs ys := by rw [ltD]
          rw [e]
          have eq' : ∀ j (g1 : j < us.size) (g2 : j < vs.size), EqAt A.in1 s us[j] vs[j] (pairEq xs ys j) := fun j g1 g2 => by
            obtain ⟨p1, r1⟩ := reads_at (i := j) (by rw [Array.length_toList]; exact g1) h4
            obtain ⟨p2, r2⟩ := reads_at (i := j) (by rw [Array.length_toList]; exact g2) k4
            have dj := depth_at xs j (by omega)
            have := eqAt_reads (xs.getD j .none) (ys.getD j .none) A.in1 s _ _ _ _ r1 r2 (lays_at ca (by omega)) (lays_at cb (by omega)) (by show A.units + 1 + _ < cLine; omega)
            simp only [Array.getElem_toList] at this
            exact this
          refine LtAt.tuples ⟨_, h1, h2, _, h3⟩ ⟨_, k1, k2, _, k3⟩ (by omega) eq' (fun i g1 g2 hj hf => ?_) fun hj => ?_
          · obtain ⟨p1, r1⟩ := reads_at (i := i) (by rw [Array.length_toList]; exact g1) h4
            obtain ⟨p2, r2⟩ := reads_at (i := i) (by rw [Array.length_toList]; exact g2) k4
            rw [ltDs_at xs ys i (by omega) (by omega) hj hf]
            have ski := sks_at xs ys i (by omega) (by omega) hks
            have := lt_reads n (xs.getD i .none) (ys.getD i .none) A.in1 s _ _ _ _ (Nat.le_trans (depth_at xs i (by omega)) hd') r1 r2 (lays_at ca (by omega)) (lays_at cb (by omega)) ski (fun z => by
              have hf' : PyData.eqv (xs.getD i .none) (ys.getD i .none) = false := hf
              rw [z] at ski hf'
              cases e2 : ys.getD i .none <;> rw [e2] at ski hf' <;> simp [sk, PyData.eqv] at ski hf') (by show A.units + 1 + _ < cLine; omega)
            simpa using this
          · rw [ltDs_all xs ys fun j h => hj j (by omega), lx, ly]
    | _ => simp [sk] at hk
end L2
set_option maxHeartbeats 4000000
namespace L2
open PySem PySem.Spec PySem.W PyProof.Rows
section
variable {prog : Program} {w : World} {A : Around} {E : Value → Shared → Prop} {s : Shared}
def Ext (h h' : Heap) : Prop := ∀ b o, h.get? b = some o → h'.get? b = some o
theorem Ext.trans {h h' h'' : Heap} (a : Ext h h') (b : Ext h' h'') : Ext h h'' := fun c o e => b c o (a c o e)
theorem Ext.push (h : Heap) (o : Obj) : Ext h (h.push o) := fun _ _ e => Heap.get?_push_of_some _ e
theorem Ext.upd {h h' : Heap} {a : Addr} {f : Obj → Obj} (x : Ext h h') (ha : h.objs.size ≤ a) : Ext h (h'.update a f) := fun b o e => by
  rw [Heap.get?_update_ne _ _ _ _ (Nat.ne_of_lt (Nat.lt_of_lt_of_le (Heap.lt_size e) ha))]
  exact x b o e
def Answers (prog : Program) (w : World) (A : Around) (s : Shared) (ks : List Value) (lt : Nat → Nat → Bool) : Prop :=
  ∃ κ, (∀ (Q : SortKind → Shared → Prop), Q κ s → wpAny (model prog w) A (keyKind' ks.toArray) Q (fun _ _ => False) s) ∧ ∀ i j C, i < ks.length → j < ks.length → C (lt i j) s → kas_ask prog w A κ ks i j C s
def Arr (n : Nat) (lt : Nat → Nat → Bool) (p : Array Nat) : Prop := p.Perm (List.toArray (List.range n)) ∧ Srt.Up lt p n
theorem arr_small {n : Nat} {lt : Nat → Nat → Bool} (W : Srt.Swo lt) (h : n < 2) : Arr n lt (List.toArray (List.range n)) := by
  refine ⟨.refl _, fun i j hij hj => ?_⟩
  have : i = j := by omega
  subst this
  exact W.irr _
theorem sort_run {vs ks : List Value} {lt : Nat → Nat → Bool} (W : Srt.Swo lt) (hl : ks.length = vs.length) (h64 : vs.length < 64) (h2 : ¬ vs.length < 2) {κ : SortKind} (hq : ∀ i j C, i < ks.length → j < ks.length → C (lt i j) s → kas_ask prog w A κ ks i j C s) {R : SortSt → Shared → Prop}
    (hR : ∀ st p, Arr vs.length lt p → (arrOf st).map (·.2) = List.toArray (p.toList.map fun i => vs.getD i Value.none) → failedOf st = none → R st s) :
    wpAny (model prog w) A ((sortRuns').run (SortSt.mk' κ (ks.toArray.zip vs.toArray) #[] 7 none)) (fun r s' => R r.2 s') E s := by
  refine kat_run (G := fun p s' => s' = s ∧ Arr vs.length lt p) hl (by omega) h64 (fun p st s' _ a2 a3 a4 => ?_) ?_
  · obtain ⟨rfl, ar⟩ := a4
    exact hR st p ar (kat_snds hl a2) a3
  · exact (Srt.sort_ok W (by omega)).wp (fun i j C h1 h2' c => hq i j C (by omega) (by omega) c) fun p hp => ⟨rfl, hp⟩
end
theorem small2000 {n : Nat} (h : n ≤ 2000) : n < sizeLine := Nat.lt_of_le_of_lt h (by decide)
end L2
set_option maxHeartbeats 4000000
namespace L2
open PySem PySem.Spec PySem.W PyProof.Rows
def isK : Nat → PyData → Prop
  | 0, .int _ => True
  | 1, .str _ => True
  | 2, .tuple (.int _ :: _) => True
  | 3, .tuple (.str _ :: _) => True
  | 4, .tuple (.tuple _ :: _) => True
  | _, _ => False
theorem isK_big (t : Nat) (d : PyData) : ¬ isK (t + 5) d := by
  intro h
  cases d with
  | tuple xs =>
    cases xs with
    | nil => exact h
    | cons x xs => cases x <;> exact h
  | _ => exact h
section
variable {prog : Program} {w : World} {A : Around} {s : Shared}
theorem oneLt_of {x y : Value} {c : Bool} (h : LtAt A s x y c) {Q : Bool → Shared → Prop} {E : Value → Shared → Prop} (q : Q c s) : wpAny (model prog w) A (oneLt' false x y) Q E s :=
  kat_one x y (h prog w E _ q)
theorem katlex {b fin : Bool} {Q : Bool → Shared → Prop} : ∀ (us vs : List Value) (xs ys : List PyData) (as bs : List Addr) (i : Nat), ReadsAll s.heap us xs as → ReadsAll s.heap vs ys bs → PyData.canLayAll0 xs = true → PyData.canLayAll0 ys = true → sks xs ys = true →
    PyData.depthAll xs ≤ 60 → A.units + 60 < cLine → (i = 0 → b = true → (∃ p q r r', xs = .int p :: r ∧ ys = .int q :: r') ∨ ∃ p q r r', xs = .str p :: r ∧ ys = .str q :: r') → fin = decide (us.length < vs.length) → Q (ltDs xs ys) s → KatLex prog w A b fin Q (us.zip vs) i s
  | [], vs, _, ys, _, _, i, .nil, rb, _, _, _, _, _, _, hf, q => by
    have ly := SeqAt.ReadsAll.length _ _ _ rb
    show Q fin s
    rw [hf]
    cases ys with
    | nil => rw [List.length_nil] at ly ⊢; rw [ly]; exact q
    | cons y ys => rw [ly]; exact q
  | u :: us, [], xs, _, _, _, i, ra, .nil, _, _, _, _, _, _, hf, q => by
    cases ra
    show Q fin s
    rw [hf]
    exact q
  | u :: us, v :: vs, _, _, _, _, i, .cons (d := x) (ds := xs) r1 t1, .cons (d := y) (ds := ys) r2 t2, ca, cb, hk, hd, hu, h0, hf, q => by
    have ca' : (x.canLay0 && PyData.canLayAll0 xs) = true := ca
    have cb' : (y.canLay0 && PyData.canLayAll0 ys) = true := cb
    rw [Bool.and_eq_true] at ca' cb'
    rw [sks, Bool.and_eq_true] at hk
    have hdx : x.depth ≤ 60 ∧ PyData.depthAll xs ≤ 60 := by
      have : max x.depth (PyData.depthAll xs) ≤ 60 := hd
      omega
    have eq' := SeqAt.eqAt_reads x y A s u v _ _ r1 r2 ca'.1 cb'.1 (by omega)
    refine kat_cons (eq' prog w _ _ ?_)
    cases e : PyData.eqv x y with
    | true =>
      rw [ltDs, if_pos e] at q
      refine kat_yes (katlex us vs xs ys _ _ (i + 1) t1 t2 ca'.2 cb'.2 hk.2 hdx.2 hu (fun z => by omega) ?_ q)
      rw [hf]
      simp
    | false =>
      rw [ltDs, if_neg (by rw [e]; decide)] at q
      refine kat_no ?_
      by_cases hb : (b && i == 0) = true
      · rw [hb]
        rw [Bool.and_eq_true] at hb
        rcases h0 (by simpa using hb.2) hb.1 with ⟨p, p', r, r', e1, e2⟩ | ⟨p, p', r, r', e1, e2⟩
        · cases e1; cases e2
          cases r1; cases r2
          exact oneLt_int q
        · cases e1; cases e2
          cases r1; cases r2
          exact oneLt_str q
      · rw [Bool.not_eq_true] at hb
        rw [hb]
        exact oneLt_of (lt_reads 60 x y A s u v _ _ hdx.1 r1 r2 ca'.1 cb'.1 hk.1 (fun z => by
          subst z
          have := hk.1
          cases y <;> simp [sk, PyData.eqv] at this e) hu) q
theorem firsts_of {s : Shared} : ∀ {vs : List Value} {ds : List PyData} {as : List Addr}, ReadsAll s.heap vs ds as → (∀ d ∈ ds, ∃ f r, d = .tuple (f :: r)) → ∃ fs, KatTups s.heap vs fs ∧ fs.length = vs.length ∧ ∀ v ∈ fs, ∃ f r bs, PyData.tuple (f :: r) ∈ ds ∧ Reads s.heap v f bs
  | [], _, _, .nil, _ => ⟨[], trivial, rfl, fun _ z => nomatch z⟩
  | v :: vs, _, _, .cons (d := d) (ds := ds) r t, h => by
    obtain ⟨fs, k1, k2, k3⟩ := firsts_of t fun x hx => h x (List.mem_cons_of_mem _ hx)
    obtain ⟨f, r', e⟩ := h d List.mem_cons_self
    subst e
    cases r with
    | tuple h1 h2 h3 h4 =>
      rename_i a o us n
      cases e : us.toList with
      | nil => rw [e] at h4; cases h4
      | cons u ut =>
        rw [e] at h4
        cases h4 with
        | cons q1 q2 =>
          refine ⟨u :: fs, KatTups.cons h1 h2 h3 (by rw [← Array.getElem?_toList, e]; rfl) k1, by rw [List.length_cons, List.length_cons, k2], fun v hv => ?_⟩
          rcases List.mem_cons.mp hv with rfl | hv
          · exact ⟨f, r', _, List.mem_cons_self, q1⟩
          · obtain ⟨f', r'', bs, m, q⟩ := k3 v hv
            exact ⟨f', r'', bs, List.mem_cons_of_mem _ m, q⟩
def keyAt (ds : List PyData) (i : Nat) : PyData := ds.getD i (ds.headD .none)
theorem keyAt_mem {ds : List PyData} (h : ds ≠ []) (i : Nat) : keyAt ds i ∈ ds := by
  unfold keyAt
  rw [List.getD_eq_getElem?_getD]
  cases e : ds[i]? with
  | some x => exact List.mem_of_getElem? e
  | none =>
    cases ds with
    | nil => exact absurd rfl h
    | cons a b => exact List.mem_cons_self
def ltK (ds : List PyData) (i j : Nat) : Bool := ltD (keyAt ds i) (keyAt ds j)
theorem swo_of {ds : List PyData} (h : ∀ a ∈ ds, ∀ b ∈ ds, sk a b = true) : Srt.Swo (ltK ds) := by
  by_cases e : ds = []
  · subst e
    exact ⟨fun _ => rfl, fun _ _ _ z => (by cases z), fun _ _ _ z => (by cases z)⟩
  · have m := keyAt_mem e
    exact ⟨fun _ => ltD_irr _, fun a b c => ltD_tr _ _ _ (h _ (m a) _ (m b)) (h _ (m b) _ (m c)) (h _ (m a) _ (m c)), fun a b c => ltD_nt _ _ _ (h _ (m a) _ (m b)) (h _ (m b) _ (m c)) (h _ (m a) _ (m c))⟩
structure KeysAre (ds : List PyData) (t : Nat) : Prop where
  lay : PyData.canLayAll0 ds = true
  kind : ∀ d ∈ ds, isK t d
  one : ∀ a ∈ ds, ∀ b ∈ ds, sk a b = true
  deep : ∀ d ∈ ds, d.depth ≤ 60
theorem answers_of {ks : List Value} {ds : List PyData} {as : List Addr} {t : Nat} (r : ReadsAll s.heap ks ds as) (K : KeysAre ds t) (h2 : 2 ≤ ks.length) (hu : A.units + 60 < cLine) : Answers prog w A s ks (ltK ds) := by
  have hl := SeqAt.ReadsAll.length _ _ _ r
  have look : ∀ i, i < ks.length → ∃ bs, Reads s.heap (ks.getD i Value.none) (keyAt ds i) bs ∧ keyAt ds i ∈ ds := fun i hi => by
    obtain ⟨bs, q⟩ := reads_at hi r
    have e1 : ks.getD i Value.none = ks[i] := by simp [hi]
    have e2 : keyAt ds i = ds.getD i .none := by
      have hi' : i < ds.length := by omega
      unfold keyAt
      rw [List.getD_eq_getElem?_getD, List.getD_eq_getElem?_getD, List.getElem?_eq_getElem hi']
      rfl
    refine ⟨bs, by rw [e1, e2]; exact q, keyAt_mem (fun z => ?_) i⟩
    rw [z, List.length_nil] at hl
    omega
  have memo : ∀ v ∈ ks, ∃ d bs, d ∈ ds ∧ Reads s.heap v d bs := fun v hv => by
    obtain ⟨i, hi, e⟩ := List.mem_iff_getElem.mp hv
    obtain ⟨bs, q, m⟩ := look i hi
    exact ⟨_, bs, m, by rw [← e]; simpa [hi] using q⟩
  have lays : ∀ d ∈ ds, d.canLay0 = true := fun d hd => by
    obtain ⟨i, hi, e⟩ := List.mem_iff_getElem.mp hd
    exact lay_get (j := i) K.lay (by rw [List.getElem?_eq_getElem hi, e])
  have tups : (∀ d ∈ ds, ∃ f r, d = .tuple (f :: r)) → (T : Value) → (∀ v f bs r, Reads s.heap v f bs → PyData.tuple (f :: r) ∈ ds → Looks (model prog w) s.heap (typeOf v) T) → (T == T) = true →
      ((T != Value.type "tuple") = true → ∀ d ∈ ds, ∀ d' ∈ ds, (∃ p q r r', d = .tuple (.int p :: r) ∧ d' = .tuple (.int q :: r')) ∨ ∃ p q r r', d = .tuple (.str p :: r) ∧ d' = .tuple (.str q :: r')) → Answers prog w A s ks (ltK ds) := fun h1 T h2' h3 h4 => by
    obtain ⟨fs, k1, k2, k3⟩ := firsts_of r h1
    refine ⟨tuples' (T != Value.type "tuple"), fun Q q => kat_kind k1 (by omega) (fun v hv => ?_) h3 q, fun i j C hi hj c => ?_⟩
    · obtain ⟨f, r', bs, m, q⟩ := k3 v hv
      exact h2' v f bs r' q m
    · obtain ⟨b1, q1, m1⟩ := look i hi
      obtain ⟨b2, q2, m2⟩ := look j hj
      unfold ltK at c
      obtain ⟨f1, r1, e1⟩ := h1 _ m1
      obtain ⟨f2, r2, e2⟩ := h1 _ m2
      have d1 := K.deep _ m1
      have kk := K.one _ m1 _ m2
      have lay1 := lays _ m1
      have lay2 := lays _ m2
      have hb := fun z => h4 z _ m1 _ m2
      rw [e1] at q1 d1 kk lay1 hb c
      rw [e2] at q2 kk lay2 hb c
      unfold kas_ask
      cases ev1 : ks.getD i Value.none <;> rw [ev1] at q1 <;> try (cases q1; done)
      cases ev2 : ks.getD j Value.none <;> rw [ev2] at q2 <;> try (cases q2; done)
      cases q1 with
      | tuple x1 x2 x3 x4 =>
        cases q2 with
        | tuple y1 y2 y3 y4 =>
          refine kat_lt x1 x3 y1 y3 (katlex _ _ _ _ _ _ 0 x4 y4 lay1 lay2 (by simpa [sk] using kk) ?_ hu (fun _ z => ?_) (by simp) (by rw [ltD] at c; exact c))
          · have : PyData.depthAll (f1 :: r1) + 1 ≤ 60 := d1
            omega
          · rcases hb z with ⟨p, q, r, r', g1, g2⟩ | ⟨p, q, r, r', g1, g2⟩
            · exact .inl ⟨p, q, r, r', PyData.tuple.inj g1, PyData.tuple.inj g2⟩
            · exact .inr ⟨p, q, r, r', PyData.tuple.inj g1, PyData.tuple.inj g2⟩
  match t, K.kind with
  | 0, hk =>
    refine ⟨oneType', fun Q q => kas_kind (T := Value.type "int") h2 (fun v hv => ?_) rfl rfl q, fun i j C hi hj c => ?_⟩
    · obtain ⟨d, bs, m, q⟩ := memo v hv
      have := hk d m
      cases d <;> simp only [isK] at this
      cases q
      exact Looks.of_pure rfl
    · obtain ⟨b1, q1, m1⟩ := look i hi
      obtain ⟨b2, q2, m2⟩ := look j hj
      unfold ltK at c
      unfold kas_ask
      have t1 := hk _ m1
      have t2 := hk _ m2
      cases e1 : keyAt ds i <;> rw [e1] at t1 <;> simp only [isK] at t1
      cases e2 : keyAt ds j <;> rw [e2] at t2 <;> simp only [isK] at t2
      rw [e1] at q1 c
      rw [e2] at q2 c
      cases ev1 : ks.getD i Value.none <;> rw [ev1] at q1 <;> try (cases q1; done)
      cases ev2 : ks.getD j Value.none <;> rw [ev2] at q2 <;> try (cases q2; done)
      cases q1; cases q2
      rw [keyLt'_oneType]
      exact oneLt_int c
  | 1, hk =>
    refine ⟨oneType', fun Q q => kas_kind (T := Value.type "str") h2 (fun v hv => ?_) rfl rfl q, fun i j C hi hj c => ?_⟩
    · obtain ⟨d, bs, m, q⟩ := memo v hv
      have := hk d m
      cases d <;> simp only [isK] at this
      cases q
      exact Looks.of_pure rfl
    · obtain ⟨b1, q1, m1⟩ := look i hi
      obtain ⟨b2, q2, m2⟩ := look j hj
      unfold ltK at c
      unfold kas_ask
      have t1 := hk _ m1
      have t2 := hk _ m2
      cases e1 : keyAt ds i <;> rw [e1] at t1 <;> simp only [isK] at t1
      cases e2 : keyAt ds j <;> rw [e2] at t2 <;> simp only [isK] at t2
      rw [e1] at q1 c
      rw [e2] at q2 c
      cases ev1 : ks.getD i Value.none <;> rw [ev1] at q1 <;> try (cases q1; done)
      cases ev2 : ks.getD j Value.none <;> rw [ev2] at q2 <;> try (cases q2; done)
      cases q1; cases q2
      rw [keyLt'_oneType]
      exact oneLt_str c
  | 2, hk =>
    have sh : ∀ d ∈ ds, ∃ p r, d = .tuple (.int p :: r) := fun d hd => by
      have := hk d hd
      unfold isK at this
      split at this <;> first | cases this | skip
      all_goals first | exact ⟨_, _, rfl⟩ | omega | (rename_i h _; cases h) | (exfalso; simp_all)
    refine tups (fun d hd => let ⟨p, r, e⟩ := sh d hd; ⟨_, r, e⟩) (Value.type "int") (fun v f bs r' q m => ?_) rfl fun _ d hd d' hd' => ?_
    · obtain ⟨p, r2, e⟩ := sh _ m
      cases e
      cases q
      exact Looks.of_pure rfl
    · obtain ⟨p, r1, e1⟩ := sh d hd
      obtain ⟨q, r2, e2⟩ := sh d' hd'
      exact .inl ⟨p, q, r1, r2, e1, e2⟩
  | 3, hk =>
    have sh : ∀ d ∈ ds, ∃ p r, d = .tuple (.str p :: r) := fun d hd => by
      have := hk d hd
      unfold isK at this
      split at this <;> first | cases this | skip
      all_goals first | exact ⟨_, _, rfl⟩ | omega | (rename_i h _; cases h) | (exfalso; simp_all)
    refine tups (fun d hd => let ⟨p, r, e⟩ := sh d hd; ⟨_, r, e⟩) (Value.type "str") (fun v f bs r' q m => ?_) rfl fun _ d hd d' hd' => ?_
    · obtain ⟨p, r2, e⟩ := sh _ m
      cases e
      cases q
      exact Looks.of_pure rfl
    · obtain ⟨p, r1, e1⟩ := sh d hd
      obtain ⟨q, r2, e2⟩ := sh d' hd'
      exact .inr ⟨p, q, r1, r2, e1, e2⟩
  | 4, hk =>
    have sh : ∀ d ∈ ds, ∃ p r, d = .tuple (.tuple p :: r) := fun d hd => by
      have := hk d hd
      unfold isK at this
      split at this <;> first | cases this | skip
      all_goals first | exact ⟨_, _, rfl⟩ | omega | (rename_i h _; cases h) | (exfalso; simp_all)
    refine tups (fun d hd => let ⟨p, r, e⟩ := sh d hd; ⟨_, r, e⟩) (Value.type "tuple") (fun v f bs r' q m => ?_) rfl fun z => absurd z (by decide)
    obtain ⟨p, r2, e⟩ := sh _ m
    cases e
    cases q with
    | tuple h1 h2 h3 h4 =>
      have := (Looks.ld (M := model prog w) (part := none) h1)
      rw [← h2]
      exact (Looks.ld h1).andThen .now
  | t + 5, hk =>
    exfalso
    obtain ⟨bs, q, m⟩ := look 0 (by omega)
    exact isK_big t _ (hk _ m)
end
end L2
set_option maxHeartbeats 4000000
namespace L2
open PySem PySem.Spec PySem.W PyProof.Rows
def SortIx (ds : List PyData) (ix : List Nat) : Prop := ix.Perm (List.range ds.length) ∧ (ix.map (keyAt ds)).Pairwise fun a b => ltD b a = false
theorem sortIx_of {ds : List PyData} {p : Array Nat} (h : Arr ds.length (ltK ds) p) : SortIx ds p.toList := by
  have hs : p.size = ds.length := by rw [h.1.size_eq]; simp
  refine ⟨by simpa using h.1.toList, ?_⟩
  rw [List.pairwise_iff_getElem]
  intro i j hi hj hij
  rw [List.length_map, Array.length_toList] at hi hj
  have := h.2 i j (by omega) (by omega)
  unfold ltK Srt.g at this
  rw [List.getElem_map, List.getElem_map]
  simpa [Array.getD, hi, hj] using this
theorem vals_getD {ys : List V} {us : List Value} (r : Vals ys us) (ix : List Nat) (h : ∀ i ∈ ix, i < ys.length) : Vals (ix.map fun i => ys.getD i .non) (ix.map fun i => us.getD i Value.none) := by
  induction ix with
  | nil => exact .nil
  | cons i ix ih =>
    have hi := h i List.mem_cons_self
    obtain ⟨u, hu, ru⟩ := r.get (i := i) (x := ys[i]) (List.getElem?_eq_getElem hi)
    refine .cons ?_ (ih fun j hj => h j (List.mem_cons_of_mem _ hj))
    show RelV (ys.getD i .non) (us.getD i Value.none)
    rw [List.getD_eq_getElem?_getD, List.getD_eq_getElem?_getD, hu, List.getElem?_eq_getElem hi]
    exact ru
theorem dvs_length {K : PySem.W.Frag} {H : Hp} : ∀ {xs : List V} {ds : List PyData}, DVs K H xs ds → xs.length = ds.length
  | _, _, .nil => rfl
  | _, _, .cons _ t => by rw [List.length_cons, List.length_cons, dvs_length t]
mutual
theorem reads_ext {h h' : Heap} (x : Ext h h') : ∀ {v : Value} {d : PyData} {as : List Addr}, Reads h v d as → Reads h' v d as
  | _, _, _, .none => .none
  | _, _, _, .bool b => .bool b
  | _, _, _, .int i t => .int i t
  | _, _, _, .str z t => .str z t
  | _, _, _, .list h1 h2 h3 h4 => .list (x _ _ h1) h2 h3 (readsA_ext x h4)
  | _, _, _, .tuple h1 h2 h3 h4 => .tuple (x _ _ h1) h2 h3 (readsA_ext x h4)
  | _, _, _, .dict h1 h2 h3 h4 h5 => .dict (x _ _ h1) h2 h3 (readsA_ext x h4) (readsA_ext x h5)
theorem readsA_ext {h h' : Heap} (x : Ext h h') : ∀ {v : List Value} {d : List PyData} {as : List Addr}, ReadsAll h v d as → ReadsAll h' v d as
  | _, _, _, .nil => .nil
  | _, _, _, .cons a b => .cons (reads_ext x a) (readsA_ext x b)
end
section
variable {X : Cx}
end
end L2
set_option maxHeartbeats 4000000
namespace L2
open PySem PySem.Spec PySem.W PyProof.Rows
section
variable {P : Program} {w : World} {A : Around} {E : Value → Shared → Prop} {s : Shared}
def IsTwo (P : Program) (w : World) (h : Heap) (ks ls : List Key) (a : Addr) : Prop := ∃ o c d n, h.get? a = some o ∧ o.cls = .type "tuple" ∧ o.data = .seq #[.ref c, .ref d] n ∧ (tupleKind (mixKind P w)).is h ks c ∧ (tupleKind (mixKind P w)).is h ls d
def GIs (P : Program) (w : World) (h : Heap) : KD → Value → Prop
  | .non, v => v = .none
  | .int i, v => ∃ t, v = .int i t
  | .tup ks, v => ∃ a, v = .ref a ∧ (tupleKind (mixKind P w)).is h ks a
  | .two ks ls, v => ∃ a, v = .ref a ∧ IsTwo P w h ks ls a
def gDraws (P : Program) (w : World) : KD → Nat
  | .non => 1
  | .int _ => 1
  | .tup ks => (tupleKind (mixKind P w)).draws ks
  | .two ks ls => (tupleKind (mixKind P w)).draws ks + (tupleKind (mixKind P w)).draws ls + 1
theorem two_inj {h : Heap} {a : Addr} {ks ls ks' ls' : List Key} (x : IsTwo P w h ks ls a) (y : IsTwo P w h ks' ls' a) : ks = ks' ∧ ls = ls' := by
  obtain ⟨o, c, d, n, h1, h2, h3, h4, h5⟩ := x
  obtain ⟨o', c', d', n', k1, k2, k3, k4, k5⟩ := y
  rw [h1] at k1
  cases k1
  rw [h3] at k3
  injection k3 with e _
  have e1 : c = c' := by have := congrArg (fun z : Array Value => z[0]?) e; simpa using this
  have e2 : d = d' := by have := congrArg (fun z : Array Value => z[1]?) e; simpa using this
  subst e1 e2
  exact ⟨(tupleKind (mixKind P w)).inj h4 k4, (tupleKind (mixKind P w)).inj h5 k5⟩
theorem two_tup {h : Heap} {a : Addr} {ks ls js : List Key} (x : IsTwo P w h ks ls a) (y : (tupleKind (mixKind P w)).is h js a) : False := by
  obtain ⟨o, c, d, n, h1, h2, h3, h4, h5⟩ := x
  obtain ⟨o', its, n', k1, k2, k3, k4⟩ := y
  rw [h1] at k1
  cases k1
  rw [h3] at k3
  injection k3 with e _
  subst e
  have := k4.byValue (.ref c) (by simp)
  cases this
theorem items_conv {P' : Program} {w' : World} {ks : List Key} {vs : List Value} (x : ItemsAre (mixKind P w) ks vs) : ItemsAre (mixKind P' w') ks vs := by
  induction x with
  | nil => exact .nil
  | cons h _ ih => exact .cons h ih
theorem flat_conv {P' : Program} {w' : World} {h : Heap} {ks : List Key} {a : Addr} (x : (tupleKind (mixKind P w)).is h ks a) : (tupleKind (mixKind P' w')).is h ks a := by
  obtain ⟨o, its, n, h1, h2, h3, h4⟩ := x
  exact ⟨o, its, n, h1, h2, h3, items_conv h4⟩
theorem flat_eqAt {ks ls : List Key} {a b : Addr} (hu : A.units < cLine) (x : (tupleKind (mixKind P w)).is s.heap ks a) (y : (tupleKind (mixKind P w)).is s.heap ls b) : SeqAt.EqAt A s (.ref a) (.ref b) (decide (ks = ls)) := fun P' w' E Q q => (tupleKind (mixKind P' w')).eqBool hu (flat_conv x) (flat_conv y) q
theorem IsTwo.tuple {h : Heap} {ks ls : List Key} {a : Addr} (x : IsTwo P w h ks ls a) : ∃ c d, h.IsTuple a #[.ref c, .ref d] ∧ (tupleKind (mixKind P w)).is h ks c ∧ (tupleKind (mixKind P w)).is h ls d := by
  obtain ⟨o, c, d, n, h1, h2, h3, h4, h5⟩ := x
  exact ⟨c, d, ⟨o, h1, h2, n, h3⟩, h4, h5⟩
theorem flat_tuple {h : Heap} {ks : List Key} {a : Addr} (x : (tupleKind (mixKind P w)).is h ks a) : ∃ its, h.IsTuple a its ∧ ItemsAre (mixKind P w) ks its.toList := by
  obtain ⟨o, its, n, h1, h2, h3, h4⟩ := x
  exact ⟨its, ⟨o, h1, h2, n, h3⟩, h4⟩
theorem two_eqAt {ks ls ks' ls' : List Key} {a b : Addr} (hu : A.units + 1 < cLine) (x : IsTwo P w s.heap ks ls a) (y : IsTwo P w s.heap ks' ls' b) : SeqAt.EqAt A s (.ref a) (.ref b) (decide (KD.two ks ls = KD.two ks' ls')) := by
  by_cases hab : a = b
  · subst hab
    obtain ⟨rfl, rfl⟩ := two_inj x y
    rw [decide_eq_true rfl]
    exact SeqAt.EqAt.same _
  · obtain ⟨c, d, t1, h1, h2⟩ := x.tuple
    obtain ⟨c', d', t2, k1, k2⟩ := y.tuple
    have e : decide (KD.two ks ls = KD.two ks' ls') = ((List.range (min (#[Value.ref c, .ref d] : Array Value).size (#[Value.ref c', .ref d'] : Array Value).size)).all (fun j => if j = 0 then decide (ks = ks') else decide (ls = ls')) && (#[Value.ref c, .ref d] : Array Value).size == (#[Value.ref c', .ref d'] : Array Value).size) := by
      show _ = ((if 0 = 0 then decide (ks = ks') else decide (ls = ls')) && ((if 1 = 0 then decide (ks = ks') else decide (ls = ls')) && true) && true)
      rw [if_pos rfl, if_neg (by decide), Bool.and_true, Bool.and_true, Bool.eq_iff_iff]
      simp
    rw [e]
    refine SeqAt.EqAt.of_refs hab (SeqAt.RcAt.tuples t1 t2 (by omega) fun j j1 j2 => ?_)
    match j, j1, j2 with
    | 0, _, _ => exact flat_eqAt (show A.in1.units < cLine from hu) h1 k1
    | 1, _, _ => exact flat_eqAt (show A.in1.units < cLine from hu) h2 k2
theorem all_no {n m : Nat} (h : 0 < m) : ((List.range (min m n)).all (fun _ => false) && m == n) = false := by
  by_cases e : m = n
  · subst e
    rw [Nat.min_self]
    cases m with
    | zero => omega
    | succ m => rw [List.range_succ_eq_map]; rfl
  · rw [show (m == n) = false from beq_eq_false_iff_ne.mpr e, Bool.and_false]
theorem all_no' {n m : Nat} (h : 0 < m) : ((List.range (min n m)).all (fun _ => false) && n == m) = false := by
  by_cases e : n = m
  · subst e
    rw [Nat.min_self]
    cases n with
    | zero => omega
    | succ m => rw [List.range_succ_eq_map]; rfl
  · rw [show (n == m) = false from beq_eq_false_iff_ne.mpr e, Bool.and_false]
theorem item_shape {ks : List Key} {vs : List Value} (x : ItemsAre (mixKind P w) ks vs) : ∀ (j : Nat) v, vs[j]? = some v → (∃ i t, v = .int i t) ∨ ∃ z t, v = .str z t := by
  induction x with
  | nil => intro j v e; cases e
  | cons h _ ih =>
    intro j v e
    cases j with
    | zero =>
      cases e
      rcases keyIs_shape (show keyIs _ _ = true from h) with ⟨i, t, _, e⟩ | ⟨z, t, _, e⟩
      · exact .inl ⟨i, t, e⟩
      · exact .inr ⟨z, t, e⟩
    | succ j => exact ih j v (by simpa using e)
theorem twoTup_eqAt {ks ls js : List Key} {a b : Addr} (hu : A.units + 1 < cLine) (x : IsTwo P w s.heap ks ls a) (y : (tupleKind (mixKind P w)).is s.heap js b) : SeqAt.EqAt A s (.ref a) (.ref b) false := by
  have hab : a ≠ b := fun z => by subst z; exact two_tup x y
  obtain ⟨c, d, t1, h1, h2⟩ := x.tuple
  obtain ⟨its, t2, k1⟩ := flat_tuple y
  have e : false = ((List.range (min (#[Value.ref c, .ref d] : Array Value).size its.size)).all (fun _ => false) && (#[Value.ref c, .ref d] : Array Value).size == its.size) := (all_no (m := 2) (by decide)).symm
  rw [e]
  refine SeqAt.EqAt.of_refs hab (SeqAt.RcAt.tuples t1 t2 (by omega) fun j j1 j2 => ?_)
  obtain ⟨i1, q1, _⟩ := flat_tuple h1
  obtain ⟨i2, q2, _⟩ := flat_tuple h2
  have hv := item_shape k1 j its[j] (by rw [Array.getElem?_toList, Array.getElem?_eq_getElem j2])
  have hin : A.in1.units < cLine := hu
  match j, j1, j2, hv with
  | 0, _, _, hv =>
    rcases hv with ⟨i, t, e⟩ | ⟨z, t, e⟩
    · rw [e]; exact SeqAt.EqAt.tuple_int i t q1 hin
    · rw [e]; exact SeqAt.EqAt.tuple_str z t q1 hin
  | 1, _, _, hv =>
    rcases hv with ⟨i, t, e⟩ | ⟨z, t, e⟩
    · rw [e]; exact SeqAt.EqAt.tuple_int i t q2 hin
    · rw [e]; exact SeqAt.EqAt.tuple_str z t q2 hin
theorem tupTwo_eqAt {ks ls js : List Key} {a b : Addr} (hu : A.units + 1 < cLine) (y : (tupleKind (mixKind P w)).is s.heap js a) (x : IsTwo P w s.heap ks ls b) : SeqAt.EqAt A s (.ref a) (.ref b) false := by
  have hab : a ≠ b := fun z => by subst z; exact two_tup x y
  obtain ⟨c, d, t1, h1, h2⟩ := x.tuple
  obtain ⟨its, t2, k1⟩ := flat_tuple y
  have e : false = ((List.range (min its.size (#[Value.ref c, .ref d] : Array Value).size)).all (fun _ => false) && its.size == (#[Value.ref c, .ref d] : Array Value).size) := (all_no' (m := 2) (by decide)).symm
  rw [e]
  refine SeqAt.EqAt.of_refs hab (SeqAt.RcAt.tuples t2 t1 (by omega) fun j j2 j1 => ?_)
  obtain ⟨i1, q1, _⟩ := flat_tuple h1
  obtain ⟨i2, q2, _⟩ := flat_tuple h2
  have hv := item_shape k1 j its[j] (by rw [Array.getElem?_toList, Array.getElem?_eq_getElem j2])
  have hin : A.in1.units < cLine := hu
  match j, j1, j2, hv with
  | 0, _, _, hv =>
    rcases hv with ⟨i, t, e⟩ | ⟨z, t, e⟩
    · rw [e]; exact SeqAt.EqAt.int_tuple i t q1 hin
    · rw [e]; exact SeqAt.EqAt.str_tuple z t q1 hin
  | 1, _, _, hv =>
    rcases hv with ⟨i, t, e⟩ | ⟨z, t, e⟩
    · rw [e]; exact SeqAt.EqAt.int_tuple i t q2 hin
    · rw [e]; exact SeqAt.EqAt.str_tuple z t q2 hin
theorem two_hash {ks ls : List Key} {a : Addr} {Q : Int → Shared → Prop} (hu : A.units + 1 < cLine) (hk : IsTwo P w s.heap ks ls a) (h : Q (gHash P w (.two ks ls)) { s with toks := s.toks + ((tupleKind (mixKind P w)).draws ks + (tupleKind (mixKind P w)).draws ls + 1) }) : wpAny (model P w) A (pyHash (.ref a)) Q E s := by
  obtain ⟨o, c, d, n, ho, hc, hd, h1, h2⟩ := hk
  have hT : s.TypeIs (.ref a) "tuple" := ⟨o, ho, hc⟩
  unfold pyHash
  unfold pyHashByItsType
  refine wpAny_bind (wpAny_cRoomFor_or (.inr (by omega)) ?_)
  refine wpAny_bind (wpAny_specialOf hT F.slot_tuple_hash.lookup ?_)
  show wpAny _ _ (if (some (Value.builtin "tuple.__hash__") == some Value.none) = true then _ else _) Q E s
  rw [if_neg (by rw [beq_builtin_none]; exact Bool.false_ne_true)]
  refine wpAny_bind (wpAny_specialOf hT F.slot_tuple_hash.lookup ?_)
  show wpAny _ _ (callSpecialIfBoundUnlessNone? (.ref a) "__hash__" _ >>= _) Q E s
  refine wpAny_bind (wpAny_callSpecialIfBoundUnlessNone?_slot hT F.slot_tuple_hash (wpAny_call_entry F.slot_tuple_hash hT F.entry_tuple_hash ?_ (F.args_tuple_hash_1 _)))
  show wpAny _ _ (Builtin.Tuple.tupleItemsOf (.ref a) >>= _) _ _ s
  refine wpAny_bind (wpAny_tupleItemsOf ho hd ?_)
  refine wpAny_bind ?_
  rw [← Array.forIn_toList]
  refine wpAny_forIn_list _
    (fun rest (b : Array Int) s' => (rest = [.ref c, .ref d] ∧ b.toList = [] ∧ s' = s) ∨ (rest = [.ref d] ∧ b.toList = [(tupleKind (mixKind P w)).hash ks] ∧ s' = { s with toks := s.toks + (tupleKind (mixKind P w)).draws ks }) ∨ (rest = [] ∧ b.toList = [(tupleKind (mixKind P w)).hash ks, (tupleKind (mixKind P w)).hash ls] ∧ s' = { s with toks := s.toks + (tupleKind (mixKind P w)).draws ks + (tupleKind (mixKind P w)).draws ls }))
    _ ?_ ?_ _ _ (.inl ⟨rfl, rfl, rfl⟩)
  · rintro x rest b s' (⟨e, hb, rfl⟩ | ⟨e, hb, rfl⟩ | ⟨e, hb, rfl⟩)
    · cases e
      refine wpAny_bind ((tupleKind (mixKind P w)).pyHash (show _ < cLine by first | exact hu | (show A.units + 1 < cLine; exact hu)) h1 ?_)
      first
        | exact wpAny_pure (.inr (.inl ⟨rfl, by simp [hb], rfl⟩))
        | exact wpAny_bind (wpAny_pure (wpAny_pure (.inr (.inl ⟨rfl, by simp [hb], rfl⟩))))
    · cases e
      refine wpAny_bind ((tupleKind (mixKind P w)).pyHash (s := { s with toks := s.toks + (tupleKind (mixKind P w)).draws ks }) (show _ < cLine by first | exact hu | (show A.units + 1 < cLine; exact hu)) h2 ?_)
      first
        | exact wpAny_pure (.inr (.inr ⟨rfl, by simp [hb], rfl⟩))
        | exact wpAny_bind (wpAny_pure (wpAny_pure (.inr (.inr ⟨rfl, by simp [hb], rfl⟩))))
    · cases e
  · rintro b s' (⟨e, hb, rfl⟩ | ⟨e, hb, rfl⟩ | ⟨e, hb, rfl⟩)
    · cases e
    · cases e
    · show wpAny _ _ (retInt (Builtin.Tuple.tupleHashOf b.toList)) _ _ _
      rw [hb]
      refine wpAny_ret_mkInt ?_
      show wpAny _ _ (if (decide (-(2 : Int) ^ 63 ≤ Builtin.Tuple.tupleHashOf [(tupleKind (mixKind P w)).hash ks, (tupleKind (mixKind P w)).hash ls]) && decide (Builtin.Tuple.tupleHashOf [(tupleKind (mixKind P w)).hash ks, (tupleKind (mixKind P w)).hash ls] < 2 ^ 63)) = true then _ else _) Q E _
      have h : Q (reduceHash (Builtin.Tuple.tupleHashOf [(tupleKind (mixKind P w)).hash ks, (tupleKind (mixKind P w)).hash ls])) { s with toks := s.toks + ((tupleKind (mixKind P w)).draws ks + (tupleKind (mixKind P w)).draws ls + 1) } := h
      unfold reduceHash at h
      by_cases hr : (decide (-(2 : Int) ^ 63 ≤ Builtin.Tuple.tupleHashOf [(tupleKind (mixKind P w)).hash ks, (tupleKind (mixKind P w)).hash ls]) && decide (Builtin.Tuple.tupleHashOf [(tupleKind (mixKind P w)).hash ks, (tupleKind (mixKind P w)).hash ls] < 2 ^ 63)) = true
      · rw [if_pos hr]
        rw [if_pos hr] at h
        exact wpAny_pure (by simpa [Nat.add_assoc] using h)
      · rw [if_neg hr]
        rw [if_neg hr] at h
        exact wpAny_bind (wpAny_rule (wpAny_pure (by simpa [Nat.add_assoc] using h)))
theorem quiet_flat {ks : List Key} {a : Addr} {m : Nat} {Q : Bool → Shared → Prop} (hk : (tupleKind (mixKind P w)).is s.heap ks a) (h : Q true s) : wpAny (model P w) A (eqIsQuiet (m + 1) (.ref a)) Q E s := by
  obtain ⟨o, items, n, ho, hc, hd, hi⟩ := hk
  have hT : s.TypeIs (.ref a) "tuple" := ⟨o, ho, hc⟩
  unfold eqIsQuiet
  refine wpAny_bind (wpAny_specialOf hT F.slot_tuple_eq.lookup ?_)
  show wpAny _ _ (isInstance (.ref a) (.type "tuple") >>= _) _ _ s
  refine wpAny_bind (wpAny_isInstance hT isSubtype_tuple_tuple ?_)
  simp only [Bool.not_true, Bool.false_eq_true, if_false]
  refine wpAny_bind (wpAny_seqItems ho hd ?_)
  refine wpAny_bind ?_
  show wpAny _ _ (forIn items _ _) _ _ s
  rw [← Array.forIn_toList]
  refine wpAny_forIn_list _ (fun rest r s' => r.1 = none ∧ s' = s ∧ ∀ v ∈ rest, carriedByValue v = true) _ ?_ ?_ _ _ ⟨rfl, rfl, hi.byValue⟩
  · rintro v rest r s' ⟨hr, rfl, hall⟩
    rw [eqIsQuiet_byValue _ (hall v List.mem_cons_self)]
    refine wpAny_bind (wpAny_pure ?_)
    simp only [Bool.not_true, Bool.false_eq_true, if_false]
    exact wpAny_pure ⟨rfl, rfl, fun u hu' => hall u (List.mem_cons_of_mem _ hu')⟩
  · rintro ⟨r1, r2⟩ s' ⟨hr, rfl, _⟩
    simp only at hr
    subst hr
    exact wpAny_pure h
theorem two_quiet {ks ls : List Key} {a : Addr} {Q : Bool → Shared → Prop} (hk : IsTwo P w s.heap ks ls a) (h : Q true s) : wpAny (model P w) A (eqIsQuiet 8 (.ref a)) Q E s := by
  obtain ⟨o, c, d, n, ho, hc, hd, h1, h2⟩ := hk
  have hT : s.TypeIs (.ref a) "tuple" := ⟨o, ho, hc⟩
  unfold eqIsQuiet
  refine wpAny_bind (wpAny_specialOf hT F.slot_tuple_eq.lookup ?_)
  show wpAny _ _ (isInstance (.ref a) (.type "tuple") >>= _) _ _ s
  refine wpAny_bind (wpAny_isInstance hT isSubtype_tuple_tuple ?_)
  simp only [Bool.not_true, Bool.false_eq_true, if_false]
  refine wpAny_bind (wpAny_seqItems ho hd ?_)
  refine wpAny_bind ?_
  show wpAny _ _ (forIn (#[.ref c, .ref d] : Array Value) _ _) _ _ s
  rw [← Array.forIn_toList]
  refine wpAny_forIn_list _ (fun rest r s' => r.1 = none ∧ s' = s ∧ ∀ v ∈ rest, v = .ref c ∨ v = .ref d) _ ?_ ?_ _ _ ⟨rfl, rfl, fun v hv => by simpa using hv⟩
  · rintro v rest r s' ⟨hr, rfl, hall⟩
    have hq : ∀ {Q' : Bool → Shared → Prop}, Q' true s' → wpAny (model P w) A (eqIsQuiet 7 v) Q' E s' := fun q => by
      rcases hall v List.mem_cons_self with rfl | rfl
      · exact quiet_flat (m := 6) h1 q
      · exact quiet_flat (m := 6) h2 q
    refine wpAny_bind (hq ?_)
    simp only [Bool.not_true, Bool.false_eq_true, if_false]
    exact wpAny_pure ⟨rfl, rfl, fun u hu' => hall u (List.mem_cons_of_mem _ hu')⟩
  · rintro ⟨r1, r2⟩ s' ⟨hr, rfl, _⟩
    simp only at hr
    subst hr
    exact wpAny_pure h
theorem GIs.inj {h : Heap} {x y : KD} {v : Value} (a : GIs P w h x v) (b : GIs P w h y v) : x = y := by
  cases x with
  | non =>
    cases a
    cases y with
    | non => rfl
    | int j => obtain ⟨_, e⟩ := b; cases e
    | tup ks => obtain ⟨_, e, _⟩ := b; cases e
    | two ks ls => obtain ⟨_, e, _⟩ := b; cases e
  | int i =>
    obtain ⟨t, rfl⟩ := a
    cases y with
    | non => cases b
    | int j => obtain ⟨_, e⟩ := b; cases e; rfl
    | tup ks => obtain ⟨_, e, _⟩ := b; cases e
    | two ks ls => obtain ⟨_, e, _⟩ := b; cases e
  | tup ks =>
    obtain ⟨p, rfl, q⟩ := a
    cases y with
    | non => cases b
    | int j => obtain ⟨_, e⟩ := b; cases e
    | tup ks' =>
      obtain ⟨_, e, q'⟩ := b
      cases e
      exact congrArg KD.tup ((tupleKind (mixKind P w)).inj q q')
    | two ks' ls' =>
      obtain ⟨_, e, q'⟩ := b
      cases e
      exact (two_tup q' q).elim
  | two ks ls =>
    obtain ⟨p, rfl, q⟩ := a
    cases y with
    | non => cases b
    | int j => obtain ⟨_, e⟩ := b; cases e
    | tup ks' =>
      obtain ⟨_, e, q'⟩ := b
      cases e
      exact (two_tup q q').elim
    | two ks' ls' =>
      obtain ⟨_, e, q'⟩ := b
      cases e
      obtain ⟨rfl, rfl⟩ := two_inj q q'
      rfl
theorem GIs.ext {h h' : Heap} {k : KD} {v : Value} (a : GIs P w h k v) (x : ∀ b o, h.get? b = some o → o.cls = .type "tuple" → h'.get? b = some o) : GIs P w h' k v := by
  cases k with
  | non => exact a
  | int i => exact a
  | tup ks =>
    obtain ⟨p, e, o, its, n, h1, h2, h3, h4⟩ := a
    exact ⟨p, e, o, its, n, x _ _ h1 h2, h2, h3, h4⟩
  | two ks ls =>
    obtain ⟨p, e, o, c, d, n, h1, h2, h3, ⟨o1, i1, n1, k1, k2, k3⟩, ⟨o2, i2, n2, l1, l2, l3⟩⟩ := a
    exact ⟨p, e, o, c, d, n, x _ _ h1 h2, h2, h3, ⟨o1, i1, n1, x _ _ k1 k2, k2, k3⟩, ⟨o2, i2, n2, x _ _ l1 l2, l2, l3⟩⟩
theorem hash_none {Q : Int → Shared → Prop} (h : Q 4238894112 { s with toks := s.toks + 1 }) : wpAny (model P w) A (pyHash .none) Q E s := by
  unfold pyHash
  have hT : s.TypeIs Value.none "NoneType" := rfl
  have hv : [Value.none].any Value.onHeap = false := rfl
  unfold pyHashByItsType
  refine wpAny_bind ?_
  rw [cRoomFor, if_neg (by rw [hv]; exact Bool.false_ne_true)]
  refine wpAny_pure (wpAny_bind (wpAny_specialOf hT F.slot_NoneType_hash.lookup ?_))
  show wpAny _ _ (if (some (Value.builtin "NoneType.__hash__") == some Value.none) = true then _ else _) Q E s
  rw [if_neg (by rw [beq_builtin_none]; exact Bool.false_ne_true)]
  refine wpAny_bind (wpAny_specialOf hT F.slot_NoneType_hash.lookup ?_)
  show wpAny _ _ (callSpecialIfBoundUnlessNone? .none "__hash__" _ >>= _) Q E s
  refine wpAny_bind (wpAny_callSpecialIfBoundUnlessNone?_slot hT F.slot_NoneType_hash (wpAny_call_entry F.slot_NoneType_hash hT F.entry_NoneType_hash (show wpAny _ _ (do ret (← mkInt 4238894112)) _ _ s from wpAny_ret_mkInt ?_) (F.args_NoneType_hash_1 _)))
  show wpAny _ _ (if (decide (-(2 : Int) ^ 63 ≤ 4238894112) && decide ((4238894112 : Int) < 2 ^ 63)) = true then _ else _) Q E _
  rw [if_pos (by decide)]
  exact wpAny_pure h
theorem GIs.hash {k : KD} {v : Value} (hu : A.units + 1 < cLine) (a : GIs P w s.heap k v) {Q : Int → Shared → Prop} (h : Q (gHash P w k) { s with toks := s.toks + gDraws P w k }) : wpAny (model P w) A (pyHash v) Q E s := by
  cases k with
  | non => cases a; exact hash_none h
  | int i => obtain ⟨t, rfl⟩ := a; exact wpAny_pyHash_int h
  | tup ks => obtain ⟨p, rfl, q⟩ := a; exact (tupleKind (mixKind P w)).pyHash (show A.units < cLine by omega) q h
  | two ks ls => obtain ⟨p, rfl, q⟩ := a; exact two_hash hu q h
theorem GIs.tuple {h : Heap} {ks : List Key} {v : Value} (a : GIs P w h (.tup ks) v) : ∃ p its, v = .ref p ∧ h.IsTuple p its := by
  obtain ⟨p, e, o, its, n, h1, h2, h3, _⟩ := a
  exact ⟨p, its, e, o, h1, h2, n, h3⟩
theorem GIs.tuple2 {h : Heap} {ks ls : List Key} {v : Value} (a : GIs P w h (.two ks ls) v) : ∃ p its, v = .ref p ∧ h.IsTuple p its := by
  obtain ⟨p, e, q⟩ := a
  obtain ⟨c, d, t, _⟩ := q.tuple
  exact ⟨p, _, e, t⟩
theorem GIs.eq {x y : KD} {u v : Value} (hu1 : A.units + 1 < cLine) (a : GIs P w s.heap x u) (b : GIs P w s.heap y v) {Q : Bool → Shared → Prop} (h : Q (decide (x = y)) s) : wpAny (model P w) A (eqBool u v) Q E s := by
  have ne : ∀ {z z' : KD}, z ≠ z' → decide (z = z') = false := fun q => decide_eq_false q
  have hu : A.units < cLine := by omega
  cases x with
  | non =>
    cases a
    cases y with
    | non => cases b; exact SeqAt.EqAt.same _ _ _ _ _ h
    | int j =>
      obtain ⟨t, rfl⟩ := b
      rw [ne (by intro z; cases z)] at h
      exact SeqAt.EqAt.none_int _ _ _ _ _ _ h
    | tup ks =>
      obtain ⟨p, its, rfl, q⟩ := b.tuple
      rw [ne (by intro z; cases z)] at h
      exact SeqAt.EqAt.none_tuple q hu _ _ _ _ h
    | two ks ls =>
      obtain ⟨p, its, rfl, q⟩ := b.tuple2
      rw [ne (by intro z; cases z)] at h
      exact SeqAt.EqAt.none_tuple q hu _ _ _ _ h
  | int i =>
    obtain ⟨t, rfl⟩ := a
    cases y with
    | non =>
      cases b
      rw [ne (by intro z; cases z)] at h
      exact SeqAt.EqAt.int_none _ _ _ _ _ _ h
    | int j =>
      obtain ⟨t, rfl⟩ := b
      refine SeqAt.EqAt.int_int _ _ _ _ _ _ _ _ ?_
      rw [show (i == j) = decide (KD.int i = KD.int j) from by by_cases z : i = j <;> simp [z]]
      exact h
    | tup ks =>
      obtain ⟨p, its, rfl, q⟩ := b.tuple
      rw [ne (by intro z; cases z)] at h
      exact SeqAt.EqAt.int_tuple _ _ q hu _ _ _ _ h
    | two ks ls =>
      obtain ⟨p, its, rfl, q⟩ := b.tuple2
      rw [ne (by intro z; cases z)] at h
      exact SeqAt.EqAt.int_tuple _ _ q hu _ _ _ _ h
  | tup ks =>
    cases y with
    | non =>
      cases b
      obtain ⟨p, its, rfl, q⟩ := a.tuple
      rw [ne (by intro z; cases z)] at h
      exact SeqAt.EqAt.tuple_none q hu _ _ _ _ h
    | int j =>
      obtain ⟨t, rfl⟩ := b
      obtain ⟨p, its, rfl, q⟩ := a.tuple
      rw [ne (by intro z; cases z)] at h
      exact SeqAt.EqAt.tuple_int _ _ q hu _ _ _ _ h
    | tup ks' =>
      obtain ⟨p, rfl, q⟩ := a
      obtain ⟨p', rfl, q'⟩ := b
      refine (tupleKind (mixKind P w)).eqBool hu q q' ?_
      rw [show decide (ks = ks') = decide (KD.tup ks = KD.tup ks') from by by_cases z : ks = ks' <;> simp [z]]
      exact h
    | two ks' ls' =>
      obtain ⟨p, rfl, q⟩ := a
      obtain ⟨p', rfl, q'⟩ := b
      rw [ne (by intro z; cases z)] at h
      exact tupTwo_eqAt hu1 q q' _ _ _ _ h
  | two ks ls =>
    cases y with
    | non =>
      cases b
      obtain ⟨p, its, rfl, q⟩ := a.tuple2
      rw [ne (by intro z; cases z)] at h
      exact SeqAt.EqAt.tuple_none q hu _ _ _ _ h
    | int j =>
      obtain ⟨t, rfl⟩ := b
      obtain ⟨p, its, rfl, q⟩ := a.tuple2
      rw [ne (by intro z; cases z)] at h
      exact SeqAt.EqAt.tuple_int _ _ q hu _ _ _ _ h
    | tup ks' =>
      obtain ⟨p, rfl, q⟩ := a
      obtain ⟨p', rfl, q'⟩ := b
      rw [ne (by intro z; cases z)] at h
      exact twoTup_eqAt hu1 q q' _ _ _ _ h
    | two ks' ls' =>
      obtain ⟨p, rfl, q⟩ := a
      obtain ⟨p', rfl, q'⟩ := b
      exact two_eqAt hu1 q q' _ _ _ _ h
theorem GIs.quiet {k : KD} {v : Value} (a : GIs P w s.heap k v) {Q : Bool → Shared → Prop} (h : Q true s) : wpAny (model P w) A (eqIsQuiet 8 v) Q E s := by
  cases k with
  | non => cases a; exact wpAny_pure h
  | int i => obtain ⟨t, rfl⟩ := a; exact wpAny_pure h
  | tup ks => obtain ⟨p, rfl, q⟩ := a; exact (tupleKind (mixKind P w)).quiet q h
  | two ks ls => obtain ⟨p, rfl, q⟩ := a; exact two_quiet q h
theorem g_tell {k : KD} {v : Value} {l : List Value} (a : GIs P w s.heap k v) (hl : ∀ u ∈ l, ∃ k', GIs P w s.heap k' u) {Q : Bool → Shared → Prop} (h : Q false s) : wpAny (model P w) A (tableMayTell v l) Q E s := by
  unfold tableMayTell
  split
  · exact wpAny_pure h
  · refine wpAny_bind (a.quiet ?_)
    rw [if_neg (by decide)]
    refine wpAny_bind (wpAny_forIn_list _ (fun r b s' => s' = s ∧ b = (none, ()) ∧ ∀ u ∈ r, ∃ k', GIs P w s.heap k' u) _ ?_ ?_ _ _ ⟨rfl, rfl, hl⟩)
    · rintro u r b s' ⟨rfl, rfl, hr⟩
      obtain ⟨k', hk⟩ := hr u List.mem_cons_self
      refine wpAny_bind (hk.quiet ?_)
      rw [if_neg (by decide)]
      exact wpAny_pure ⟨rfl, rfl, fun x hx => hr x (List.mem_cons_of_mem _ hx)⟩
    · rintro b s' ⟨rfl, rfl, _⟩
      exact wpAny_pure h
def gIdx (xs : List (KD × Value × Value)) (k : KD) : Option Nat := xs.findIdx? fun x => decide (x.1 = k)
theorem gIdx_some {xs : List (KD × Value × Value)} {k : KD} {j : Nat} {x : KD × Value × Value} (hn : (xs.map (·.1)).Nodup) (h : xs[j]? = some x) (e : x.1 = k) : gIdx xs k = some j := by
  unfold gIdx
  rw [List.findIdx?_eq_some_iff_getElem]
  obtain ⟨hj, ej⟩ := List.getElem?_eq_some_iff.mp h
  refine ⟨hj, by rw [ej, e]; simp, fun i hi => ?_⟩
  have : ¬ xs[i].1 = k := fun z => by
    have e1 : (xs.map (·.1))[i]? = some k := by rw [List.getElem?_map, List.getElem?_eq_getElem (by omega)]; simp [z]
    have e2 : (xs.map (·.1))[j]? = some k := by rw [List.getElem?_map, h]; simp [e]
    have := (List.getElem?_inj (by rw [List.length_map]; omega) hn).mp (e1.trans e2.symm)
    omega
  simpa using this
theorem gIdx_none {xs : List (KD × Value × Value)} {k : KD} (h : ∀ (j : Nat) x, xs[j]? = some x → x.1 ≠ k) : gIdx xs k = none := by
  unfold gIdx
  rw [List.findIdx?_eq_none_iff]
  intro x hx
  obtain ⟨j, hj, e⟩ := List.mem_iff_getElem.mp hx
  exact decide_eq_false (h j x (by rw [List.getElem?_eq_getElem hj, e]))
theorem g_loop {xs : List (KD × Value × Value)} {k : KD} {es : Array DictEntry} (at' : ∀ j : Nat, es[j]? = (xs[j]?).map (gEnt P w)) (sz : es.size = xs.length) (hn : (xs.map (·.1)).Nodup) {body : Nat → Option (Option Nat) × Option Nat → Sem (ForInStep (Option (Option Nat) × Option Nat))} {R : Option (Option Nat) × Option Nat → Shared → Prop}
    (B : ∀ (i : Nat) b hit (R' : ForInStep (Option (Option Nat) × Option Nat) → Shared → Prop), xs[i]? = some b → (b.1 = k → hit = none ∧ R' (.done (some (some i), hit)) s ∧ R' (.yield (none, some i)) s) → (b.1 ≠ k → R' (.yield (none, hit)) s) → wpAny (model P w) A (body i (none, hit)) R' E s)
    (R0 : (∀ (j : Nat) x, xs[j]? = some x → x.1 ≠ k) → R (none, none) s) (R1 : ∀ (j : Nat) x, xs[j]? = some x → x.1 = k → R (some (some j), none) s ∧ R (none, some j) s) :
    wpAny (model P w) A (forIn (placesWithHash es.size (fun i => es[i]?.map (·.hash)) (gHash P w k)) (none, none) body) R E s := by
  have has : ∀ (j : Nat) x, xs[j]? = some x → x.1 = k → ((es[j]?.map (·.hash)) == some (gHash P w k)) = true := fun j x hj e => by
    rw [at' j, hj]
    show (some (gHash P w x.1) == some (gHash P w k)) = true
    rw [e]
    simp
  have one : ∀ {i j : Nat} {x y : KD × Value × Value}, xs[i]? = some x → xs[j]? = some y → x.1 = k → y.1 = k → i = j := fun {i j x y} h1 h2 e1 e2 => by
    have q1 : (xs.map (·.1))[i]? = some k := by rw [List.getElem?_map, h1]; exact congrArg some e1
    have q2 : (xs.map (·.1))[j]? = some k := by rw [List.getElem?_map, h2]; exact congrArg some e2
    exact (List.getElem?_inj (List.getElem?_eq_some_iff.mp q1).1 hn).mp (q1.trans q2.symm)
  refine wpAny_forIn_list _ (fun rest b s' => s' = s ∧ ∃ i hit, b = (none, hit) ∧ rest = (List.range' i (es.size - i)).filter (fun i => (es[i]?.map (·.hash)) == some (gHash P w k)) ∧ i ≤ es.size ∧
      ((hit = none ∧ ∀ (j : Nat) x, j < i → xs[j]? = some x → x.1 ≠ k) ∨ ∃ j x, hit = some j ∧ j < i ∧ xs[j]? = some x ∧ x.1 = k)) _ ?_ ?_ _ _
    ⟨rfl, 0, none, rfl, by rw [placesWithHash, List.range_eq_range', Nat.sub_zero], Nat.zero_le _, .inl ⟨rfl, fun j x hj => absurd hj (Nat.not_lt_zero _)⟩⟩
  · rintro x rest b s' ⟨rfl, i, hit, rfl, hr, hi, hH⟩
    obtain ⟨hix, hxn, hpx, hskip, hrest⟩ := filter_range'_cons _ _ _ _ _ hr.symm
    have hlt : x < es.size := by omega
    have hrest' : rest = (List.range' (x + 1) (es.size - (x + 1))).filter (fun i => (es[i]?.map (·.hash)) == some (gHash P w k)) := by
      rw [hrest]
      congr 2
      omega
    have hx : xs[x]? = some (xs[x]'(by omega)) := List.getElem?_eq_getElem _
    generalize xs[x]'(by omega) = b at hx
    have gap : ∀ (j : Nat) y, i ≤ j → j < x → xs[j]? = some y → y.1 ≠ k := fun j y h1 h2 hj e => by
      have := hskip j h1 h2
      rw [has j y hj e] at this
      exact absurd this (by decide)
    refine B x b hit _ hx (fun e => ?_) fun e => ?_
    · rcases hH with ⟨rfl, hno⟩ | ⟨j, y, _, hj, hy, ey⟩
      · exact ⟨rfl, (R1 x b hx e).1, rfl, x + 1, some x, rfl, hrest', hlt, .inr ⟨x, b, rfl, Nat.lt_succ_self x, hx, e⟩⟩
      · have := one hy hx ey e
        omega
    · refine ⟨rfl, x + 1, hit, rfl, hrest', hlt, ?_⟩
      rcases hH with ⟨h0, hno⟩ | ⟨j, y, h1, hj, hy, ey⟩
      · refine .inl ⟨h0, fun j y hjx hj => ?_⟩
        by_cases c1 : j < i
        · exact hno j y c1 hj
        · by_cases c2 : j < x
          · exact gap j y (by omega) c2 hj
          · have : j = x := by omega
            subst this
            rw [hx] at hj
            cases hj
            exact e
      · exact .inr ⟨j, y, h1, by omega, hy, ey⟩
  · rintro b s' ⟨rfl, i, hit, rfl, hr, hi, hH⟩
    rcases hH with ⟨rfl, hno⟩ | ⟨j, y, rfl, hj, hy, ey⟩
    · refine R0 fun j x hj e => ?_
      by_cases c1 : j < i
      · exact hno j x c1 hj e
      · have hjl : j < es.size := by rw [sz]; exact (List.getElem?_eq_some_iff.mp hj).1
        have := List.filter_eq_nil_iff.mp hr.symm j (List.mem_range'_1.mpr ⟨by omega, by omega⟩)
        exact this (has j x hj e)
    · exact (R1 j y hy ey).2
theorem g_plain {d : Addr} {o : Obj} {es : Array DictEntry} {ep : Nat} {xs : List (KD × Value × Value)} {k : KD} {v : Value} {Q : Option Nat → Shared → Prop} (hu : A.units + 1 < cLine) (a : GIs P w s.heap k v) (ho : s.heap.get? d = some o) (hd : o.data = .dict es ep)
    (at' : ∀ j : Nat, es[j]? = (xs[j]?).map (gEnt P w)) (sz : es.size = xs.length) (his : ∀ x ∈ xs, GIs P w s.heap x.1 x.2.1) (hn : (xs.map (·.1)).Nodup) (hQ : Q (gIdx xs k) s) : wpAny (model P w) A (dictWalkPlain d v (gHash P w k) es (placesWithHash es.size (fun i => es[i]?.map (·.hash)) (gHash P w k))) Q E s := by
  unfold dictWalkPlain
  have has : ∀ (j : Nat) x, xs[j]? = some x → x.1 = k → ((es[j]?.map (·.hash)) == some (gHash P w k)) = true := fun j x hj e => by
    rw [at' j, hj]
    show (some (gHash P w x.1) == some (gHash P w k)) = true
    rw [e]
    simp
  refine wpAny_bind (wpAny_forIn_list _ (fun rest b s' => s' = s ∧ b = (none, ()) ∧ ∃ i, rest = (List.range' i (es.size - i)).filter (fun i => (es[i]?.map (·.hash)) == some (gHash P w k)) ∧ i ≤ es.size ∧ ∀ (j : Nat) x, j < i → xs[j]? = some x → x.1 ≠ k) _ ?_ ?_ _ _
    ⟨rfl, rfl, 0, by rw [placesWithHash, List.range_eq_range', Nat.sub_zero], Nat.zero_le _, fun j x hj => absurd hj (Nat.not_lt_zero _)⟩)
  · rintro x rest b s' ⟨rfl, rfl, i, hr, hi, hno⟩
    obtain ⟨hix, hxn, hpx, hskip, hrest⟩ := filter_range'_cons _ _ _ _ _ hr.symm
    have hlt : x < es.size := by omega
    have hx : xs[x]? = some (xs[x]'(by omega)) := List.getElem?_eq_getElem _
    generalize xs[x]'(by omega) = b at hx
    have hex : es[x]? = some (gEnt P w b) := by rw [at' x, hx]; rfl
    have more : b.1 ≠ k → ∃ i, rest = (List.range' i (es.size - i)).filter (fun i => (es[i]?.map (·.hash)) == some (gHash P w k)) ∧ i ≤ es.size ∧ ∀ (j : Nat) x, j < i → xs[j]? = some x → x.1 ≠ k := fun e => ⟨x + 1, by rw [hrest]; congr 2; omega, hlt, fun j y hjx hj => by
      by_cases c1 : j < i
      · exact hno j y c1 hj
      · by_cases c2 : j < x
        · intro z
          have := hskip j (by omega) c2
          rw [has j y hj z] at this
          exact absurd this (by decide)
        · have : j = x := by omega
          subst this
          rw [hx] at hj
          cases hj
          exact e⟩
    rw [hex]
    try dsimp only
    have hh : ((gEnt P w b).hash == gHash P w k) = true := by
      have := hpx
      rw [hex] at this
      simpa using this
    rw [if_pos hh]
    refine wpAny_bind (wpAny_dictEpoch ho hd (wpAny_bind ((his b (List.mem_of_getElem? hx)).eq hu a (wpAny_bind (wpAny_dictEpoch ho hd ?_)))))
    try dsimp only
    rw [if_neg (by simp)]
    by_cases e : b.1 = k
    · rw [decide_eq_true e, if_pos rfl]
      refine wpAny_bind (wpAny_rule (wpAny_pure (wpAny_pure ?_)))
      rw [← gIdx_some hn hx e]
      exact hQ
    · rw [decide_eq_false e, if_neg (by decide)]
      exact wpAny_bind (wpAny_rule (wpAny_pure ⟨rfl, rfl, more e⟩))
  · rintro b s' ⟨rfl, rfl, i, hr, hi, hno⟩
    refine wpAny_pure ?_
    rw [← gIdx_none (xs := xs) (k := k) fun j x hj e => ?_]
    · exact hQ
    · by_cases c1 : j < i
      · exact hno j x c1 hj e
      · have hjl : j < es.size := by rw [sz]; exact (List.getElem?_eq_some_iff.mp hj).1
        exact List.filter_eq_nil_iff.mp hr.symm j (List.mem_range'_1.mpr ⟨by omega, by omega⟩) (has j x hj e)
theorem g_find {d : Addr} {o : Obj} {es : Array DictEntry} {ep : Nat} {xs : List (KD × Value × Value)} {k : KD} {v : Value} {Q : Option Nat → Shared → Prop} (hu : A.units + 1 < cLine) (a : GIs P w s.heap k v) (ho : s.heap.get? d = some o) (hd : o.data = .dict es ep)
    (he : es.toList = xs.map (gEnt P w)) (his : ∀ x ∈ xs, GIs P w s.heap x.1 x.2.1) (hn : (xs.map (·.1)).Nodup) (hQ : Q (gIdx xs k) s) : wpAny (model P w) A (dictFind d v (gHash P w k)) Q E s := by
  have at' : ∀ j : Nat, es[j]? = (xs[j]?).map (gEnt P w) := fun j => by rw [← Array.getElem?_toList, he, List.getElem?_map]
  have sz : es.size = xs.length := by rw [← Array.length_toList, he, List.length_map]
  have key : ∀ (j : Nat) x, xs[j]? = some x → x.1 = k → ((es[j]?.map (·.hash)) == some (gHash P w k)) = true := fun j x hj e => by
    rw [at' j, hj]
    show (some (gHash P w x.1) == some (gHash P w k)) = true
    rw [e]
    simp
  have mem : ∀ e ∈ es, ∃ x ∈ xs, e = gEnt P w x := fun e hin => by
    obtain ⟨x, hx, z⟩ := List.mem_map.mp (show e ∈ xs.map (gEnt P w) from he ▸ Array.mem_toList_iff.mpr hin)
    exact ⟨x, hx, z.symm⟩
  have nostr : ∀ z t, v ≠ .str z t := fun z t e => by
    rw [e] at a
    cases k with
    | non => cases a
    | int i => obtain ⟨_, q⟩ := a; cases q
    | tup ks => obtain ⟨_, q, _⟩ := a; cases q
    | two ks ls => obtain ⟨_, q, _⟩ := a; cases q
  have anyF : ¬ (es.any fun e => e.key == v && e.hash != gHash P w k) = true := by
    rw [← Array.any_toList, List.any_eq_true]
    rintro ⟨e, hin, hc⟩
    obtain ⟨x, hx, rfl⟩ := mem e (Array.mem_toList_iff.mp hin)
    rw [Bool.and_eq_true] at hc
    have e1 : x.2.1 = v := eq_of_beq hc.1
    have e2 := his x hx
    rw [e1] at e2
    have e3 := e2.inj a
    have e4 : (gHash P w x.1 != gHash P w k) = true := hc.2
    rw [e3] at e4
    simp at e4
  have st : ∀ u ∈ (placesWithHash es.size (fun i => es[i]?.map (·.hash)) (gHash P w k)).filterMap (fun i => es[i]?.map (·.key)), ∃ k', GIs P w s.heap k' u := fun u hu' => by
    obtain ⟨i, _, hi⟩ := List.mem_filterMap.mp hu'
    rw [at' i] at hi
    cases e : xs[i]? with
    | none => rw [e] at hi; cases hi
    | some x =>
      rw [e] at hi
      have e2 : x.2.1 = u := by simpa [gEnt] using hi
      exact ⟨x.1, e2 ▸ his x (List.mem_of_getElem? e)⟩
  have look : ∀ (x : Nat) (b : KD × Value × Value) {R : Bool → Shared → Prop}, xs[x]? = some b → R (decide (b.1 = k)) s → wpAny (model P w) A (eqBool b.2.1 v) R E s := fun x b R hx r => (his b (List.mem_of_getElem? hx)).eq hu a r
  have noneQ : (∀ (j : Nat) x, xs[j]? = some x → x.1 ≠ k) → Q none s := fun h => by rw [← gIdx_none h]; exact hQ
  have someQ : ∀ (j : Nat) x, xs[j]? = some x → x.1 = k → Q (some j) s := fun j x hj e => by rw [← gIdx_some hn hj e]; exact hQ
  unfold dictFind
  try with_reducible refine wpAny_holding ?_
  refine wpAny_bind (wpAny_dictEntries ho hd ?_)
  have vc : v = .none ∨ (∃ i t, v = .int i t) ∨ ∃ p, v = .ref p := by
    cases k with
    | non => exact .inl a
    | int i => exact .inr (.inl ⟨i, a⟩)
    | tup ks => exact .inr (.inr ⟨a.choose, a.choose_spec.1⟩)
    | two ks ls => exact .inr (.inr ⟨a.choose, a.choose_spec.1⟩)
  by_cases hv : (v :: (placesWithHash es.size (fun i => es[i]?.map (·.hash)) (gHash P w k)).filterMap (fun i => es[i]?.map (·.key))).all carriedByValue = true
  · rcases vc with rfl | ⟨i, t, rfl⟩ | ⟨p, rfl⟩
    · dsimp only
      rw [if_pos hv]
      exact g_plain hu a ho hd at' sz his hn hQ
    · dsimp only
      rw [if_pos hv]
      exact g_plain hu a ho hd at' sz his hn hQ
    · exact absurd hv (by simp [carriedByValue])
  · rcases vc with rfl | ⟨i, t, rfl⟩ | ⟨p, rfl⟩ <;> dsimp only <;> rw [if_neg hv] <;> (try rw [if_neg anyF]) <;> refine wpAny_ite_split (fun _ => ?_) (fun _ => ?_) <;> (first | refine wpAny_bind (wpAny_pure ?_) | refine wpAny_bind (g_tell a st ?_)) <;> (
      rw [if_neg (by simp)]
      refine wpAny_bind (g_loop at' sz hn (fun i b hit R' hx y n => ?_) (fun h => wpAny_pure (noneQ h)) fun j x hj e => ⟨wpAny_pure (someQ j x hj e), wpAny_pure (someQ j x hj e)⟩)
      have hex : es[i]? = some (gEnt P w b) := by rw [at' i, hx]; rfl
      rw [hex]
      dsimp only
      by_cases hh : ((gEnt P w b).hash == gHash P w k) = true
      · rw [if_pos hh]
        refine wpAny_bind (wpAny_dictEpoch ho hd (wpAny_bind (look i b hx (wpAny_bind (wpAny_dictEpoch ho hd ?_)))))
        rw [if_neg (by simp)]
        by_cases e : b.1 = k
        · obtain ⟨rfl, y1, y2⟩ := y e
          rw [decide_eq_true e, if_pos rfl, if_neg (by decide)]
          refine wpAny_bind (wpAny_rule ?_)
          split
          · exact wpAny_pure y1
          · exact wpAny_pure y2
        · rw [decide_eq_false e, if_neg (by decide)]
          refine wpAny_bind (wpAny_rule ?_)
          rw [if_neg (by simp)]
          exact wpAny_pure (n e)
      · rw [if_neg hh]
        exact wpAny_pure (n fun e => hh (by
          show (gHash P w b.1 == gHash P w k) = true
          rw [e]
          simp)))
end
end L2
set_option maxHeartbeats 4000000
namespace L2
open PySem PySem.Spec PySem.W PyProof.Rows
section
variable {α β : Type}
def vG (kvs : List (KD × α × β)) (k : KD) : Option β := (kvs.find? fun e => decide (e.1 = k)).map (·.2.2)
def pG (kvs : List (KD × α × β)) (k : KD) (key : α) (v : β) : List (KD × α × β) := if (vG kvs k).isSome = true then kvs.map (fun e => if e.1 = k then (e.1, e.2.1, v) else e) else kvs ++ [(k, key, v)]
theorem vG_some {kvs : List (KD × α × β)} {k : KD} {i : Nat} {e : KD × α × β} (hn : (kvs.map (·.1)).Nodup) (h : kvs[i]? = some e) (he : e.1 = k) : vG kvs k = some e.2.2 := by
  unfold vG
  induction kvs generalizing i with
  | nil => cases h
  | cons x r ih =>
    rw [List.map_cons, List.nodup_cons] at hn
    rw [List.find?_cons]
    cases i with
    | zero => cases h; rw [decide_eq_true he]; rfl
    | succ i =>
      have h' : r[i]? = some e := by simpa using h
      have hx : ¬ x.1 = k := fun z => hn.1 (by rw [z, ← he]; exact List.mem_map.mpr ⟨e, List.mem_of_getElem? h', rfl⟩)
      rw [decide_eq_false hx]
      exact ih hn.2 h'
theorem vG_none {kvs : List (KD × α × β)} {k : KD} (h : ∀ e ∈ kvs, e.1 ≠ k) : vG kvs k = none := by
  unfold vG
  rw [List.find?_eq_none.mpr fun e he => by rw [decide_eq_true_eq]; exact h e he]
  rfl
theorem vG_no {kvs : List (KD × α × β)} {k : KD} (h : vG kvs k = none) : ∀ e ∈ kvs, e.1 ≠ k := fun e he z => by
  unfold vG at h
  rw [Option.map_eq_none_iff, List.find?_eq_none] at h
  exact h e he (decide_eq_true z)
theorem vG_put (kvs : List (KD × α × β)) (k k' : KD) (key : α) (v : β) : vG (pG kvs k key v) k' = if k' = k then some v else vG kvs k' := by
  unfold pG
  by_cases hs : (vG kvs k).isSome = true
  · rw [if_pos hs]
    obtain ⟨u, hu⟩ := Option.isSome_iff_exists.mp hs
    clear hs
    unfold vG at *
    induction kvs with
    | nil => simp at hu
    | cons x r ih =>
      rw [List.map_cons, List.find?_cons]
      rw [List.find?_cons] at hu ⊢
      by_cases hx : x.1 = k
      · rw [if_pos hx]
        by_cases hk : k' = k
        · subst hk
          rw [if_pos rfl]
          simp [hx]
        · rw [if_neg hk]
          have : ¬ x.1 = k' := fun z => hk (z.symm.trans hx)
          simp only [this, decide_false]
          clear hu ih
          induction r with
          | nil => rfl
          | cons y r ih2 =>
            rw [List.map_cons, List.find?_cons, List.find?_cons]
            by_cases hy : y.1 = k
            · have hy' : ¬ y.1 = k' := fun z => hk (z.symm.trans hy)
              rw [if_pos hy]
              simp only [hy', decide_false]
              exact ih2
            · rw [if_neg hy]
              by_cases hy' : y.1 = k'
              · simp [hy']
              · simp only [hy', decide_false]
                exact ih2
      · rw [if_neg hx]
        simp only [hx, decide_false] at hu
        by_cases hx' : x.1 = k'
        · have : ¬ k' = k := fun z => hx (hx'.trans z)
          rw [if_neg this]
          simp [hx']
        · simp only [hx', decide_false]
          exact ih hu
  · rw [if_neg hs]
    have hno := vG_no (kvs := kvs) (k := k) (by cases e : vG kvs k with
      | none => rfl
      | some u => rw [e] at hs; exact absurd rfl hs)
    unfold vG
    rw [List.find?_append]
    by_cases hk : k' = k
    · subst hk
      rw [if_pos rfl, List.find?_eq_none.mpr fun e he => by rw [decide_eq_true_eq]; exact hno e he]
      simp
    · rw [if_neg hk]
      cases e : List.find? (fun e => decide (e.1 = k')) kvs with
      | some x => rfl
      | none =>
        have : ¬ k = k' := fun z => hk z.symm
        simp [this]
theorem pG_keys (kvs : List (KD × α × β)) (k : KD) (key : α) (v : β) : (pG kvs k key v).map (·.1) = if (vG kvs k).isSome = true then kvs.map (·.1) else kvs.map (·.1) ++ [k] := by
  unfold pG
  split
  · rw [List.map_map]
    refine List.map_congr_left fun e _ => ?_
    show (if e.1 = k then (e.1, e.2.1, v) else e).1 = e.1
    split <;> rfl
  · rw [List.map_append]
    rfl
theorem pG_len (kvs : List (KD × α × β)) (k : KD) (key : α) (v : β) : (pG kvs k key v).length ≤ kvs.length + 1 := by
  unfold pG
  split
  · rw [List.length_map]; omega
  · rw [List.length_append, List.length_singleton]; exact Nat.le_refl _
theorem pG_nodup {kvs : List (KD × α × β)} {k : KD} {key : α} {v : β} (h : (kvs.map (·.1)).Nodup) : ((pG kvs k key v).map (·.1)).Nodup := by
  rw [pG_keys]
  split
  · exact h
  · rename_i hs
    refine nd_add h fun hm => ?_
    obtain ⟨e, he, rfl⟩ := List.mem_map.mp hm
    exact vG_no (kvs := kvs) (k := e.1) (by cases e' : vG kvs e.1 with
      | none => rfl
      | some u => rw [e'] at hs; exact absurd rfl hs) e he rfl
end
section
variable {P : Program} {w : World} {A : Around} {E : Value → Shared → Prop} {s : Shared}
def GDict (P : Program) (w : World) (h : Heap) (d : Addr) (xs : List (KD × Value × Value)) : Prop :=
  ∃ o es ep, h.get? d = some o ∧ o.ExactDict ∧ o.data = .dict es ep ∧ es.toList = xs.map (gEnt P w) ∧ (∀ x ∈ xs, GIs P w h x.1 x.2.1) ∧ (xs.map (·.1)).Nodup
theorem GDict.typeIs {d : Addr} {xs : List (KD × Value × Value)} (g : GDict P w s.heap d xs) : s.TypeIs (.ref d) "dict" := let ⟨o, _, _, ho, hc, _⟩ := g; ⟨o, ho, hc.1⟩
theorem gIdx_get {xs : List (KD × Value × Value)} {k : KD} {j : Nat} (h : gIdx xs k = some j) : ∃ x, xs[j]? = some x ∧ x.1 = k := by
  unfold gIdx at h
  rw [List.findIdx?_eq_some_iff_getElem] at h
  obtain ⟨hj, h1, _⟩ := h
  exact ⟨xs[j], List.getElem?_eq_getElem hj, by simpa using h1⟩
theorem gIdx_no {xs : List (KD × Value × Value)} {k : KD} (h : gIdx xs k = none) : ∀ e ∈ xs, e.1 ≠ k := fun e he => by
  unfold gIdx at h
  rw [List.findIdx?_eq_none_iff] at h
  simpa using h e he
theorem gds_get {d : Addr} {xs : List (KD × Value × Value)} {k : KD} {v : Value} {Q : Option Value → Shared → Prop} (hu : A.units + 1 < cLine) (a : GIs P w s.heap k v) (g : GDict P w s.heap d xs) (h : Q (vG xs k) { s with toks := s.toks + gDraws P w k }) : wpAny (model P w) A (dictGet d v) Q E s := by
  obtain ⟨o, es, ep, ho, _, hd, he, his, hn⟩ := g
  unfold dictGet
  try with_reducible refine wpAny_holding ?_
  refine wpAny_bind (a.hash hu (wpAny_bind (g_find (s := { s with toks := s.toks + gDraws P w k }) hu a ho hd he his hn ?_)))
  cases e : gIdx xs k with
  | none =>
    rw [vG_none (gIdx_no e)] at h
    exact wpAny_pure h
  | some j =>
    obtain ⟨x, hx, ex⟩ := gIdx_get e
    rw [vG_some hn hx ex] at h
    refine wpAny_bind (wpAny_dictEntries (s := { s with toks := s.toks + gDraws P w k }) ho hd ?_)
    rw [← Array.getElem?_toList, he, List.getElem?_map, hx]
    exact wpAny_pure h
theorem modify_at {xs : List (KD × Value × Value)} {k : KD} {v : Value} {j : Nat} {x : KD × Value × Value} (hn : (xs.map (·.1)).Nodup) (hx : xs[j]? = some x) (ex : x.1 = k) :
    (xs.map (gEnt P w)).modify j (fun e => { e with val := v }) = (xs.map fun e => if e.1 = k then (e.1, e.2.1, v) else e).map (gEnt P w) := by
  apply List.ext_getElem?
  intro i
  rw [List.getElem?_modify, List.getElem?_map, List.getElem?_map, List.getElem?_map]
  cases hi : xs[i]? with
  | none => simp
  | some y =>
    by_cases e : j = i
    · subst e
      rw [hx] at hi
      cases hi
      simp [ex, gEnt]
    · have hy : ¬ y.1 = k := fun z => e ((List.getElem?_inj (by rw [List.length_map]; exact (List.getElem?_eq_some_iff.mp hx).1) hn).mp (by rw [List.getElem?_map, List.getElem?_map, hx, hi]; simp [ex, z]))
      simp [e, hy]
theorem gds_keep {h h' : Heap} {d : Addr} {o : Obj} {es : Array DictEntry} {ep : Nat} (ho : h.get? d = some o) (hc : o.ExactDict) (hs : Heap.SameBut d h h') {k : KD} {v : Value} (a : GIs P w h k v) : GIs P w h' k v := a.ext fun b o' hb hcl => (hs.2 b (fun z => by
  rw [z, ho] at hb
  cases hb
  rw [hc.1] at hcl
  exact absurd hcl (by decide))).trans hb
theorem gds_set {d : Addr} {xs : List (KD × Value × Value)} {k : KD} {v val : Value} {Q : Unit → Shared → Prop} (hu : A.units + 1 < cLine) (a : GIs P w s.heap k v) (g : GDict P w s.heap d xs) (hsz : xs.length ≤ sizeLine)
    (hQ : ∀ h', GDict P w h' d (pG xs k v val) → Heap.SameBut d s.heap h' → Q () { s with heap := h', toks := s.toks + gDraws P w k }) : wpAny (model P w) A (dictSet d v val) Q E s := by
  obtain ⟨o, es, ep, ho, hc, hd, he, his, hn⟩ := g
  have sz : es.size = xs.length := by rw [← Array.length_toList, he, List.length_map]
  have keep : ∀ h', Heap.SameBut d s.heap h' → ∀ x ∈ pG xs k v val, GIs P w h' x.1 x.2.1 := fun h' hs x hx => by
    unfold pG at hx
    split at hx
    · obtain ⟨y, hy, rfl⟩ := List.mem_map.mp hx
      have := gds_keep (es := es) (ep := ep) ho hc hs (his y hy)
      split <;> exact this
    · rcases List.mem_append.mp hx with hx | hx
      · exact gds_keep (es := es) (ep := ep) ho hc hs (his x hx)
      · rw [List.mem_singleton.mp hx]
        exact gds_keep (es := es) (ep := ep) ho hc hs a
  unfold dictSet
  try with_reducible refine wpAny_holding ?_
  refine wpAny_bind (a.hash hu ?_)
  unfold dictSetHashed
  try with_reducible refine wpAny_holding ?_
  refine wpAny_bind (g_find (s := { s with toks := s.toks + gDraws P w k }) hu a ho hd he his hn ?_)
  cases e : gIdx xs k with
  | none =>
    have hv := vG_none (gIdx_no e)
    refine wpAny_bind (wpAny_rule (wpAny_updateDictKeys (hz := by omega) (s := { s with toks := s.toks + gDraws P w k }) ho hd (hQ _ ⟨_, _, ep + 1, Heap.get?_update_self _ ho (Obj.isFreed_of_dict (Obj.data_mapDictKeys hd _)), hc.mapDictKeys _, Obj.data_mapDictKeys hd _, ?_, keep _ (Heap.SameBut.update ..), pG_nodup hn⟩ (Heap.SameBut.update ..))))
    unfold pG
    rw [hv, if_neg (by decide)]
    simp [he, gEnt]
  | some j =>
    obtain ⟨x, hx, ex⟩ := gIdx_get e
    have hv := vG_some hn hx ex
    refine wpAny_bind (wpAny_rule (wpAny_bind (wpAny_updateDict (s := { s with toks := s.toks + gDraws P w k }) ho hd (wpAny_point (hQ _ ⟨_, _, ep, Heap.get?_update_self _ ho (Obj.isFreed_of_dict (Obj.data_mapDict hd _)), hc.mapDict _, Obj.data_mapDict hd _, ?_, keep _ (Heap.SameBut.update ..), pG_nodup hn⟩ (Heap.SameBut.update ..))))))
    unfold pG
    rw [hv, if_pos (show (some x.2.2).isSome = true from rfl)]
    have := modify_at (P := P) (w := w) (v := val) hn hx ex
    rw [← he] at this
    obtain ⟨l⟩ := es
    simpa using this
end
end L2
set_option maxHeartbeats 4000000
namespace L2
open PySem PySem.Spec PySem.W PyProof.Rows
abbrev GP (H : Hp) : KD × V × V → KD × Value × Value → Prop := fun p q => p.1 = q.1 ∧ GK H p.1 p.2.1 ∧ RelV p.2.1 q.2.1 ∧ RelV p.2.2 q.2.2
section
variable {X : Cx} {pins : List (Addr × Obj)} {σ : St} {H : Hp} {s : Shared} {a : Addr} {y v : V} {u r : Value} {k : KD} {kvs : List (KD × V × V)} {A : Around} {E : Value → Shared → Prop}
theorem GK.is (I : Inv X pins σ H s) (g : GK H k y) (ry : RelV y u) : GIs X.prog X.w s.heap k u := by
  cases k with
  | non => cases g; exact ry
  | int i => cases g; exact ry
  | tup ks =>
    obtain ⟨b, rfl, hb⟩ := g
    exact ⟨b, ry, key_of I.hok hb⟩
  | two ks ls =>
    obtain ⟨b, c, d, rfl, hb, hc, hd⟩ := g
    obtain ⟨its, rv, ⟨o, e1, e2, n, e3⟩, _⟩ := I.tuple (SqT.of hb)
    obtain ⟨u1, u2, rfl, r1, r2⟩ := rv.two
    cases r1
    cases r2
    exact ⟨b, ry, o, c, d, n, e1, e2, e3, key_of I.hok hc, key_of I.hok hd⟩
theorem gp_mem {F : KD × V × V → KD × Value × Value → Prop} : ∀ {l : List (KD × V × V)} {m : List (KD × Value × Value)}, Paired F l m → ∀ x ∈ m, ∃ p ∈ l, F p x
  | _, _, .nil, x, h => nomatch h
  | _, _, .cons f t, x, h => by
    rcases List.mem_cons.mp h with rfl | h
    · exact ⟨_, List.mem_cons_self, f⟩
    · obtain ⟨p, hp, q⟩ := gp_mem t x h
      exact ⟨p, List.mem_cons_of_mem _ hp, q⟩
theorem gp_val : ∀ {l : List (KD × V × V)} {m : List (KD × Value × Value)}, Paired (GP H) l m → RelO (vG l k) (vG m k)
  | _, _, .nil => trivial
  | _, _, .cons (a := p) (b := q) f t => by
    have ih := gp_val t
    unfold vG at ih ⊢
    rw [List.find?_cons, List.find?_cons, ← f.1]
    by_cases e : p.1 = k
    · rw [decide_eq_true e]; exact f.2.2.2
    · rw [decide_eq_false e]; exact ih
theorem gp_map (rv : RelV v r) : ∀ {l : List (KD × V × V)} {m : List (KD × Value × Value)}, Paired (GP H) l m → Paired (GP H) (l.map fun e => if e.1 = k then (e.1, e.2.1, v) else e) (m.map fun e => if e.1 = k then (e.1, e.2.1, r) else e)
  | _, _, .nil => .nil
  | _, _, .cons (a := p) (b := q) f t => by
    refine .cons ?_ (gp_map rv t)
    show GP H (if p.1 = k then (p.1, p.2.1, v) else p) (if q.1 = k then (q.1, q.2.1, r) else q)
    rw [← f.1]
    split
    · exact ⟨rfl, f.2.1, f.2.2.1, rv⟩
    · exact f
theorem gp_put {l : List (KD × V × V)} {m : List (KD × Value × Value)} (t : Paired (GP H) l m) (g : GK H k y) (ry : RelV y u) (rv : RelV v r) : Paired (GP H) (pG l k y v) (pG m k u r) := by
  have e : (vG l k).isSome = (vG m k).isSome := (gp_val t).isSome_eq
  unfold pG
  rw [e]
  split
  · exact gp_map rv t
  · exact Paired.snoc t ⟨rfl, g, ry, rv⟩
theorem gp_len : ∀ {l : List (KD × V × V)} {m : List (KD × Value × Value)}, Paired (GP H) l m → l.length = m.length
  | _, _, .nil => rfl
  | _, _, .cons _ t => by rw [List.length_cons, List.length_cons, gp_len t]
theorem gd_rd (I : Inv X pins σ H s) (e : Rd H a (.dG kvs)) : kvs.length ≤ sizeLine ∧ (a == sysModules) = false ∧ ∃ xs, Paired (GP H) kvs xs ∧ GDict X.prog X.w s.heap a xs := by
  obtain ⟨z, y, xs, r, o, es, ep, h1, h2, h3, h4, h5⟩ := (show ObjOk X.prog X.w H s.heap a (.dG kvs) from e.ok I.hok)
  refine ⟨z, y, xs, r, o, es, ep, h1, h2, h3, h4, fun x hx => ?_, h5⟩
  obtain ⟨p, hp, f⟩ := gp_mem r x hx
  rw [← f.1]
  exact f.2.1.is I f.2.2.1
theorem gd_getItem {Q : Value → Shared → Prop} (hu : A.units + 2 < cLine) (I : Inv X pins σ H s) (e : Rd H a (.dG kvs)) (g : GK H k y) (l : vG kvs k = some v) (ry : RelV y u) (h : ∀ w' s', Inv X pins σ H s' → RelV v w' → Q w' s') :
    wpAny (model X.prog X.w) A (getItem (.ref a) u) Q E s := by
  obtain ⟨z, hd, xs, rel, dd⟩ := gd_rd I e
  obtain ⟨w', hw, rw'⟩ := RelO.some_of (v := v) (o := vG xs k) (by rw [← l]; exact gp_val rel)
  unfold getItem
  try with_reducible refine wpAny_holding ?_
  refine wpAny_bind (wpAny_sequenceKey dd.typeIs (by decide) (wpAny_bind (wpAny_callSpecial?_slot (name := Str.ofString "__getitem__") dd.typeIs F.slot_dict_getitem (wpAny_call_entry F.slot_dict_getitem dd.typeIs F.entry_dict_getitem ?_ (F.args_dict_getitem_2 _ _)))))
  show wpAny (model X.prog X.w) _ (dictGet a u >>= _) _ _ s
  refine wpAny_bind (gds_get (show A.in1.units + 1 < cLine from (by show A.units + 1 + 1 < cLine; omega)) (g.is I ry) dd ?_)
  rw [hw]
  exact wpAny_pure ⟨w', rfl, wpAny_pure (h w' _ (I.tok _) rw')⟩
end
def tDGetG (td ty : TE) : TE := fun σ H Q => td σ H fun x H1 => ty σ H1 fun y H2 => ∃ a kvs k v, x = .ref a ∧ Rd H2 a (.dG kvs) ∧ GK H2 k y ∧ vG kvs k = some v ∧ Q v H2
section
variable {X : Cx} {o i e value : Expr} {pos pos' tpos : Pos} {td ty tv : TE}
theorem pe_dgetG (hu : X.A.units + 2 < cLine) (ho : PE X o td) (hi : PE X i ty) (hs : NoSl i) : PE X (.Subscript o i pos) (tDGetG td ty) := by
  intro pins s σ H Q I h
  refine subD_of PySem.F.slot_dict_getitem.lookup hs (thn (ho pins s σ H _ I h) fun u s1 ⟨x, H1, I1, rx, q1⟩ => thn (hi pins s1 σ H1 _ I1 q1) fun iv s2 ⟨y, H2, I2, ry, a, kvs, k, v, ex, rd, g, l, q2⟩ => ?_)
  subst ex
  obtain rfl : u = Value.ref a := rx
  obtain ⟨_, _, xs, _, dd⟩ := gd_rd I2 rd
  exact ⟨dd.typeIs, gd_getItem hu I2 rd g l ry fun w' s3 I3 rw' => ⟨v, H2, I3, rw', q2⟩⟩
def tDctG : TE := fun _ H Q => ∀ p H', H p = none → Same H H' → H' p = some (.dG []) → Q (.ref p) H'
theorem dg_empty {P : Program} {w : World} {H : Hp} (h : Heap) (hb : sysModules < h.objs.size) : ObjOk P w H (h.push { cls := .type "dict", data := .dict #[] }) h.objs.size (.dG []) :=
  ⟨Nat.zero_le _, beq_eq_false_iff_ne.mpr (Ne.symm (Nat.ne_of_lt hb)), [], .nil, _, #[], 0, Heap.get?_push_size _ rfl, ⟨rfl, rfl, rfl⟩, rfl, rfl, List.nodup_nil⟩
theorem pe_dctG : PE X (.Dict [] [] pos) tDctG := fun pins s σ H Q I h =>
  wpAny_Dict_empty ⟨.ref s.heap.objs.size, _, I.laid (a := s.heap.objs.size) (o := .dG []) (t' := s.toks) (fun _ _ q => Heap.get?_push_of_some _ q) (Nat.le_refl _) (dg_empty s.heap I.big), rfl, h _ _ (I.hok.fresh (Nat.le_refl _)) (Same.new (I.hok.fresh (Nat.le_refl _))) upd_same⟩
end
end L2
set_option maxHeartbeats 4000000
namespace L2
open PySem PySem.Spec PySem.W PyProof.Rows
theorem lk_list_keys : typeLookup (.type "list") "keys" = pure none := by rw [typeLookup_type, builtinLookup_eq_fast]; kernel_rfl
section
variable {prog : Program} {w : World} {A : Around} {E : Value → Shared → Prop}
theorem no_keys {s : Shared} {a : Addr} {xs : Array Value} {k : Nat} {sl : Array (Option Value)} {Q : Option Value → Shared → Prop} (hx : s.heap.get? a = some { cls := .type "list", dict := none, data := .seq xs k, slots := sl }) (hA : A.handled = none)
    (h : ∀ h' tk, Ext s.heap h' → Q none { s with heap := h', toks := tk }) : wpAny (model prog w) A (getAttr? (.ref a) "keys") Q E s := by
  obtain ⟨hp, g, d, tk, os⟩ := s
  have hT : ∀ tk', (⟨hp, g, d, tk', os⟩ : Shared).TypeIs (.ref a) "list" := fun _ => ⟨_, hx, rfl⟩
  have f1 := sub_AttributeError
  have f3 := F.slot_list_getattribute.lookup
  have f4 := F.slot_list_getattribute.bind (.ref a)
  have f5 := am_list_getattr_none
  have z : (Str.ofString "keys").length + 100 ≤ sizeLine := by
    have := small1000 (n := 1000) (Nat.le_refl _)
    have e : (Str.ofString "keys").length = 4 := rfl
    omega
  unfold getAttr? getAttrBy? getAttrBy
  repeat (any_goals (first | assumption | exact hT _ | ((with_reducible show wpAny _ _ (call (Value.builtin "list.__getattribute__") _ _) _ _ _); refine call_meets F.slot_list_getattribute (hT _) am_entry_list_getattribute (F.args_list_getattribute_2 _ _) (meets_getattribute_miss_list a xs k sl "keys" _ lk_list_keys (by decide +kernel) z) ⟨hx, hA, fun h' tk' e hx' => ?_⟩) | wp_step))
  obtain ⟨t', u', he⟩ := hx'.there
  show wpAny (model prog w) A (getattributeRaised _ _ _ _ _ _ _) _ _ _
  unfold getattributeRaised
  repeat (any_goals (first | assumption | wp_step))
  exact h _ _ hx'.keeps
end
theorem entry_dul : entryFor table "dict.update.loop" = some Builtin.«dict.update.loop» := entryFor_of_tree (by kernel_rfl)
theorem plain_dul : plainId "dict.update.loop" = true := by decide +kernel
def Tst (h h' : Heap) : Prop := ∀ b o, h.get? b = some o → o.cls = .type "tuple" → h'.get? b = some o
section
variable {P : Program} {w : World} {A : Around}
theorem seqItems_at {M : Model} {E : Value → Shared → Prop} {s : Shared} {b : Addr} {o : Obj} {xs : Array Value} {n : Nat} {Q : Option (Array Value) → Shared → Prop} (ho : s.heap.get? b = some o) (hd : o.data = .seq xs n) (q : Q (some xs) s) : wpAny M A (seqItems? (.ref b)) Q E s := by
  unfold seqItems?
  refine wpAny_bind (wpAny_load ho ?_)
  rw [hd]
  exact wpAny_pure q
def putAll {α β : Type} (xs : List (KD × α × β)) : List (KD × α × β) → List (KD × α × β)
  | [] => xs
  | e :: r => putAll (pG xs e.1 e.2.1 e.2.2) r
theorem putAll_len {α β : Type} (ps : List (KD × α × β)) : ∀ xs, (putAll xs ps).length ≤ xs.length + ps.length := by
  induction ps with
  | nil => intro xs; exact Nat.le_refl _
  | cons e r ih =>
    intro xs
    have h1 := ih (pG xs e.1 e.2.1 e.2.2)
    have h2 := pG_len xs e.1 e.2.1 e.2.2
    show (putAll (pG xs e.1 e.2.1 e.2.2) r).length ≤ _
    rw [List.length_cons]
    omega
def PairAt (P : Program) (w : World) (h : Heap) (v : Value) (e : KD × Value × Value) : Prop := ∃ b, v = .ref b ∧ h.IsTuple b #[e.2.1, e.2.2] ∧ GIs P w h e.1 e.2.1
theorem PairAt.stay {h h' : Heap} {v : Value} {e : KD × Value × Value} (p : PairAt P w h v e) (t : Tst h h') : PairAt P w h' v e := by
  obtain ⟨b, rfl, ⟨o, h1, h2, h3⟩, g⟩ := p
  exact ⟨b, rfl, ⟨o, t _ _ h1 h2, h2, h3⟩, g.ext t⟩
theorem GDict.keep {h h' : Heap} {d : Addr} {xs : List (KD × Value × Value)} (g : GDict P w h d xs) (k : ∀ o, h.get? d = some o → h'.get? d = some o) (t : Tst h h') : GDict P w h' d xs := by
  obtain ⟨o, es, ep, h1, h2, h3, h4, h5, h6⟩ := g
  exact ⟨o, es, ep, k o h1, h2, h3, h4, fun x hx => (h5 x hx).ext t, h6⟩
theorem iter_tst {h h' : Heap} {I l : Addr} {i : Nat} (hit : h.IsListIter I l i) (k : ∀ b o, b ≠ I → h.get? b = some o → h'.get? b = some o) : Tst h h' := fun b o e c => k b o (fun z => by
  obtain ⟨o', e', c', _⟩ := hit
  rw [z, e'] at e
  cases e
  rw [c'] at c
  exact absurd c (by decide)) e
theorem dul_loop {D I l : Addr} {items : Array Value} {R : Result → Shared → Prop} (hh : A.handled = none) (hu : A.units + 2 < cLine) (hIl : l ≠ I) (hDI : D ≠ I) (hDl : D ≠ l) :
    ∀ (ps : List (KD × Value × Value)) (i : Nat) (xs : List (KD × Value × Value)) (s : Shared) (j : Int) (u : Tok), i + ps.length = items.size → s.heap.IsListIter I l i → s.heap.IsList l items → GDict P w s.heap D xs → xs.length + ps.length ≤ sizeLine →
      (∀ (m : Nat) e, ps[m]? = some e → ∃ v, items[i + m]? = some v ∧ PairAt P w s.heap v e) →
      (∀ s' : Shared, (∀ b o, b ≠ I → b ≠ D → s.heap.get? b = some o → s'.heap.get? b = some o) → GDict P w s'.heap D (putAll xs ps) → (∃ tk, s' = { s with heap := s'.heap, toks := tk }) → R (.ok (.ret .none)) s') →
      codeAny (model P w) A (.builtin "dict.update.loop" ⟨[.ref D, .ref I, .int j u, .none], []⟩) R s := by
  have W := Walks.list (prog := P) (w := w) (A := A.in1) (by simpa using hh) I l hIl items
  intro ps
  induction ps with
  | nil =>
    intro i xs s j u hi hit hl hd hz hp hR
    have hi' : i = items.size := by simpa using hi
    subst hi'
    refine codeAny_builtin entry_dul ?_
    rw [Around.under_plainId plain_dul _]
    show wpAny (model P w) A.in1 (pyNext (.ref I) >>= _) _ _ s
    refine wpAny_bind (W.done s _ _ ⟨hit, hl⟩ fun h' tk hk => ?_)
    have kI : ∀ b o, b ≠ I → s.heap.get? b = some o → h'.get? b = some o := fun b o hb e => hk b o (by simpa using hb) e
    exact wpAny_bind (wpAny_pure (wpAny_pure (hR ⟨h', s.gens, s.drawn, tk, s.os⟩ (fun b o h1 _ e => kI b o h1 e) (hd.keep (fun o e => kI D o hDI e) (iter_tst hit kI)) ⟨tk, rfl⟩)))
  | cons e ps ih =>
    intro i xs s j u hi hit hl hd hz hp hR
    refine codeAny_builtin entry_dul ?_
    rw [Around.under_plainId plain_dul _]
    show wpAny (model P w) A.in1 (pyNext (.ref I) >>= _) _ _ s
    refine wpAny_bind (W.item i s _ _ (by rw [List.length_cons] at hi; omega) ⟨hit, hl⟩ fun v h' tk hv st hk => ?_)
    have kI : ∀ b o, b ≠ I → s.heap.get? b = some o → h'.get? b = some o := fun b o hb e => hk b o (by simpa using hb) e
    have ts := iter_tst hit kI
    obtain ⟨v', hv', pv⟩ := hp 0 e rfl
    have ev : v' = v := by
      rw [Nat.add_zero] at hv'
      rw [hv] at hv'
      exact (Option.some.inj hv').symm
    subst ev
    have hd' := hd.keep (h' := h') (fun o e => kI D o hDI e) ts
    have pv' := pv.stay ts
    obtain ⟨b, rfl, hb, ge⟩ := id pv'
    have hT : Shared.TypeIs ⟨h', s.gens, s.drawn, tk, s.os⟩ (.ref b) "tuple" := by
      obtain ⟨o, h1, h2, _⟩ := hb
      exact ⟨o, h1, h2⟩
    obtain ⟨ob, hb1, hb2, nb, hb3⟩ := id hb
    have pr : ∀ {Q : List Value → Shared → Prop} {E : Value → Shared → Prop}, Q [e.2.1, e.2.2] ⟨h', s.gens, s.drawn, tk, s.os⟩ → wpAny (model P w) A.in1 (Builtin.Dict.pairItems (.ref b)) Q E ⟨h', s.gens, s.drawn, tk, s.os⟩ := fun {Q E} q => by
      unfold Builtin.Dict.pairItems
      refine wpAny_bind (wpAny_typeOf hT ?_)
      rw [if_pos (by decide)]
      exact wpAny_bind (seqItems_at hb1 hb3 (wpAny_pure q))
    refine wpAny_bind (wpAny_holding (wpAny_bind (wpAny_tryCatch (pr ?_))))
    refine wpAny_holding (gds_set (show A.in1.units + 1 < cLine from (by show A.units + 1 + 1 < cLine; omega)) ge hd' (by rw [List.length_cons] at hz; omega) fun h2 hd2 hs2 => ?_)
    have tD : Tst h' h2 := fun b o e1 c => (hs2.2 b (fun z => by
      obtain ⟨o', _, _, e2, e3, _⟩ := hd'
      rw [z, e2] at e1
      cases e1
      rw [e3.1] at c
      exact absurd c (by decide))).trans e1
    refine wpAny_pure ⟨plainId_quiet plain_dul _, ih (i + 1) _ _ _ _ (by rw [List.length_cons] at hi; omega) ?_ ?_ hd2 ?_ (fun m e2 he2 => ?_) fun s' hk' hd3 hs3 => ?_⟩
    · obtain ⟨o, h1, h2', h3⟩ := st.1
      exact ⟨o, (hs2.2 I (fun z => hDI z.symm)).trans h1, h2', h3⟩
    · obtain ⟨o, h1, h2', n, h3⟩ := st.2
      exact ⟨o, (hs2.2 l (fun z => hDl z.symm)).trans h1, h2', n, h3⟩
    · have := pG_len xs e.1 e.2.1 e.2.2
      rw [List.length_cons] at hz
      omega
    · obtain ⟨v2, hv2, pv2⟩ := hp (m + 1) e2 (by simpa using he2)
      exact ⟨v2, by rw [← hv2]; congr 1; omega, (pv2.stay ts).stay tD⟩
    · refine hR s' (fun b o h1 h2' e3 => hk' b o h1 h2' ((hs2.2 b h2').trans (kI b o h1 e3))) hd3 ?_
      obtain ⟨tk', e3⟩ := hs3
      exact ⟨tk', by rw [e3]⟩
theorem dict_pairs {s : Shared} {l : Addr} {items : Array Value} {n : Nat} {sl : Array (Option Value)} {E : Value → Shared → Prop} {Q : Value → Shared → Prop} {ps : List (KD × Value × Value)} (hh : A.handled = none) (hu : A.units + 4 < cLine) (hl : s.heap.get? l = some { cls := .type "list", dict := none, data := .seq items n, slots := sl })
    (hn : ps.length = items.size) (hz : ps.length ≤ sizeLine) (hp : ∀ (m : Nat) e, ps[m]? = some e → ∃ v, items[m]? = some v ∧ PairAt P w s.heap v e)
    (h : ∀ h' tk d, Ext s.heap h' → s.heap.objs.size ≤ d → GDict P w h' d (putAll [] ps) → Q (.ref d) { s with heap := h', toks := tk }) : wpAny (model P w) A (call (.type "dict") [.ref l]) Q E s := by
  refine callType_codes (Q₁ := fun obj s₁ => obj = .ref s.heap.objs.size ∧ s₁ = { s with heap := s.heap.push { cls := .type "dict", data := .dict #[] } }) F.kt_called_dict (F.kt_typeCall_dict_1 _) F.entry_dict_init (kt_code_dict_new _ ⟨rfl, rfl⟩) ?_
  rintro obj s₁ ⟨rfl, rfl⟩
  have new : GDict P w (s.heap.push { cls := .type "dict", data := .dict #[] }) s.heap.objs.size [] := ⟨_, #[], 0, Heap.get?_push_size _ rfl, ⟨rfl, rfl, rfl⟩, rfl, rfl, fun x hx => (nomatch hx), List.nodup_nil⟩
  have hl1 : (s.heap.push { cls := .type "dict", data := .dict #[] }).get? l = some { cls := .type "list", dict := none, data := .seq items n, slots := sl } := Heap.get?_push_of_some _ hl
  have hT : Shared.TypeIs { s with heap := s.heap.push { cls := .type "dict", data := .dict #[] } } (.ref s.heap.objs.size) "dict" := GDict.typeIs (P := P) (w := w) (s := { s with heap := s.heap.push { cls := .type "dict", data := .dict #[] } }) new
  refine ⟨hT, F.args_dict_init_2 _ _, ?_⟩
  unfold Builtin.«dict.__init__»
  refine wpAny_bind ?_
  unfold Builtin.Dict.selfAndRest
  refine wpAny_bind (wpAny_notOrdered_dict hT (wpAny_pure ?_))
  show wpAny (model P w) _ (Builtin.Dict.updateFrom "dict.__init__" s.heap.objs.size (.ref l) [] .none) _ _ _
  unfold Builtin.Dict.updateFrom
  refine wpAny_bind (wpAny_typeOf (show Shared.TypeIs { s with heap := s.heap.push { cls := .type "dict", data := .dict #[] } } (.ref l) "list" from ⟨_, hl1, rfl⟩) ?_)
  rw [if_pos (by decide)]
  refine wpAny_bind (no_keys hl1 (by simpa using hh) fun h1 t1 x1 => ?_)
  rw [if_pos (by rfl)]
  have hl2 : h1.IsList l items := ⟨_, x1 _ _ hl1, rfl, n, rfl⟩
  refine wpAny_bind (wpAny_rule (wpAny_bind (wpAny_pyIter_list hl2 ?_)))
  have lD : s.heap.objs.size < h1.objs.size := by
    obtain ⟨o, _, _, e, _⟩ := new
    exact Heap.lt_size (x1 _ _ e)
  have lI : l < h1.objs.size := Heap.lt_size (x1 _ _ hl1)
  have lS : l < s.heap.objs.size := Heap.lt_size hl
  have nS : ∀ b o, s.heap.get? b = some o → b ≠ h1.objs.size ∧ b ≠ s.heap.objs.size := fun b o e => by
    have := Heap.lt_size e
    exact ⟨Nat.ne_of_lt (Nat.lt_trans this lD), Nat.ne_of_lt this⟩
  have t1' : Tst (s.heap.push { cls := .type "dict", data := .dict #[] }) (h1.push { cls := .type "list_iterator", data := .fields #[.ref l, .int 0 0] }) := fun b o e _ => Heap.get?_push_of_some _ (x1 _ _ e)
  refine wpAny_pure ⟨plainId_quiet plain_dul _, dul_loop (A := A.in1) (l := l) (items := items) (by simpa using hh) (show A.units + 1 + 2 < cLine by omega) (Nat.ne_of_lt lI) (Nat.ne_of_lt lD) (Nat.ne_of_gt lS) ps 0 [] _ _ _ (by rw [Nat.zero_add]; exact hn) ⟨_, Heap.get?_push_size _ rfl, rfl, rfl⟩ (hl2.push _) (new.keep (fun o e => Heap.get?_push_of_some _ (x1 _ _ e)) t1') (by simpa using hz) (fun m e he => ?_) fun s' hk hd hs => ?_⟩
  · obtain ⟨v, hv, pv⟩ := hp m e he
    exact ⟨v, by rw [Nat.zero_add]; exact hv, (pv.stay (fun b o e _ => Heap.get?_push_of_some _ e)).stay t1'⟩
  · obtain ⟨tk, es⟩ := hs
    rw [es] at hd ⊢
    exact ⟨rfl, h _ tk _ (fun b o e => hk b o (nS b o e).1 (nS b o e).2 (Heap.get?_push_of_some _ (x1 _ _ (Heap.get?_push_of_some _ e)))) (Nat.le_refl _) hd⟩
end
def PrsV (H : Hp) : List V → List (KD × V × V) → Prop
  | [], [] => True
  | y :: ys, e :: es => (∃ b, y = .ref b ∧ H b = some (.tup [e.2.1, e.2.2]) ∧ GK H e.1 e.2.1) ∧ PrsV H ys es
  | _, _ => False
section
variable {X : Cx} {pins : List (Addr × Obj)} {σ : St} {H : Hp} {s : Shared}
theorem prs_of (I : Inv X pins σ H s) : ∀ {ys : List V} {us : List Value} {kvs : List (KD × V × V)}, Vals ys us → PrsV H ys kvs → ∃ ps, Paired (GP H) kvs ps ∧ ps.length = us.length ∧ ∀ (m : Nat) e, ps[m]? = some e → ∃ v, us[m]? = some v ∧ PairAt X.prog X.w s.heap v e
  | [], _, [], .nil, _ => ⟨[], .nil, rfl, fun m e z => by cases z⟩
  | [], _, _ :: _, .nil, h => h.elim
  | _ :: _, _, [], .cons _ _, h => h.elim
  | y :: ys, _, e :: es, .cons r t, h => by
    obtain ⟨⟨b, rfl, hb, g⟩, h2⟩ := h
    obtain ⟨ps, p1, p2, p3⟩ := prs_of I t h2
    cases r
    obtain ⟨its, rv, ⟨o, e1, e2, n, e3⟩, _⟩ := I.tuple (SqT.of hb)
    obtain ⟨u1, u2, rfl, r1, r2⟩ := rv.two
    refine ⟨(e.1, u1, u2) :: ps, .cons ⟨rfl, g, r1, r2⟩ p1, by rw [List.length_cons, List.length_cons, p2], fun m e' he' => ?_⟩
    cases m with
    | zero =>
      cases he'
      exact ⟨_, rfl, b, rfl, ⟨o, e1, e2, n, e3⟩, g.is I r1⟩
    | succ m =>
      obtain ⟨v, h1, h2⟩ := p3 m e' (by simpa using he')
      exact ⟨v, by simpa using h1, h2⟩
theorem gp_putAll : ∀ {l : List (KD × V × V)} {m : List (KD × Value × Value)}, Paired (GP H) l m → ∀ {a : List (KD × V × V)} {b : List (KD × Value × Value)}, Paired (GP H) a b → Paired (GP H) (putAll a l) (putAll b m)
  | _, _, .nil, _, _, t => t
  | _, _, .cons (a := p) (b := q) f t, a, b, t2 => by
    show Paired (GP H) (putAll (pG a p.1 p.2.1 p.2.2) _) (putAll (pG b q.1 q.2.1 q.2.2) _)
    rw [← f.1]
    exact gp_putAll t (gp_put t2 f.2.1 f.2.2.1 f.2.2.2)
def rDictG (K : PySem.W.Frag) : List V → Hp → VK → Prop := fun xs H Q => ∃ p ys kvs, xs = [.ref p] ∧ SqL K H p ys ∧ PrsV H ys kvs ∧ ys.length ≤ 2000 ∧ ∀ q H', H q = none → Same H H' → H' q = some (.dG (putAll [] kvs)) → Q (.ref q) H'
theorem call_dictG (hh : X.A.handled = none) (hu : X.A.units + 4 < cLine) : CallR X (.type "dict") (rDictG X.K) := by
  intro pins s σ H xs us Q I r h
  obtain ⟨p, ys, kvs, rfl, hq, hp, hz, q⟩ := h
  obtain ⟨u, rfl, ru⟩ := vals1 r
  cases ru
  obtain ⟨its, rv, ⟨o, n, e, c1, c2, c3⟩, _⟩ := I.list hq
  obtain ⟨cls, dict, data, sl⟩ := o
  dsimp only at c1 c2 c3
  subst c1 c2 c3
  obtain ⟨ps, p1, p2, p3⟩ := prs_of I rv hp
  have hl := rv.length
  have zz : 2000 ≤ sizeLine := by decide
  refine dict_pairs hh hu e (by rw [List.size_toArray]; exact p2) (by omega) (fun m e' he' => ?_) fun h' tk d x hd g => ?_
  · obtain ⟨v, h1, h2⟩ := p3 m e' he'
    exact ⟨v, by simpa using h1, h2⟩
  · obtain ⟨o', es, ep, g1, g2, g3, g4, _, g6⟩ := g
    have fr : H d = none := I.hok.fresh hd
    have ln := putAll_len kvs []
    have lk := gp_len p1
    refine ⟨.ref d, upd H d (.dG (putAll [] kvs)), I.laid x hd ⟨?_, ?_, _, Paired.mapP (gp_putAll p1 .nil) fun a b z => ⟨z.1, z.2.1.stay fun b xs hb => ?_, z.2.2⟩, o', es, ep, g1, g2, g3, g4, g6⟩, rfl, q d _ fr (Same.new fr) upd_same⟩
    · rw [List.length_nil] at ln
      omega
    · exact beq_eq_false_iff_ne.mpr (Ne.symm (Nat.ne_of_lt (Nat.lt_of_lt_of_le I.big hd)))
    · rw [upd_ne (ne_of_none hb fr)]
      exact hb
end
end L2
set_option maxHeartbeats 4000000
namespace L2
open PySem PySem.Spec PySem.W PyProof.Rows
section
variable {P : Program} {w : World} {A : Around} {E : Value → Shared → Prop} {s : Shared}
theorem gm_get2 {d : Addr} {v dflt : Value} (hd : (d == sysModules) = false) : MeetsIn P w (Builtin.«dict.get» ⟨[.ref d, v, dflt], []⟩) (fun A R s => A.in1.units + 1 < cLine ∧ ∃ k xs, GIs P w s.heap k v ∧ GDict P w s.heap d xs ∧ R (.ok (.ret ((vG xs k).getD dflt))) { s with toks := s.toks + gDraws P w k }) :=
  .of_wp fun A R s ⟨hu, k, xs, a, g, h⟩ => by
    show wpAny (model P w) _ (dictGet d v >>= _) _ _ s
    refine wpAny_bind (gds_get hu a g ?_)
    cases e : vG xs k with
    | some u => rw [e] at h; exact wpAny_pure ⟨u, rfl, h⟩
    | none =>
      rw [e] at h
      show wpAny (model P w) _ (Builtin.Dict.missed d v >>= _) _ _ _
      exact wpAny_bind (wpAny_missed_other hd (wpAny_pure ⟨dflt, rfl, h⟩))
theorem gds_setdef {d : Addr} {xs : List (KD × Value × Value)} {k : KD} {v val : Value} {Q : Value → Shared → Prop} (hu : A.units + 1 < cLine) (a : GIs P w s.heap k v) (g : GDict P w s.heap d xs) (hsz : xs.length ≤ sizeLine)
    (h1 : ∀ u, vG xs k = some u → Q u { s with toks := s.toks + gDraws P w k })
    (h2 : vG xs k = none → ∀ h', GDict P w h' d (pG xs k v val) → Heap.SameBut d s.heap h' → Q val { s with heap := h', toks := s.toks + gDraws P w k }) : wpAny (model P w) A (dictSetDefault d v val) Q E s := by
  obtain ⟨o, es, ep, ho, hc, hd, he, his, hn⟩ := g
  have sz : es.size = xs.length := by rw [← Array.length_toList, he, List.length_map]
  unfold dictSetDefault
  try with_reducible refine wpAny_holding ?_
  refine wpAny_bind (a.hash hu (wpAny_bind (g_find (s := { s with toks := s.toks + gDraws P w k }) hu a ho hd he his hn ?_)))
  cases e : gIdx xs k with
  | none =>
    have hv := vG_none (gIdx_no e)
    refine wpAny_bind (wpAny_rule (wpAny_bind (wpAny_updateDictKeys (hz := by omega) (s := { s with toks := s.toks + gDraws P w k }) ho hd (wpAny_pure (h2 hv _ ⟨_, _, ep + 1, Heap.get?_update_self _ ho (Obj.isFreed_of_dict (Obj.data_mapDictKeys hd _)), hc.mapDictKeys _, Obj.data_mapDictKeys hd _, ?_, fun x hx => ?_, pG_nodup hn⟩ (Heap.SameBut.update ..))))))
    · unfold pG
      rw [hv, if_neg (by decide)]
      simp [he, gEnt]
    · unfold pG at hx
      rw [hv, if_neg (by decide)] at hx
      rcases List.mem_append.mp hx with hx | hx
      · exact gds_keep (es := es) (ep := ep) ho hc (Heap.SameBut.update ..) (his x hx)
      · rw [List.mem_singleton.mp hx]
        exact gds_keep (es := es) (ep := ep) ho hc (Heap.SameBut.update ..) a
  | some j =>
    obtain ⟨x, hx, ex⟩ := gIdx_get e
    have hv := vG_some hn hx ex
    refine wpAny_bind (wpAny_dictEntries (s := { s with toks := s.toks + gDraws P w k }) ho hd ?_)
    rw [← Array.getElem?_toList, he, List.getElem?_map, hx]
    exact wpAny_bind (wpAny_rule (wpAny_pure (h1 _ hv)))
theorem gm_setdef {d : Addr} {v dflt : Value} (hd : (d == sysModules) = false) : MeetsIn P w (Builtin.«dict.setdefault» ⟨[.ref d, v, dflt], []⟩) (fun A R s => A.in1.units + 1 < cLine ∧ ∃ k xs, GIs P w s.heap k v ∧ GDict P w s.heap d xs ∧ xs.length ≤ sizeLine ∧
      (∀ u, vG xs k = some u → R (.ok (.ret u)) { s with toks := s.toks + gDraws P w k }) ∧ (vG xs k = none → ∀ h', GDict P w h' d (pG xs k v dflt) → Heap.SameBut d s.heap h' → R (.ok (.ret dflt)) { s with heap := h', toks := s.toks + gDraws P w k })) :=
  .of_wp fun A R s ⟨hu, k, xs, a, g, hz, h1, h2⟩ => by
    unfold Builtin.«dict.setdefault»
    refine wpAny_bind ?_
    unfold Builtin.Dict.keyAndDefault
    refine wpAny_bind (wpAny_notOrdered_dict g.typeIs (wpAny_pure ?_))
    show wpAny (model P w) _ (if (d == sysModules) = true then _ else (dictSetDefault d v dflt >>= _)) _ _ s
    rw [if_neg (by rw [hd]; decide)]
    exact wpAny_bind (gds_setdef hu a g hz (fun u hv => wpAny_pure ⟨u, rfl, h1 u hv⟩) fun hv h' g' hs' => wpAny_pure ⟨dflt, rfl, h2 hv h' g' hs'⟩)
end
theorem getD_rel {a : Option V} {b : Option Value} {x : V} {u : Value} (h : RelO a b) (r : RelV x u) : RelV (a.getD x) (b.getD u) := by
  cases a <;> cases b <;> first | exact h | exact r | exact h.elim
section
variable {X : Cx}
def rGet2 : V → List V → Hp → VK → Prop := fun x vs H Q => ∃ a kvs k y d, x = .ref a ∧ vs = [y, d] ∧ H a = some (.dG kvs) ∧ GK H k y ∧ Q ((vG kvs k).getD d) H
def rSetDef : V → List V → Hp → VK → Prop := fun x vs H Q => ∃ a kvs k y d, x = .ref a ∧ vs = [y, d] ∧ H a = some (.dG kvs) ∧ GK H k y ∧ kvs.length < sizeLine ∧ (∀ u, vG kvs k = some u → Q u H) ∧ (vG kvs k = none → Q d (upd H a (.dG (pG kvs k y d))))
theorem mt_get2G (hu : X.A.units + 2 < cLine) : MtM X "dict.get" rGet2 := by
  intro pins s σ H x xs v us Q I rx rv h
  obtain ⟨a, kvs, k, y, d, rfl, rfl, ha, g, q⟩ := h
  obtain ⟨u, u2, rfl, ru, ru2⟩ := rv.two
  cases rx
  obtain ⟨z, hd, ys, rel, dd⟩ := gd_rd I (.inl ha)
  exact call_meetsIn F.slot_dict_get dd.typeIs F.entry_dict_get (F.args_dict_get_3 _ _ _) (gm_get2 hd) ⟨hu, k, ys, g.is I ru, dd, ⟨_, H, I.tok _, getD_rel (gp_val rel) ru2, q⟩⟩
theorem mt_setdefG (hu : X.A.units + 2 < cLine) : MtM X "dict.setdefault" rSetDef := by
  intro pins s σ H x xs v us Q I rx rv h
  obtain ⟨a, kvs, k, y, d, rfl, rfl, ha, g, hl, q1, q2⟩ := h
  obtain ⟨u, u2, rfl, ru, ru2⟩ := rv.two
  cases rx
  obtain ⟨z, hd, ys, rel, dd⟩ := gd_rd I (.inl ha)
  have eo := gp_val (k := k) rel
  refine call_meetsIn F.slot_dict_setdefault dd.typeIs F.entry_dict_setdefault (F.args_dict_setdefault_3 _ _ _) (gm_setdef hd) ⟨hu, k, ys, g.is I ru, dd, by rw [← gp_len rel]; exact z, fun w' hw => ?_, fun hw h' dd' hs' => ?_⟩
  · rw [hw] at eo
    cases e : vG kvs k with
    | none => rw [e] at eo; exact eo.elim
    | some v => rw [e] at eo; exact ⟨v, H, I.tok _, eo, q1 v e⟩
  · rw [hw] at eo
    cases e : vG kvs k with
    | some v => rw [e] at eo; exact eo.elim
    | none =>
      obtain ⟨q, es, ep, hq, h2, h3, h4, _, h5⟩ := dd'
      have hlen := pG_len kvs k y d
      refine ⟨d, upd H a (.dG (pG kvs k y d)), d_write I (by rw [ha]; exact True.intro) hs' ⟨q, hq⟩ ⟨by omega, hd, _, Paired.mapP (gp_put rel g ru ru2) fun p q z => ⟨z.1, z.2.1.stay fun b xs hb => ?_, z.2.2⟩, q, es, ep, hq, h2, h3, h4, h5⟩, ru2, q2 e⟩
      rw [upd_ne (ne_of hb ha (fun z => nomatch z))]
      exact hb
end
theorem hu4 {A : Around} {k : Nat} (hr : Room k A) : A.units + 4 < cLine := by have := hr.units; omega
theorem hu2 {A : Around} {k : Nat} (hr : Room k A) : A.units + 2 < cLine := by have := hr.units; omega
end L2
set_option maxHeartbeats 4000000
namespace L2
open PySem PySem.Spec PySem.W PyProof.Rows
section
variable {X : Cx}
end
theorem perm_ix {js : List Nat} {ix : List Nat} (h : ix.Perm (List.range js.length)) : (ix.map fun i => js.getD i 0).Perm js := by
  have := h.map fun i => js.getD i 0
  refine this.trans (.of_eq ?_)
  apply List.ext_getElem?
  intro i
  rw [List.getElem?_map]
  by_cases hi : i < js.length
  · rw [List.getElem?_range hi, List.getElem?_eq_getElem hi]
    show some (js.getD i 0) = _
    rw [List.getD_eq_getElem?_getD, List.getElem?_eq_getElem hi]; rfl
  · rw [List.getElem?_eq_none (by simpa using hi), List.getElem?_eq_none (by omega)]; rfl
theorem list_self {ds : List PyData} (h : ∀ d ∈ ds, noB d = true) : PyData.eqv (.list ds) (.list ds) = true := (eqv_iff _ _ (by rw [noB]; exact noBs_all h) (by rw [noB]; exact noBs_all h)).mpr rfl
theorem depth_le : ∀ {ds : List PyData} {k : Nat}, (∀ d ∈ ds, d.depth ≤ k) → PyData.depthAll ds ≤ k
  | [], _, _ => Nat.zero_le _
  | d :: ds, k, h => by
    have a := h d List.mem_cons_self
    have b := depth_le (ds := ds) fun x hx => h x (List.mem_cons_of_mem _ hx)
    show max d.depth (PyData.depthAll ds) ≤ k
    omega
end L2
set_option maxHeartbeats 4000000
namespace L2
open PySem PySem.Spec PySem.W PyProof.Rows
section
variable {P : Program} {w : World} {fs : List Addr} {H H1 : Hp} {h h1 h2 : Heap}
theorem Un.later (u : Un fs [] H H1 h h1) (k : ∀ b o, b < h.objs.size → h1.get? b = some o → h2.get? b = some o) : Un fs [] H H1 h h2 where
  keep := fun b o q n hb hx => k b o (Heap.lt_size q) (u.keep b o q n hb hx)
  slot := fun b o q n hb hx => let ⟨sl, e⟩ := u.slot b o q n hb hx; ⟨sl, k b _ (Heap.lt_size q) e⟩
  free := u.free
  there := fun b o q hx => let ⟨o', e⟩ := u.there b o q hx; ⟨o', k b o' (Heap.lt_size q) e⟩
  tups := u.tups
  frzs := u.frzs
  tbls := u.tbls
theorem HOk.other {a : Addr} (x : HOk P w H h) (k : ∀ b u, b ≠ a → h.get? b = some u → h2.get? b = some u) (hn : H a = none) : HOk P w H h2 := fun b o e => by
  have ne : ∀ {c u}, H c = some u → c ≠ a := fun q z => by rw [z, hn] at q; cases q
  refine (x b o e).stay (fun c u hc q => k c u ?_ q) (fun _ q => q) fun _ _ q => q
  rcases hc with rfl | hc
  · exact ne e
  · exact ne hc
theorem HOk.adopt {a : Addr} {o : HO} (x : HOk P w H h) (hn : H a = none) (new : ObjOk P w (upd H a o) h a o) : HOk P w (upd H a o) h := fun b u e => by
  by_cases hb : b = a
  · subst hb; rw [upd_same] at e; cases e; exact new
  · rw [upd_ne hb] at e
    refine (x b u e).stay (fun _ _ _ q => q) (fun c q => ?_) fun c xs q => ?_
    · rw [upd_ne (fun z => by rw [z, hn] at q; cases q)]; exact q
    · rw [upd_ne (fun z => by rw [z, hn] at q; cases q)]; exact q
theorem Un.adopt {a : Addr} {o : HO} (u : Un fs [] H H1 h h1) (ha : h.objs.size ≤ a) (hn : H1 a = none) : Un fs [] H (upd H1 a o) h h1 where
  keep := u.keep
  slot := u.slot
  free := fun b ob q n hx => by
    rw [upd_ne (Nat.ne_of_lt (Nat.lt_of_lt_of_le (Heap.lt_size q) ha))]
    exact u.free b ob q n hx
  there := u.there
  tups := fun b xs q => by
    have := u.tups b xs q
    rw [upd_ne (fun z => by rw [z, hn] at this; cases this)]; exact this
  frzs := fun b ob v q => by
    have := u.frzs b ob v q
    rw [upd_ne (fun z => by rw [z, hn] at this; cases this)]; exact this
  tbls := fun b ps q => by
    obtain ⟨m, this⟩ := u.tbls b ps q
    exact ⟨m, by rw [upd_ne (fun z => by rw [z, hn] at this; cases this)]; exact this⟩
end
def rSortK (K : PySem.W.Frag) (sp : Sp) : List V → Hp → VK → Prop := fun xs H Q => ∃ p ys ds t, xs = [.ref p] ∧ SqL K H p ys ∧ ds.length = ys.length ∧ KeysAre ds t ∧ ys.length < 64 ∧
  (∀ (m : Nat) y d H' (Q' : VK), ys[m]? = some y → ds[m]? = some d → Same H H' → (∀ H'' kv, Same H' H'' → DV K H'' kv d → Q' kv H'') → sp [y] H' Q' E0) ∧
  ∀ q H' ix, H q = none → Same H H' → SortIx ds ix → H' q = some (.lst (ix.map fun i => ys.getD i .non)) → Q (.ref q) H'
section
variable {X : Cx} {pins : List (Addr × Obj)} {σ : St} {H : Hp} {s : Shared} {k : Nat} {fa : Addr} {fd : FuncData} {ps : List Str} {sp : Sp}
structure KSt (X : Cx) (H : Hp) (s : Shared) (a kS : Addr) (e1 : Nat) (Hm : Hp) (s' : Shared) (ks : List Value) (kvs : List V) (ds : List PyData) : Prop where
  un : Un (frs X.stack) [] H Hm s.heap s'.heap
  hok : HOk X.prog X.w Hm s'.heap
  os : s'.os = s.os
  bare : AllBare s'.gens
  same : Same H Hm
  fa' : Hm a = none
  fk : Hm kS = none
  ga : s'.heap.get? a = some (seqObj "list" #[] e1)
  gk : ∃ e, s'.heap.get? kS = some (seqObj "list" ks.toArray e)
  vals : Vals kvs ks
  dv : DVs X.K Hm kvs ds
theorem dvs_snoc {K : PySem.W.Frag} {H : Hp} {x : V} {d : PyData} (h : DV K H x d) : ∀ {xs : List V} {ds : List PyData}, DVs K H xs ds → DVs K H (xs ++ [x]) (ds ++ [d])
  | _, _, .nil => .cons h .nil
  | _, _, .cons a t => .cons a (dvs_snoc h t)
theorem key_loop {A' : Around} {a kS : Addr} {e1 : Nat} {E : Value → Shared → Prop} {R : Shared → Prop} (hcall : ∀ (s' : Shared) (Hm : Hp) (x : Value) (y : V) (Q : VK), Env0 X.prog X.w X.K X.mg X.base A' X.stack s' Hm → Un (frs X.stack) [] H Hm s.heap s'.heap → Same H Hm → RelV y x → sp [y] Hm Q E0 → codeAny (model X.prog X.w) A' (.call (.ref fa) ⟨[x], []⟩) (CR CX0 X.stack X.prog X.w Hm s' Q E0) s') (hfr : A'.frames = X.A.frames) (I : Inv X pins σ H s) (ha : s.heap.objs.size ≤ a) (hk : s.heap.objs.size ≤ kS) (hak : a ≠ kS) (nfa : a ∉ frs X.stack) (nfk : kS ∉ frs X.stack)
    {body : Value → PUnit → Sem (ForInStep PUnit)} (hbody : ∀ x (s' : Shared) (R' : ForInStep PUnit → Shared → Prop), wpAny (model X.prog X.w) A' (call (.ref fa) [x]) (fun kv s2 => wpAny (model X.prog X.w) A' (Builtin.List.listUpdate (.ref kS) (·.push kv)) (fun _ s3 => R' (.yield ⟨⟩) s3) E s2) (fun _ _ => False) s' → wpAny (model X.prog X.w) A' (body x ⟨⟩) R' E s') :
    ∀ (r : List Value) (ry : List V) (rd : List PyData) (ks : List Value) (kvs : List V) (dd : List PyData) (Hm : Hp) (s' : Shared), Vals ry r → rd.length = ry.length →
      (∀ (m : Nat) y d H' (Q' : VK), ry[m]? = some y → rd[m]? = some d → Same H H' → (∀ H'' kv, Same H' H'' → DV X.K H'' kv d → Q' kv H'') → sp [y] H' Q' E0) →
      ks.length + r.length < 64 → KSt X H s a kS e1 Hm s' ks kvs dd →
      (∀ Hn s'' ks' kvs', KSt X H s a kS e1 Hn s'' ks' kvs' (dd ++ rd) → ks'.length = ks.length + r.length → R s'') → wpAny (model X.prog X.w) A' (forIn r PUnit.unit body) (fun _ s'' => R s'') E s'
  | [], ry, rd, ks, kvs, dd, Hm, s', rv, hl, hsp, hz, st, fin => by
    cases rv
    rw [List.length_nil] at hl
    rw [List.length_eq_zero_iff.mp hl] at fin
    rw [List.forIn_nil]
    refine wpAny_pure (fin Hm s' ks kvs ?_ rfl)
    rw [List.append_nil]
    exact st
  | x :: r, _, [], ks, kvs, dd, Hm, s', .cons _ _, hl, hsp, hz, st, fin => absurd hl (by simp)
  | x :: r, _, d :: rd, ks, kvs, dd, Hm, s', .cons (a := y) (l₁ := ry) r1 rv, hl, hsp, hz, st, fin => by
    rw [List.forIn_cons]
    have I' : Inv X pins σ Hm s' := I.call' st.os st.un st.hok st.bare (fun b z => absurd z (by simp))
    have e0 := I'.env0
    obtain ⟨ek, gk⟩ := st.gk
    refine wpAny_bind (hbody x s' _ ?_)
    refine wpAny_call (codeAny_mono (hcall s' Hm x y (fun kv H2 => Same Hm H2 ∧ DV X.K H2 kv d) ⟨hfr.trans e0.frames, e0.mod, e0.bs, e0.bsz, e0.funs, e0.frf, e0.hok, e0.bare⟩ st.un st.same r1 (hsp 0 y d Hm _ rfl rfl st.same fun H2 kv a1 a2 => ⟨a1, a2⟩)) fun res s2 hq => ?_)
    cases res with
    | error e => exact hq.elim
    | ok fl =>
      cases fl with
      | next => exact hq.elim
      | brk => exact hq.elim
      | cont => exact hq.elim
      | ret u =>
        obtain ⟨v, H2, os2, bare2, un2, hok2, rel, same2, dv2⟩ := hq
        have gk2 := un2.keep kS _ gk st.fk nfk (by simp)
        have ga2 := un2.keep a _ st.ga st.fa' nfa (by simp)
        have fk2 := un2.free kS _ gk st.fk (by simp)
        have fa2 := un2.free a _ st.ga st.fa' (by simp)
        have hz' : ks.length + (r.length + 1) < 64 := hz
        have z64 : 64 ≤ sizeLine := Nat.le_of_lt (small1000 (by decide))
        refine listUpdate_at gk2 rfl ?_ (by rw [List.size_toArray]; omega) (by rw [Array.size_push, List.size_toArray]; omega)
        obtain ⟨c2, g2⟩ : ∃ c2, (s2.heap.update kS (Obj.mapSeq (·.push u))).get? kS = some (seqObj "list" ((ks ++ [u]).toArray) c2) := by
          have ea : ks.toArray.push u = (ks ++ [u]).toArray := by simp
          exact ⟨_, by rw [← ea]; exact get?_update_seq gk2 (·.push u)⟩
        have sb := Heap.SameBut.update s2.heap kS (Obj.mapSeq (·.push u))
        refine key_loop hcall hfr I ha hk hak nfa nfk hbody r ry rd (ks ++ [u]) (kvs ++ [v]) (dd ++ [d]) H2 _ rv (by simpa using hl) (fun m y' d' H' Q' h1 h2 h3 h4 => hsp (m + 1) y' d' H' Q' (by simpa using h1) (by simpa using h2) h3 h4) (by rw [List.length_append, List.length_singleton]; omega) ⟨?_, ?_, os2.trans st.os, bare2, st.same.trans same2, fa2, fk2, (sb.2 a hak).trans ga2, ⟨c2, g2⟩, ?_, ?_⟩ fun Hn s'' ks' kvs' st' hl' => fin Hn s'' ks' kvs' ?_ ?_
        · exact (st.un.trans un2).later fun b o hb' e => (sb.2 b (Nat.ne_of_lt (Nat.lt_of_lt_of_le hb' hk))).trans e
        · exact hok2.other (fun b u' hb' e => (sb.2 b hb').trans e) fk2
        · exact st.vals.append (.cons rel .nil)
        · exact dvs_snoc dv2 (st.dv.same same2)
        · rw [List.append_assoc] at st'
          exact st'
        · rw [hl', List.length_append, List.length_singleton, List.length_cons]
          omega
theorem key_tail {A' : Around} {a kS : Addr} {e1 : Nat} {E : Value → Shared → Prop} {P : PySem.Fin → Shared → Prop} {Hn : Hp} {s' : Shared} {ks : List Value} {kvs : List V} {ds : List PyData} {st : SortSt} {out : List Value} {ov : List V} (hk : s.heap.objs.size ≤ kS) (ha : s.heap.objs.size ≤ a) (hak : a ≠ kS) (S : KSt X H s a kS e1 Hn s' ks kvs ds) (hz : ks.length < 64) (ho : out.length < 64) (hout : (arrOf st).map (·.2) = out.toArray) (hf : failedOf st = none) (rov : Vals ov out)
    (fin : ∀ s2 H2, Un (frs X.stack) [] H H2 s.heap s2.heap → HOk X.prog X.w H2 s2.heap → s2.os = s.os → AllBare s2.gens → Same H H2 → H2 a = some (.lst ov) → P (.done (.ret .none)) s2) : wpAny (model X.prog X.w) A' (ksk_tail a false e1 (.ref kS) st) P E s' := by
  obtain ⟨ek, gk⟩ := S.gk
  have z64 : 64 ≤ sizeLine := Nat.le_of_lt (small1000 (by decide))
  unfold ksk_tail
  try dsimp only
  rw [hout]
  have sb := Heap.SameBut.update s'.heap kS (Obj.mapSeq fun _ => (#[] : Array Value))
  have ga1 := (sb.2 a hak).trans S.ga
  refine wpAny_bind (listUpdate_at gk rfl (wpAny_bind (wpAny_letGo (wpAny_bind (seqEpoch_at ga1 rfl (wpAny_bind (listUpdate_at ga1 rfl ?_ (Nat.zero_le _) (by show out.toArray.size ≤ _; rw [List.size_toArray]; omega))))))) (by rw [List.size_toArray]; omega) (Nat.zero_le _))
  rw [hf]
  simp only [bne_self_eq_false, Bool.false_eq_true, if_false]
  have sb2 := Heap.SameBut.update (s'.heap.update kS (Obj.mapSeq fun _ => (#[] : Array Value))) a (Obj.mapSeq fun _ => out.toArray)
  obtain ⟨c2, g2⟩ : ∃ c2, ((s'.heap.update kS (Obj.mapSeq fun _ => (#[] : Array Value))).update a (Obj.mapSeq fun _ => out.toArray)).get? a = some (seqObj "list" out.toArray c2) := ⟨_, get?_update_seq ga1 fun _ => out.toArray⟩
  refine wpAny_pure (fin _ (upd Hn a (.lst ov)) ?_ ?_ S.os S.bare (S.same.trans (Same.new S.fa')) upd_same)
  · refine (S.un.later fun b o hb e => ?_).adopt ha S.fa'
    have h1 : b ≠ kS := Nat.ne_of_lt (Nat.lt_of_lt_of_le hb hk)
    have h2 : b ≠ a := Nat.ne_of_lt (Nat.lt_of_lt_of_le hb ha)
    exact (sb2.2 b h2).trans ((sb.2 b h1).trans e)
  · refine HOk.adopt ((S.hok.other (fun b u hb e => (sb.2 b hb).trans e) S.fk).other (fun b u hb e => (sb2.2 b hb).trans e) S.fa') S.fa' ⟨?_, out, c2, rov, g2⟩
    rw [rov.length]
    omega
theorem sorted_keyC {Q : VK} {us : List Value} {xs : List V} (hcall : ∀ (s' : Shared) (Hm : Hp) (x : Value) (y : V) (Q : VK), Env0 X.prog X.w X.K X.mg X.base X.A.in1.in1 X.stack s' Hm → Un (frs X.stack) [] H Hm s.heap s'.heap → Same H Hm → RelV y x → sp [y] Hm Q E0 → codeAny (model X.prog X.w) X.A.in1.in1 (.call (.ref fa) ⟨[x], []⟩) (CR CX0 X.stack X.prog X.w Hm s' Q E0) s') (hu : X.A.units + 3 + 61 < cLine) (I : Inv X pins σ H s) (rx : Vals xs us) (hh : rSortK X.K sp xs H Q) :
    wpAny (model X.prog X.w) X.A (call (.builtin "sorted") us [(Str.ofString "key", .ref fa)]) (EP X pins σ Q) X.xe s := by
  obtain ⟨p, ys, ds, t, rfl, hq, hdl, hk, h64, hsp, q⟩ := hh
  obtain ⟨u, rfl, ru⟩ := vals1 rx
  cases ru
  obtain ⟨vs, rv, pl, hz⟩ := I.list hq
  have hl := rv.length
  have zl : vs.length ≤ sizeLine := by omega
  refine call_function_entry_kw kind_sorted plain_sorted entry_sorted (ksk_s1 _ _) ?_
  unfold Builtin.«sorted»
  refine wpAny_bind (m := checkCount "sorted" 1 1 _) (wpAny_pure (wpAny_bind (collect_list pl.isList (wpAny_bind (wpAny_newList ?_ zl)) zl)))
  have hsz : ((s.heap.push (seqObj "list" #[] 0)).update s.heap.objs.size (Obj.mapSeq (· ++ vs.toArray))).objs.size = s.heap.objs.size + 1 := (Heap.size_update _ _ _).trans (size_push' _ _)
  have x1 : Ext s.heap (((s.heap.push (seqObj "list" #[] 0)).update s.heap.objs.size (Obj.mapSeq (· ++ vs.toArray))).push (seqObj "list" vs.toArray 0)) := ((Ext.push _ _).upd (Nat.le_refl _)).trans (.push _ _)
  have o1 : (((s.heap.push (seqObj "list" #[] 0)).update s.heap.objs.size (Obj.mapSeq (· ++ vs.toArray))).push (seqObj "list" vs.toArray 0)).get? (s.heap.objs.size + 1) = some (seqObj "list" vs.toArray 0) := hsz ▸ Heap.get?_push_size _ rfl
  show wpAny (model X.prog X.w) _ _ _ _ { s with heap := ((s.heap.push (seqObj "list" #[] 0)).update s.heap.objs.size (Obj.mapSeq (· ++ vs.toArray))).push (seqObj "list" vs.toArray 0) }
  rw [hsz]
  generalize ((s.heap.push (seqObj "list" #[] 0)).update s.heap.objs.size (Obj.mapSeq (· ++ vs.toArray))).push (seqObj "list" vs.toArray 0) = h1 at x1 o1 ⊢
  have ha : s.heap.objs.size ≤ s.heap.objs.size + 1 := Nat.le_succ _
  generalize s.heap.objs.size + 1 = a at ha o1 ⊢
  refine wpAny_bind (wpAny_holding (wpAny_call_entry_kw slot_list_sort ⟨_, o1, rfl⟩ entry_list_sort ?_ (ksk_l1 _ _)))
  show wpAny (model X.prog X.w) X.A.in1.in1 (Builtin.«list.sort» ⟨[.ref a], [(Str.ofString "key", .ref fa)]⟩) _ _ _
  rw [ksk_t1]
  unfold ksk_tree
  obtain ⟨e1, o2⟩ : ∃ e1, (h1.update a (Obj.mapSeq fun _ => (#[] : Array Value))).get? a = some (seqObj "list" #[] e1) := ⟨_, get?_update_seq o1 fun _ => #[]⟩
  have x2 : Ext s.heap (h1.update a (Obj.mapSeq fun _ => (#[] : Array Value))) := x1.upd ha
  refine wpAny_bind (listItems_at o1 rfl (wpAny_bind (listUpdate_at o1 rfl (wpAny_bind (seqEpoch_at o2 rfl (wpAny_bind (wpAny_newTuple (wpAny_bind (wpAny_newList (wpAny_holding ?_) (Nat.zero_le _))) zl)))) (by rw [List.size_toArray]; exact zl) (Nat.zero_le _))))
  have hkS : s.heap.objs.size ≤ ((h1.update a (Obj.mapSeq fun _ => (#[] : Array Value))).push (seqObj "tuple" vs.toArray 0)).objs.size := by
    rw [size_push', Heap.size_update]
    have : a < h1.objs.size := Heap.lt_size o1
    omega
  have hak : a ≠ ((h1.update a (Obj.mapSeq fun _ => (#[] : Array Value))).push (seqObj "tuple" vs.toArray 0)).objs.size := by
    rw [size_push', Heap.size_update]
    have : a < h1.objs.size := Heap.lt_size o1
    omega
  have o3 : (((h1.update a (Obj.mapSeq fun _ => (#[] : Array Value))).push (seqObj "tuple" vs.toArray 0)).push (seqObj "list" #[] 0)).get? a = some (seqObj "list" #[] e1) := Heap.get?_push_of_some _ (Heap.get?_push_of_some _ o2)
  have ok3 : (((h1.update a (Obj.mapSeq fun _ => (#[] : Array Value))).push (seqObj "tuple" vs.toArray 0)).push (seqObj "list" #[] 0)).get? ((h1.update a (Obj.mapSeq fun _ => (#[] : Array Value))).push (seqObj "tuple" vs.toArray 0)).objs.size = some (seqObj "list" #[] 0) := Heap.get?_push_size _ rfl
  have x3 : Ext s.heap (((h1.update a (Obj.mapSeq fun _ => (#[] : Array Value))).push (seqObj "tuple" vs.toArray 0)).push (seqObj "list" #[] 0)) := (x2.trans (.push _ _)).trans (.push _ _)
  show wpAny (model X.prog X.w) X.A.in1.in1 (ksk_rest a (.ref fa) false vs.toArray e1 (.ref ((h1.update a (Obj.mapSeq fun _ => (#[] : Array Value))).push (seqObj "tuple" vs.toArray 0)).objs.size)) _ _ { s with heap := ((h1.update a (Obj.mapSeq fun _ => (#[] : Array Value))).push (seqObj "tuple" vs.toArray 0)).push (seqObj "list" #[] 0) }
  generalize ((h1.update a (Obj.mapSeq fun _ => (#[] : Array Value))).push (seqObj "tuple" vs.toArray 0)).objs.size = kS at hkS hak ok3 ⊢
  generalize ((h1.update a (Obj.mapSeq fun _ => (#[] : Array Value))).push (seqObj "tuple" vs.toArray 0)).push (seqObj "list" #[] 0) = h3 at o3 ok3 x3 ⊢
  have nst : ∀ b, s.heap.objs.size ≤ b → b ∉ frs X.stack := fun b hb' hm => by
    rcases List.mem_cons.mp (I.stkSub b hm) with z | z
    · exact absurd (Nat.lt_of_lt_of_le I.lt hb') (by rw [z]; exact Nat.lt_irrefl _)
    · exact I.nofs hb' z
  have S0 : KSt X H s a kS e1 H { s with heap := h3 } [] [] [] := ⟨Un.kept x3, I.hok.kept x3, rfl, I.bare, Same.refl H, I.hok.fresh ha, I.hok.fresh hkS, o3, ⟨0, ok3⟩, .nil, .nil⟩
  unfold ksk_rest
  refine wpAny_bind (wpAny_rule ?_)
  first
    | rw [List.forIn_toArray]
    | (rw [← Array.forIn_toList]; simp only [List.toList_toArray])
  refine wpAny_bind (key_loop (R := fun s'' => wpAny (model X.prog X.w) X.A.in1.in1 (do let keys ← Builtin.List.listItems (.ref kS); ksk_end a false vs.toArray e1 (.ref kS) keys) _ _ s'') hcall rfl I ha hkS hak (nst a ha) (nst kS hkS) (fun x s' R' hx => ?_) vs ys ds [] [] [] H _ rv hdl hsp (by rw [List.length_nil]; omega) S0 fun Hn s'' ks kvs S hks => ?_)
  · refine wpAny_bind (wpAny_attempt (wpAny_mono hx (fun kv s2 h2 => ?_) fun _ _ z => z.elim))
    exact wpAny_bind (wpAny_mono h2 (fun _ s3 h3 => wpAny_pure h3) fun _ _ z => z)
  · rw [List.nil_append] at S
    rw [List.length_nil, Nat.zero_add] at hks
    obtain ⟨ek, gk⟩ := S.gk
    have hkl : ks.length = ds.length := by rw [hks, hdl, hl]
    have I' : Inv X pins σ Hn s'' := I.call' S.os S.un S.hok S.bare (fun b z => absurd z (by simp))
    obtain ⟨as, ra⟩ := S.dv.reads I' S.vals
    have W := swo_of hk.one
    refine wpAny_bind (listItems_at gk rfl ?_)
    have fin : ∀ (pm : Array Nat), Arr vs.length (ltK ds) pm → ∀ st : SortSt, (arrOf st).map (·.2) = List.toArray (pm.toList.map fun i => vs.getD i Value.none) → failedOf st = none → wpAny (model X.prog X.w) X.A.in1.in1 (ksk_tail a false e1 (.ref kS) st) (fun fin s' => ∃ v, fin = PySem.Fin.done (.ret v) ∧ wpAny (model X.prog X.w) X.A.in1 (ret (Value.ref a)) (fun fin s' => ∃ v, fin = .done (.ret v) ∧ EP X pins σ Q v s') X.xe s') X.xe s'' := fun pm ar st ho hf => by
      have hix : ∀ i ∈ pm.toList, i < ys.length := fun i hi => by
        have := (ar.1.toList.mem_iff).mp hi
        simp at this
        omega
      have hpl : pm.size = vs.length := by rw [ar.1.size_eq]; simp
      refine key_tail hkS ha hak S (by omega) (by rw [List.length_map, Array.length_toList, hpl]; omega) ho hf (vals_getD rv _ hix) fun s2 H2 un hok os bare same e2 => ?_
      refine ⟨_, rfl, wpAny_pure ⟨_, rfl, .ref a, H2, I.call' os un hok bare (fun b z => absurd z (by simp)), rfl, q a H2 pm.toList (I.hok.fresh ha) same (sortIx_of (by rw [← hkl, hks]; exact ar)) e2⟩⟩
    unfold ksk_end
    try dsimp only
    rw [if_neg (by decide)]
    by_cases h2 : vs.toArray.size < 2
    · rw [if_pos h2, if_pos h2]
      have h2' : vs.length < 2 := by simpa using h2
      refine wpAny_bind (wpAny_pure ?_)
      rw [StateT.run_pure]
      refine wpAny_bind (wpAny_pure ?_)
      refine fin _ (arr_small W h2') _ ?_ rfl
      show ((ks.toArray.zip vs.toArray).map (·.2)) = _
      apply Array.toList_inj.mp
      rw [Array.toList_map, Array.toList_zip]
      have e1 : List.map (·.2) (ks.zip vs) = vs := List.map_snd_zip (by omega)
      have e2 : (List.toArray (List.range vs.length)).toList.map (fun i => vs.getD i Value.none) = vs := by
        apply List.ext_getElem?
        intro i
        by_cases hi : i < vs.length
        · simp [hi]
        · simp [hi]
      show List.map (·.2) (ks.zip vs) = (List.toArray (List.range vs.length)).toList.map (fun i => vs.getD i Value.none)
      rw [e1, e2]
    · rw [if_neg h2, if_neg h2]
      have h2' : ¬ vs.length < 2 := by simpa using h2
      obtain ⟨κ, hkk, hqq⟩ := answers_of (prog := X.prog) (w := X.w) (A := X.A.in1.in1) ra hk (by omega) (by show X.A.units + 1 + 1 + 60 < cLine; omega)
      refine wpAny_bind (wpAny_mono (hkk (fun k s' => k = κ ∧ s' = s'') ⟨rfl, rfl⟩) ?_ fun _ _ z => z.elim)
      rintro k' s' ⟨rfl, rfl⟩
      rw [if_neg (by decide)]
      refine wpAny_bind (wpAny_mono (sort_run (E := X.xe) (R := fun st s3 => s3 = s' ∧ ∃ pm, Arr vs.length (ltK ds) pm ∧ (arrOf st).map (·.2) = List.toArray (pm.toList.map fun i => vs.getD i Value.none) ∧ failedOf st = none) W hks (by omega) h2' hqq fun st pm a1 a2 a3 => ⟨rfl, pm, a1, a2, a3⟩) ?_ fun _ _ z => z)
      rintro ⟨⟨⟩, st⟩ s3 ⟨rfl, pm, ar, eo, hf⟩
      exact fin pm ar st eo hf
theorem sorted_key {Q : VK} {us : List Value} {xs : List V} (F : FnOk X.prog X.w X.K X.mg X.base CX0 k fa fd ps sp) (hr : Room k X.A.in1.in1) (hb : Binds X.K fd ps []) (hps : ps.length = 1) (hu : X.A.units + 3 + 61 < cLine) (I : Inv X pins σ H s) (rx : Vals xs us) (hh : rSortK X.K sp xs H Q) :
    wpAny (model X.prog X.w) X.A (call (.builtin "sorted") us [(Str.ofString "key", .ref fa)]) (EP X pins σ Q) X.xe s :=
  sorted_keyC (fun s' Hm x y Q e0 _ _ r1 hsp => F.run X.A.in1.in1 X.stack s' Hm ⟨[x], []⟩ [x] [y] Q E0 hr e0 (by
    have := hb s' [x] (e0.mod.kin.keeps fun b o e => (e0.bs b o e).1) (by rw [hps]; rfl)
    simpa using this) (.cons r1 .nil) hsp) hu I rx hh
theorem Room.in2 {k : Nat} {A : Around} (r : Room (k + 1) A) : Room k A.in1.in1 :=
  ⟨r.hd, by have := r.dp; show A.depth + 3 * k + 5 < _; omega, by have := r.un; show A.units + 1 + 1 + 16 * k + 200 < _; omega⟩
theorem pe_sortK {x y : Str} {e : Expr} {p yp kp pos : Pos} {t : TA} (F : FnOk X.prog X.w X.K X.mg X.base CX0 k fa fd ps sp) (hr : Room (k + 1) X.A) (hg : Gl X x) (hm : X.mg x = none) (hv : bootBuiltins x = some (.builtin "sorted")) (hgf : Gl X y) (hmf : X.mg y = some (.ref fa)) (hb : Binds X.K fd ps []) (hps : ps.length = 1) (ha : PA X [e] t) (hn : x ≠ "__name__" := by decide) (hdb : (x == ("__debug__" : Str)) = false := by decide) (hdf : (y == ("__debug__" : Str)) = false := by decide)
    (he : starEach [e] X.env = (false, eval e X.env) :: starEach [] X.env := by rfl) : PE X (.Call (.Name x p) [e] [⟨some "key", .Name y yp, kp⟩] pos) (tCB (rSortK X.K sp) t) := by
  intro pins s σ H Q I h
  refine wpAny_Call_Name_kw (ld_blt I hg hm hv ?_ hn hdb)
  refine callWith_kw (thn (ha pos pins s σ H _ I h) fun us s1 ⟨vs, H1, I1, r1, q1⟩ => kws_cons (ld_glob I1 hgf hmf (kws_nil ?_) hdf)) (by rw [he]; rfl) (by rw [he]; rfl)
  exact sorted_key F hr.in2 hb hps (by have := hr.un; omega) I1 r1 q1
end
end L2
set_option maxHeartbeats 4000000
namespace L2
open PySem PySem.Spec PySem.W PyProof.Rows
section
variable {X : Cx} {K : PySem.W.Frag}
def rSlTA (K : PySem.W.Frag) : V → Option Int → Option Int → Hp → VK → Prop := fun x lo hi H Q => ∃ a xs, x = .ref a ∧ SqT K H a xs ∧
  ¬ (HT.sIx xs.length 0 lo = 0 ∧ HT.sIx xs.length xs.length hi = xs.length) ∧ ∀ p H', H p = none → Same H H' → H' p = some (.tup (cutV xs lo hi)) → Q (.ref p) H'
theorem sl_tupA : SlR X (rSlTA X.K) := sl_tup.imp fun _ _ _ _ _ ⟨a, xs, h1, h2, h3, q⟩ => ⟨a, xs, h1, h2, h3, fun p hp => q p _ hp (Same.new hp) upd_same⟩
theorem sl_tupAK (h : X.K = K) : SlR X (rSlTA K) := h ▸ sl_tupA
end
section
variable {wd : Nat → Str} {L : List Lf} {H H' : Hp} {v : V} {k : Nat}
end
section
variable {wd : Nat → Str} {L : List Lf} {H H' : Hp} {vs : List V} {js : List Nat}
end
end L2
set_option maxHeartbeats 4000000
namespace Rga
def after (b a : Nat) : List Nat → List Nat
  | [] => []
  | x :: xs => if x = b then x :: a :: xs else x :: after b a xs
abbrev Pl := Nat × Option Nat
def ins (p : Pl) (row : List Nat) : List Nat := match p.2 with
  | none => p.1 :: row
  | some b => after b p.1 row
def rowR : List Pl → List Nat
  | [] => []
  | p :: qs => ins p (rowR qs)
def nms (qs : List Pl) : List Nat := qs.map (·.1)
def WF : List Pl → Prop
  | [] => True
  | p :: qs => p.1 ∉ nms qs ∧ (∀ b, p.2 = some b → b ∈ nms qs) ∧ WF qs
def rk (qs : List Pl) (k : Option Nat) : List Nat := (qs.filter fun p => decide (p.2 = k)).map (·.1)
inductive Dfs (f : Option Nat → List Nat) : List Nat → List Nat → Prop
  | nil : Dfs f [] []
  | cons {x : Nat} {st out : List Nat} : Dfs f (f (some x) ++ st) out → Dfs f (x :: st) (x :: out)
theorem after_perm {b a : Nat} : ∀ {row : List Nat}, b ∈ row → (after b a row).Perm (a :: row)
  | x :: xs, h => by
    unfold after
    by_cases e : x = b
    · rw [if_pos e]; exact .swap _ _ _
    · rw [if_neg e]
      rcases List.mem_cons.mp h with z | z
      · exact absurd z.symm e
      · exact ((after_perm z).cons x).trans (.swap _ _ _)
theorem row_perm : ∀ {qs : List Pl}, WF qs → (rowR qs).Perm (nms qs)
  | [], _ => .refl _
  | (a, none) :: qs, h => (row_perm h.2.2).cons a
  | (a, some b) :: qs, h => (after_perm ((row_perm h.2.2).mem_iff.mpr (h.2.1 b rfl))).trans ((row_perm h.2.2).cons a)
theorem wf_nodup : ∀ {qs : List Pl}, WF qs → (nms qs).Nodup
  | [], _ => List.nodup_nil
  | _ :: _, h => List.nodup_cons.mpr ⟨h.1, wf_nodup h.2.2⟩
theorem row_nodup {qs : List Pl} (h : WF qs) : (rowR qs).Nodup := (row_perm h).nodup_iff.mpr (wf_nodup h)
theorem rk_cons (p : Pl) (qs : List Pl) (k : Option Nat) : rk (p :: qs) k = if p.2 = k then p.1 :: rk qs k else rk qs k := by
  unfold rk
  by_cases e : p.2 = k
  · rw [if_pos e, List.filter_cons_of_pos (by simpa using e)]; rfl
  · rw [if_neg e, List.filter_cons_of_neg (by simpa using e)]
theorem rk_none {qs : List Pl} (h : WF qs) {a : Nat} (ha : a ∉ nms qs) : rk qs (some a) = [] := by
  induction qs with
  | nil => rfl
  | cons p qs ih =>
    have ha' : a ∉ nms qs := fun z => ha (List.mem_cons_of_mem _ z)
    rw [rk_cons, if_neg (fun e => ha' (h.2.1 a e)), ih h.2.2 ha']
theorem dfs_other {f g : Option Nat → List Nat} : ∀ {st out : List Nat}, Dfs f st out → (∀ x ∈ out, g (some x) = f (some x)) → Dfs g st out
  | _, _, .nil, _ => .nil
  | _, _, .cons (x := x) d, h => .cons (by
    rw [h x List.mem_cons_self]
    exact dfs_other d fun y hy => h y (List.mem_cons_of_mem _ hy))
theorem dfs_after {f g : Option Nat → List Nat} {a b : Nat} (hg : ∀ x, x ≠ b → g (some x) = f (some x)) (hb : g (some b) = a :: f (some b)) (ha : g (some a) = []) :
    ∀ {st out : List Nat}, Dfs f st out → out.Nodup → Dfs g st (after b a out)
  | _, _, .nil, _ => .nil
  | _, _, .cons (x := x) (st := st) (out := out) d, hn => by
    have hx := List.nodup_cons.mp hn
    unfold after
    by_cases e : x = b
    · rw [if_pos e]
      subst e
      refine .cons ?_
      rw [hb]
      refine .cons ?_
      rw [ha]
      exact dfs_other d fun y hy => hg y fun z => hx.1 (z ▸ hy)
    · rw [if_neg e]
      refine .cons ?_
      rw [hg x e]
      exact dfs_after hg hb ha d hx.2
theorem dfs_row : ∀ {qs : List Pl}, WF qs → Dfs (rk qs) (rk qs none) (rowR qs)
  | [], _ => .nil
  | (a, none) :: qs, h => by
    have ih := dfs_row h.2.2
    have hs : ∀ x, rk ((a, none) :: qs) (some x) = rk qs (some x) := fun x => by rw [rk_cons, if_neg (fun z => by cases z)]
    rw [rk_cons, if_pos rfl]
    refine .cons ?_
    rw [hs a, rk_none h.2.2 h.1]
    exact dfs_other ih fun x _ => hs x
  | (a, some b) :: qs, h => by
    have ih := dfs_row h.2.2
    have hab : a ≠ b := fun z => h.1 (z ▸ h.2.1 b rfl)
    rw [rk_cons, if_neg (fun z => by cases z)]
    refine dfs_after (f := rk qs) (g := rk ((a, some b) :: qs)) ?_ ?_ ?_ ih (row_nodup h.2.2)
    · intro x hx
      rw [rk_cons, if_neg (fun z => hx (Option.some.inj z).symm)]
    · rw [rk_cons, if_pos rfl]
    · rw [rk_cons, if_neg (fun z => hab (Option.some.inj z).symm), rk_none h.2.2 h.1]
theorem Dfs.nil_inv {f : Option Nat → List Nat} {out : List Nat} (d : Dfs f [] out) : out = [] := by cases d; rfl
theorem Dfs.cons_inv {f : Option Nat → List Nat} {x : Nat} {st out : List Nat} (d : Dfs f (x :: st) out) : ∃ out', out = x :: out' ∧ Dfs f (f (some x) ++ st) out' := by
  cases d with
  | cons d => exact ⟨_, rfl, d⟩
theorem eq_by {R : Nat → Nat → Bool} : ∀ {xs ys : List Nat}, xs.Perm ys → (xs.Pairwise fun a b => R b a = false) → (ys.Pairwise fun a b => R a b = true) → xs = ys
  | [], ys, p, _, _ => (List.nil_perm.mp p).symm
  | x :: xs, [], p, _, _ => absurd p.length_eq (by simp)
  | x :: xs, y :: ys, p, hx, hy => by
    by_cases e : x = y
    · subst e
      rw [eq_by ((List.perm_cons x).mp p) (List.pairwise_cons.mp hx).2 (List.pairwise_cons.mp hy).2]
    · have h1 : y ∈ xs := by
        rcases List.mem_cons.mp (p.mem_iff.mpr List.mem_cons_self) with z | z
        · exact absurd z.symm e
        · exact z
      have h2 : x ∈ ys := by
        rcases List.mem_cons.mp (p.mem_iff.mp List.mem_cons_self) with z | z
        · exact absurd z e
        · exact z
      have a1 := (List.pairwise_cons.mp hx).1 y h1
      have a2 := (List.pairwise_cons.mp hy).1 x h2
      rw [a2] at a1
      cases a1
end Rga
namespace L2
open PySem PySem.Spec PySem.W PyProof.Rows
theorem sort_by {D : Nat → PyData} {js ms ix : List Nat} (hp : js.Perm ms) (hm : ms.Pairwise fun a b => ltD (D a) (D b) = true) (h : SortIx (js.map D) ix) : (ix.map fun i => js.getD i 0) = ms := by
  have p1 : ix.Perm (List.range js.length) := by have := h.1; rwa [List.length_map] at this
  refine Rga.eq_by (R := fun a b => ltD (D a) (D b)) ((perm_ix p1).trans hp) ?_ hm
  have h2 := h.2
  rw [List.pairwise_map] at h2 ⊢
  refine h2.imp_of_mem fun {a b} ha hb hab => ?_
  have ka : ∀ i, i ∈ ix → keyAt (js.map D) i = D (js.getD i 0) := fun i hi => by
    have : i < js.length := List.mem_range.mp (p1.mem_iff.mp hi)
    unfold keyAt
    rw [List.getD_eq_getElem?_getD, List.getElem?_map, List.getD_eq_getElem?_getD, List.getElem?_eq_getElem this]
    rfl
  rw [ka a ha, ka b hb] at hab
  exact hab
end L2
set_option maxHeartbeats 4000000
namespace L2
open PySem PySem.Spec PySem.W PyProof.Rows
def Tups (H H' : Hp) : Prop := ∀ b xs, H b = some (.tup xs) → H' b = some (.tup xs)
section
variable {H H1 H' : Hp}
theorem Same.tups (s : Same H H') : Tups H H' := fun b xs e => s b _ e
theorem Tups.trans (a : Tups H H1) (b : Tups H1 H') : Tups H H' := fun c xs e => b c xs (a c xs e)
theorem Tups.wr {a : Addr} {o o' : HO} (e : H a = some o) (ho : ∀ ys, o ≠ .tup ys) : Tups H (upd H a o') := fun b xs q => by rw [upd_ne (tup_ne q e ho)]; exact q
theorem Tups.wl {a : Addr} {xs : List V} {o' : HO} (e : H a = some (.lst xs)) : Tups H (upd H a o') := Tups.wr e fun ys z => by cases z
theorem Tups.wd {a : Addr} {kvs : List (KD × V × V)} {o' : HO} (e : H a = some (.dG kvs)) : Tups H (upd H a o') := Tups.wr e fun ys z => by cases z
mutual
theorem DT.tups (t : Tups H H') : ∀ {x : V} {d : PyData}, DT H x d → DT H' x d
  | _, _, .non => .non
  | _, _, .bl b => .bl b
  | _, _, .int i => .int i
  | _, _, .str z => .str z
  | _, _, .tup e h => .tup (t _ _ e) (DTs.tups t h)
theorem DTs.tups (t : Tups H H') : ∀ {x : List V} {d : List PyData}, DTs H x d → DTs H' x d
  | _, _, .nil => .nil
  | _, _, .cons a b => .cons (DT.tups t a) (DTs.tups t b)
end
theorem GK.tups {k : KD} {v : V} (g : GK H k v) (t : Tups H H') : GK H' k v := g.stay t
end
def AN (P : V → Nat → Prop) (vs : List V) (js : List Nat) : Prop := vs.length = js.length ∧ ∀ (m : Nat) v i, vs[m]? = some v → js[m]? = some i → P v i
section
variable {P P' : V → Nat → Prop} {vs us : List V} {js ks : List Nat}
theorem AN.imp (h : AN P vs js) (f : ∀ v i, P v i → P' v i) : AN P' vs js := ⟨h.1, fun m v i e1 e2 => f _ _ (h.2 m v i e1 e2)⟩
theorem AN.nil : AN P [] [] := ⟨rfl, fun m v i z => by cases z⟩
theorem AN.app (h : AN P vs js) (g : AN P us ks) : AN P (vs ++ us) (js ++ ks) := by
  refine ⟨by rw [List.length_append, List.length_append, h.1, g.1], fun m v i e1 e2 => ?_⟩
  by_cases hm : m < vs.length
  · rw [List.getElem?_append_left hm] at e1
    rw [List.getElem?_append_left (by rw [← h.1]; exact hm)] at e2
    exact h.2 m v i e1 e2
  · rw [List.getElem?_append_right (by omega)] at e1
    rw [List.getElem?_append_right (by rw [← h.1]; omega), ← h.1] at e2
    exact g.2 _ v i e1 e2
theorem AN.one {v : V} {i : Nat} (h : P v i) : AN P [v] [i] := ⟨rfl, fun m v' i' e1 e2 => by
  cases m with
  | zero => cases e1; cases e2; exact h
  | succ m => cases e1⟩
theorem AN.snoc {v : V} {i : Nat} (h : AN P vs js) (hv : P v i) : AN P (vs ++ [v]) (js ++ [i]) := h.app (.one hv)
theorem AN.ix (h : AN P vs js) (ix : List Nat) (hix : ∀ i ∈ ix, i < vs.length) : AN P (ix.map fun i => vs.getD i .non) (ix.map fun i => js.getD i 0) := by
  refine ⟨by rw [List.length_map, List.length_map], fun m v i e1 e2 => ?_⟩
  rw [List.getElem?_map] at e1 e2
  cases e : ix[m]? with
  | none => rw [e] at e1; cases e1
  | some k =>
    rw [e] at e1 e2
    have hk := hix k (List.mem_of_getElem? e)
    have hk' : k < js.length := by rw [← h.1]; exact hk
    refine h.2 k v i ?_ ?_
    · rw [← Option.some.inj e1, List.getElem?_eq_getElem hk]
      show some vs[k] = some (vs.getD k .non)
      rw [List.getD_eq_getElem?_getD, List.getElem?_eq_getElem hk]; rfl
    · rw [← Option.some.inj e2, List.getElem?_eq_getElem hk']
      show some js[k] = some (js.getD k 0)
      rw [List.getD_eq_getElem?_getD, List.getElem?_eq_getElem hk']; rfl
theorem AN.at {m : Nat} {v : V} (h : AN P vs js) (e : vs[m]? = some v) : ∃ i, js[m]? = some i ∧ P v i := by
  have hm : m < js.length := by rw [← h.1]; exact (List.getElem?_eq_some_iff.mp e).1
  exact ⟨js[m], List.getElem?_eq_getElem hm, h.2 m v _ e (List.getElem?_eq_getElem hm)⟩
theorem AN.last {i : Nat} (h : AN P vs (js ++ [i])) : ∃ us x, vs = us ++ [x] ∧ AN P us js ∧ P x i := by
  have hl := h.1
  rw [List.length_append, List.length_singleton] at hl
  rcases List.eq_nil_or_concat vs with z | ⟨us, x, z⟩
  · rw [z] at hl; exact absurd hl (by simp)
  · rw [List.concat_eq_append] at z
    subst z
    have hu : us.length = js.length := by rw [List.length_append, List.length_singleton] at hl; omega
    refine ⟨us, x, rfl, ⟨hu, fun m v i e1 e2 => h.2 m v i ?_ ?_⟩, h.2 us.length x i (by simp) (by rw [hu]; simp)⟩
    · rw [List.getElem?_append_left (List.getElem?_eq_some_iff.mp e1).1]; exact e1
    · rw [List.getElem?_append_left (List.getElem?_eq_some_iff.mp e2).1]; exact e2
theorem AN.dts {H : Hp} {D : Nat → PyData} (hD : ∀ v i, P v i → DT H v (D i)) : ∀ {vs : List V} {js : List Nat}, AN P vs js → DTs H vs (js.map D)
  | [], [], _ => .nil
  | [], _ :: _, h => absurd h.1 (by simp)
  | _ :: _, [], h => absurd h.1 (by simp)
  | v :: vs, j :: js, h => .cons (hD _ _ (h.2 0 v j rfl rfl)) (AN.dts hD ⟨by have := h.1; simpa using this, fun m v i e1 e2 => h.2 (m + 1) v i (by simpa using e1) (by simpa using e2)⟩)
end
def kd (nk : Nat → List Key) : Option Nat → KD
  | none => .non
  | some i => .tup (nk i)
def NM (nk : Nat → List Key) (H : Hp) (v : V) (i : Nat) : Prop := GK H (.tup (nk i)) v
def PL (nk : Nat → List Key) (bh : Nat → Option Nat) (D : Nat → PyData) (H : Hp) (v : V) (k : Nat) : Prop := ∃ b vn vb vk, v = .ref b ∧ H b = some (.tup [vn, vb, vk]) ∧ NM nk H vn k ∧ GK H (kd nk (bh k)) vb ∧ DT H vk (D k)
section
variable {nk : Nat → List Key} {bh : Nat → Option Nat} {D : Nat → PyData} {H H' H0 : Hp} {v : V} {k : Nat}
theorem NM.tups (h : NM nk H v k) (t : Tups H H') : NM nk H' v k := GK.tups h t
theorem PL.tups (h : PL nk bh D H v k) (t : Tups H H') : PL nk bh D H' v k := by
  obtain ⟨b, vn, vb, vk, e, h1, h2, h3, h4⟩ := h
  exact ⟨b, vn, vb, vk, e, t _ _ h1, h2.tups t, h3.tups t, h4.tups t⟩
structure PLW (nk : Nat → List Key) (bh : Nat → Option Nat) (D : Nat → PyData) (ms : List Nat) (t : Nat) : Prop where
  few : ms.length < 64
  up : ms.Pairwise fun a b => ltD (D a) (D b) = true
  inj : ∀ i ∈ ms, ∀ j ∈ ms, nk i = nk j → i = j
  wf : Rga.WF (ms.reverse.map fun k => (k, bh k))
  keys : KeysAre (ms.map D) t
theorem KeysAre.perm {ds es : List PyData} {t : Nat} (h : KeysAre ds t) (p : es.Perm ds) : KeysAre es t :=
  ⟨lays_all fun x hx => by
    have := h.lay
    have hm := p.mem_iff.mp hx
    clear p
    induction ds with
    | nil => cases hm
    | cons d ds ih =>
      have hc : (d.canLay0 && PyData.canLayAll0 ds) = true := this
      rw [Bool.and_eq_true] at hc
      rcases List.mem_cons.mp hm with rfl | hm
      · exact hc.1
      · exact ih ⟨hc.2, fun d hd => h.kind d (List.mem_cons_of_mem _ hd), fun a ha b hb => h.one a (List.mem_cons_of_mem _ ha) b (List.mem_cons_of_mem _ hb), fun d hd => h.deep d (List.mem_cons_of_mem _ hd)⟩ hc.2 hm,
   fun d hd => h.kind d (p.mem_iff.mp hd), fun a ha b hb => h.one a (p.mem_iff.mp ha) b (p.mem_iff.mp hb), fun d hd => h.deep d (p.mem_iff.mp hd)⟩
def kids (bh : Nat → Option Nat) (ms : List Nat) (k : Option Nat) : List Nat := ms.filter fun m => decide (bh m = k)
theorem kids_snoc (bh : Nat → Option Nat) (ms : List Nat) (m : Nat) (k : Option Nat) : kids bh (ms ++ [m]) k = if bh m = k then kids bh ms k ++ [m] else kids bh ms k := by
  unfold kids
  rw [List.filter_append]
  by_cases e : bh m = k
  · rw [if_pos e, List.filter_cons_of_pos (by simpa using e)]; rfl
  · rw [if_neg e, List.filter_cons_of_neg (by simpa using e), List.filter_nil, List.append_nil]
theorem kids_rk (bh : Nat → Option Nat) (ms : List Nat) (k : Option Nat) : Rga.rk (ms.reverse.map fun m => (m, bh m)) k = (kids bh ms k).reverse := by
  unfold Rga.rk kids
  rw [List.filter_map, List.map_map, ← List.filter_reverse]
  show List.map (fun x => x) _ = _
  rw [List.map_id']
  rfl
structure FD (nk : Nat → List Key) (bh : Nat → Option Nat) (all ms : List Nat) (H0 H : Hp) (dq : Addr) (kvs : List (KD × V × V)) : Prop where
  has : H dq = some (.dG kvs)
  new : H0 dq = none
  each : ∀ k : Option Nat, (∀ i, k = some i → i ∈ all) → (vG kvs (kd nk k) = none ∧ kids bh ms k = []) ∨ ∃ q vs, vG kvs (kd nk k) = some (.ref q) ∧ H q = some (.lst vs) ∧ AN (NM nk H) vs (kids bh ms k) ∧ H0 q = none
  inj : ∀ k k' q, vG kvs k = some (.ref q) → vG kvs k' = some (.ref q) → k = k'
  live : ∀ k q, vG kvs k = some (.ref q) → ∃ xs, H q = some (.lst xs)
theorem FD.same {all ms : List Nat} {dq : Addr} {kvs : List (KD × V × V)} (h : FD nk bh all ms H0 H dq kvs) (s : Same H H') : FD nk bh all ms H0 H' dq kvs where
  has := s _ _ h.has
  new := h.new
  each := fun k hk => by
    rcases h.each k hk with z | ⟨q, vs, h1, h2, h3, h4⟩
    · exact .inl z
    · exact .inr ⟨q, vs, h1, s _ _ h2, h3.imp fun v i g => g.tups s.tups, h4⟩
  inj := h.inj
  live := fun k q e => let ⟨xs, z⟩ := h.live k q e; ⟨xs, s _ _ z⟩
theorem kd_inj {all : List Nat} (hi : ∀ i ∈ all, ∀ j ∈ all, nk i = nk j → i = j) {k k' : Option Nat} (h1 : ∀ i, k = some i → i ∈ all) (h2 : ∀ i, k' = some i → i ∈ all) (e : kd nk k = kd nk k') : k = k' := by
  cases k with
  | none => cases k' with
    | none => rfl
    | some j => cases e
  | some i => cases k' with
    | none => cases e
    | some j => rw [hi i (h1 i rfl) j (h2 j rfl) (KD.tup.inj e)]
theorem FD.old {all ms : List Nat} {dq q : Addr} {kvs : List (KD × V × V)} {m : Nat} {vn : V} {vs : List V} (h : FD nk bh all ms H0 H dq kvs) (hi : ∀ i ∈ all, ∀ j ∈ all, nk i = nk j → i = j) (hm : ∀ i, bh m = some i → i ∈ all)
    (e : vG kvs (kd nk (bh m)) = some (.ref q)) (eq : H q = some (.lst vs)) (hv : NM nk H vn m) : FD nk bh all (ms ++ [m]) H0 (upd H q (.lst (vs ++ [vn]))) dq kvs where
  has := by rw [upd_ne (fun z => by rw [← z, h.has] at eq; cases eq)]; exact h.has
  new := h.new
  inj := h.inj
  live := fun k q' e' => by
    by_cases z : q' = q
    · subst z; exact ⟨_, upd_same⟩
    · obtain ⟨xs, y⟩ := h.live k q' e'
      exact ⟨xs, by rw [upd_ne z]; exact y⟩
  each := fun k hk => by
    have tw : Tups H (upd H q (.lst (vs ++ [vn]))) := Tups.wl eq
    rw [kids_snoc]
    by_cases ek : bh m = k
    · subst ek
      rw [if_pos rfl]
      rcases h.each _ hk with ⟨z, _⟩ | ⟨q', vs', h1, h2, h3, h4⟩
      · rw [z] at e; cases e
      · rw [e] at h1
        cases h1
        rw [eq] at h2
        cases h2
        exact .inr ⟨q, _, e, upd_same, (h3.snoc hv).imp fun v i g => g.tups tw, h4⟩
    · rw [if_neg ek]
      rcases h.each k hk with z | ⟨q', vs', h1, h2, h3, h4⟩
      · exact .inl z
      · refine .inr ⟨q', vs', h1, ?_, h3.imp fun v i g => g.tups tw, h4⟩
        have nq : q' ≠ q := fun z => ek (kd_inj hi hm hk (h.inj _ _ q e (by rw [← z]; exact h1)))
        rw [upd_ne nq]
        exact h2
theorem FD.first {all ms : List Nat} {dq q : Addr} {kvs : List (KD × V × V)} {m : Nat} {vn vk : V} (h : FD nk bh all ms H0 H dq kvs) (hi : ∀ i ∈ all, ∀ j ∈ all, nk i = nk j → i = j) (hm : ∀ i, bh m = some i → i ∈ all)
    (e : vG kvs (kd nk (bh m)) = none) (hq0 : H0 q = none) (eq : H q = some (.lst [])) (hqn : ∀ k, vG kvs k ≠ some (.ref q)) (hv : NM nk H vn m) : FD nk bh all (ms ++ [m]) H0 (upd (upd H dq (.dG (pG kvs (kd nk (bh m)) vk (.ref q)))) q (.lst [vn])) dq (pG kvs (kd nk (bh m)) vk (.ref q)) where
  has := by rw [upd_ne (fun z => by rw [← z, h.has] at eq; cases eq), upd_same]
  new := h.new
  inj := fun k k' q' h1 h2 => by
    rw [vG_put] at h1 h2
    by_cases e1 : k = kd nk (bh m)
    · by_cases e2 : k' = kd nk (bh m)
      · rw [e1, e2]
      · rw [if_pos e1] at h1
        rw [if_neg e2] at h2
        cases h1
        exact absurd h2 (hqn k')
    · rw [if_neg e1] at h1
      by_cases e2 : k' = kd nk (bh m)
      · rw [if_pos e2] at h2
        cases h2
        exact absurd h1 (hqn k)
      · rw [if_neg e2] at h2
        exact h.inj _ _ _ h1 h2
  live := fun k q' e' => by
    by_cases z : q' = q
    · subst z; exact ⟨_, upd_same⟩
    · rw [vG_put] at e'
      by_cases ek : k = kd nk (bh m)
      · rw [if_pos ek] at e'
        cases e'
        exact absurd rfl z
      · rw [if_neg ek] at e'
        obtain ⟨xs, y⟩ := h.live k q' e'
        have n2 : q' ≠ dq := fun z => by rw [z, h.has] at y; cases y
        exact ⟨xs, by rw [upd_ne z, upd_ne n2]; exact y⟩
  each := fun k hk => by
    have nq : q ≠ dq := fun z => by rw [z, h.has] at eq; cases eq
    have t1 : Tups H (upd H dq (.dG (pG kvs (kd nk (bh m)) vk (.ref q)))) := Tups.wd h.has
    have eq1 : (upd H dq (.dG (pG kvs (kd nk (bh m)) vk (.ref q)))) q = some (.lst []) := by rw [upd_ne nq]; exact eq
    have tw := t1.trans (Tups.wl (o' := .lst [vn]) eq1)
    rw [kids_snoc, vG_put]
    by_cases ek : bh m = k
    · subst ek
      rw [if_pos rfl, if_pos rfl]
      rcases h.each _ hk with ⟨_, z⟩ | ⟨q', vs', h1, _⟩
      · rw [z]
        exact .inr ⟨q, [vn], rfl, upd_same, .one (hv.tups tw), hq0⟩
      · rw [e] at h1; cases h1
    · rw [if_neg ek, if_neg (fun z => ek (kd_inj hi hm hk z.symm))]
      rcases h.each k hk with z | ⟨q', vs', h1, h2, h3, h4⟩
      · exact .inl z
      · refine .inr ⟨q', vs', h1, ?_, h3.imp fun v i g => g.tups tw, h4⟩
        have n1 : q' ≠ q := fun z => hqn _ (z ▸ h1)
        have n2 : q' ≠ dq := fun z => by rw [z, h.has] at h2; cases h2
        rw [upd_ne n1, upd_ne n2]
        exact h2
theorem FD.get {all ms : List Nat} {dq z : Addr} {kvs : List (KD × V × V)} (h : FD nk bh all ms H0 H dq kvs) (ez : H z = some (.lst [])) (k : Option Nat) (hk : ∀ i, k = some i → i ∈ all) : ∃ a vs, (vG kvs (kd nk k)).getD (.ref z) = .ref a ∧ H a = some (.lst vs) ∧ AN (NM nk H) vs (kids bh ms k) := by
  rcases h.each k hk with ⟨h1, h2⟩ | ⟨q, vs, h1, h2, h3, _⟩
  · exact ⟨z, [], by rw [h1]; rfl, ez, by rw [h2]; exact .nil⟩
  · exact ⟨q, vs, by rw [h1]; rfl, h2, h3⟩
end
end L2
namespace Rga
theorem wf_in : ∀ {qs : List Pl}, WF qs → ∀ {k b : Nat}, (k, some b) ∈ qs → b ∈ nms qs
  | p :: qs, h, k, b, hm => by
    rcases List.mem_cons.mp hm with z | z
    · exact List.mem_cons_of_mem _ (h.2.1 b (by rw [← z]))
    · exact List.mem_cons_of_mem _ (wf_in h.2.2 z)
theorem dfs_len {f : Option Nat → List Nat} : ∀ {st out : List Nat}, Dfs f st out → st.length ≤ out.length
  | _, _, .nil => Nat.le_refl _
  | _, _, .cons (x := x) d => by
    have := dfs_len d
    rw [List.length_append] at this
    rw [List.length_cons, List.length_cons]
    omega
def qsOf (bh : Nat → Option Nat) (ms : List Nat) : List Pl := ms.reverse.map fun k => (k, bh k)
theorem nms_qs (bh : Nat → Option Nat) (ms : List Nat) : nms (qsOf bh ms) = ms.reverse := by
  unfold nms qsOf
  rw [List.map_map]
  show List.map (fun x => x) _ = _
  rw [List.map_id']
theorem qs_mem {bh : Nat → Option Nat} {ms : List Nat} {m : Nat} (h : m ∈ ms) : (m, bh m) ∈ qsOf bh ms := List.mem_map.mpr ⟨m, List.mem_reverse.mpr h, rfl⟩
theorem bh_in {bh : Nat → Option Nat} {ms : List Nat} (w : WF (qsOf bh ms)) {m i : Nat} (hm : m ∈ ms) (e : bh m = some i) : i ∈ ms := by
  have := wf_in w (k := m) (b := i) (by rw [← e]; exact qs_mem hm)
  rw [nms_qs] at this
  exact List.mem_reverse.mp this
theorem row_mem {bh : Nat → Option Nat} {ms : List Nat} (w : WF (qsOf bh ms)) {x : Nat} (h : x ∈ rowR (qsOf bh ms)) : x ∈ ms := by
  have := (row_perm w).mem_iff.mp h
  rw [nms_qs] at this
  exact List.mem_reverse.mp this
theorem row_len {bh : Nat → Option Nat} {ms : List Nat} (w : WF (qsOf bh ms)) : (rowR (qsOf bh ms)).length = ms.length := by
  rw [(row_perm w).length_eq, nms_qs, List.length_reverse]
end Rga
set_option maxHeartbeats 4000000
namespace L2
open PySem PySem.Spec PySem.W PyProof.Rows
def del (H : Hp) (p : Addr) : Hp := fun b => if b = p then none else H b
theorem del_at {H : Hp} {p : Addr} : del H p p = none := if_pos rfl
theorem del_ne {H : Hp} {p b : Addr} (h : b ≠ p) : del H p b = H b := if_neg h
theorem del_same {H : Hp} {p : Addr} : Same (del H p) H := fun b u q => by
  by_cases e : b = p
  · subst e; rw [del_at] at q; cases q
  · rw [del_ne e] at q; exact q
theorem Tups.cut {H H' : Hp} {p : Addr} {xs : List V} (e : H p = some (.lst xs)) (s : Same (del H p) H') : Tups H H' := fun b ys q => s _ _ (by rw [del_ne (tup_ne q e fun zs z => by cases z)]; exact q)
end L2
set_option maxHeartbeats 4000000
namespace Rga
theorem wf_range {bh : Nat → Option Nat} : ∀ {n : Nat}, (∀ i, i < n → ∀ b, bh i = some b → b < i) → WF (qsOf bh (List.range n))
  | 0, _ => trivial
  | n + 1, h => by
    have e : qsOf bh (List.range (n + 1)) = (n, bh n) :: qsOf bh (List.range n) := by
      unfold qsOf
      rw [List.range_succ, List.reverse_append]
      rfl
    rw [e]
    refine ⟨?_, fun b hb => ?_, wf_range fun i hi => h i (by omega)⟩
    · rw [nms_qs, List.mem_reverse, List.mem_range]
      exact Nat.lt_irrefl n
    · rw [nms_qs, List.mem_reverse, List.mem_range]
      exact h n (by omega) b hb
end Rga
namespace L2
open PySem PySem.Spec PySem.W PyProof.Rows Rga
section
variable {P : V → Nat → Prop} {vs : List V} {js : List Nat}
end
theorem ltD_int2 {x y : Int} {r r' : List PyData} (h : x < y) : ltDs (.int x :: r) (.int y :: r') = true := by
  rw [ltDs, if_neg (fun z => by
    have := (sk_eq _ _ rfl).mp z
    injection this with this
    omega)]
  exact decide_eq_true h
theorem ltD_int3 {x : Int} {r r' : List PyData} (h : ltDs r r' = true) : ltDs (.int x :: r) (.int x :: r') = true := by
  rw [ltDs, if_pos ((sk_eq _ _ rfl).mpr rfl)]
  exact h
def RkD (d : PyData) : Prop := (∃ a b : Int, d = .tuple [.int a, .int b]) ∨ ∃ a b c : Int, d = .tuple [.int a, .int b, .int c]
theorem rk_keys {ds : List PyData} (h : ∀ d ∈ ds, RkD d) : KeysAre ds 2 := by
  refine ⟨lays_all fun d hd => ?_, fun d hd => ?_, fun x hx y hy => ?_, fun d hd => ?_⟩
  · rcases h d hd with ⟨_, _, rfl⟩ | ⟨_, _, _, rfl⟩ <;> rfl
  · rcases h d hd with ⟨_, _, rfl⟩ | ⟨_, _, _, rfl⟩ <;> trivial
  · rcases h x hx with ⟨_, _, rfl⟩ | ⟨_, _, _, rfl⟩ <;> rcases h y hy with ⟨_, _, rfl⟩ | ⟨_, _, _, rfl⟩ <;> rfl
  · rcases h d hd with ⟨_, _, rfl⟩ | ⟨_, _, _, rfl⟩ <;> exact (by decide : 1 ≤ 60)
end L2
set_option maxHeartbeats 4000000
namespace L2
open PySem PySem.Spec PySem.W PyProof.Rows
def GtAt (A : Around) (s : Shared) (x y : Value) (b : Bool) : Prop := ∀ (prog : Program) (w : World) (E : Value → Shared → Prop) (Q : Value → Shared → Prop), Q (.bool b) s → wpAny (model prog w) A (richCompare .Gt x y) Q E s
open SeqAt in
theorem tuple_gtAt (l b : Addr) (us vs : Array Value) (n n2 : Nat) (dd dd2 : Option Addr) (sl sl2 : Array (Option Value)) (e : Nat → Bool) (c : Bool) :
    Meets (Builtin.«tuple.__gt__» ⟨[.ref l, .ref b], []⟩)
      (fun A R s => s.heap.get? l = some { cls := .type "tuple", dict := dd, data := .seq us n, slots := sl } ∧ s.heap.get? b = some { cls := .type "tuple", dict := dd2, data := .seq vs n2, slots := sl2 } ∧
        (∀ j (h1 : j < us.size) (h2 : j < vs.size), EqAt A.in1 s us[j] vs[j] (e j)) ∧
        (∀ i (h1 : i < us.size) (h2 : i < vs.size), (∀ j, j < i → e j = true) → e i = false → GtAt A.in1 s us[i] vs[i] c) ∧
        ((∀ j, j < min us.size vs.size → e j = true) → c = decide (vs.size < us.size)) ∧ R (.ok (.ret (.bool c))) s) :=
  .of_wp fun prog w A R s h => by
    obtain ⟨hp, g, d, tk, os⟩ := s
    obtain ⟨hl, hb, he, hlt, hall, h⟩ := h
    have f2 := AutoSeq1.sub_tuple_tuple
    have hZ : (us.toList.zip vs.toList).length = min us.size vs.size := by simp
    wp_walk using wpAny_loadPart' hl, wpAny_loadPart' hb, wpAny_forIn_list _ (fun rest b s' => b.1 = none ∧ s' = ⟨hp, g, d, tk, os⟩ ∧ ∃ i, rest = (us.toList.zip vs.toList).drop i ∧ ∀ j, j < i → e j = true) _
    case turn =>
      rintro ⟨y, x⟩ rest b s' ⟨hb', rfl, i, hz, hi⟩
      have hlt' : i < (us.toList.zip vs.toList).length := by
        rcases Nat.lt_or_ge i (us.toList.zip vs.toList).length with h' | h'
        · exact h'
        · rw [List.drop_of_length_le h'] at hz; cases hz
      have h1 : i < us.size := by omega
      have h2 : i < vs.size := by omega
      rw [List.drop_eq_getElem_cons hlt'] at hz
      injection hz with hyx hrest
      have hy : y = us[i] := by have := congrArg Prod.fst hyx; simpa using this
      have hx : x = vs[i] := by have := congrArg Prod.snd hyx; simpa using this
      subst hy hx
      refine wpAny_bind (he i h1 h2 prog w _ _ ?_)
      cases hy : e i with
      | true =>
        wp_walk
        exact ⟨rfl, rfl, i + 1, hrest, fun j hj => by
          by_cases z : j = i
          · rw [z]; exact hy
          · exact hi j (by omega)⟩
      | false =>
        have q := hlt i h1 h2 hi hy
        dsimp only
        rw [if_pos (by rfl)]
        refine wpAny_bind (wpAny_rule (wpAny_bind (q prog w _ _ ?_)))
        exact wpAny_bind (wpAny_pure (wpAny_pure (wpAny_pure ⟨_, rfl, h⟩)))
    case fin =>
      rintro ⟨b1, b2⟩ s' ⟨hb', rfl, i, hz, hi⟩
      simp only at hb'
      subst hb'
      have hge : min us.size vs.size ≤ i := by
        rcases Nat.lt_or_ge i (us.toList.zip vs.toList).length with h' | h'
        · rw [List.drop_eq_getElem_cons h'] at hz; cases hz
        · omega
      have := hall fun j hj => hi j (by omega)
      wp_walk
      exact ⟨_, rfl, by rw [this] at h; simpa [Builtin.Tuple.tupleCompareSizes] using h⟩
    case h =>
      exact ⟨rfl, rfl, 0, rfl, fun j hj => absurd hj (Nat.not_lt_zero _)⟩
theorem GtAt.tuples {A : Around} {s : Shared} {l b : Addr} {us vs : Array Value} {e : Nat → Bool} {c : Bool} (hl : s.heap.IsTuple l us) (hb : s.heap.IsTuple b vs) (hu : A.units < cLine)
    (he : ∀ j (h1 : j < us.size) (h2 : j < vs.size), SeqAt.EqAt A.in1 s us[j] vs[j] (e j)) (hlt : ∀ i (h1 : i < us.size) (h2 : i < vs.size), (∀ j, j < i → e j = true) → e i = false → GtAt A.in1 s us[i] vs[i] c)
    (hall : (∀ j, j < min us.size vs.size → e j = true) → c = decide (vs.size < us.size)) : GtAt A s (.ref l) (.ref b) c := fun prog w E Q h => by
  obtain ⟨⟨cls, dd, data, sl⟩, ho, hc, n, hd⟩ := id hl
  obtain ⟨⟨cls2, dd2, data2, sl2⟩, ho2, hc2, n2, hd2⟩ := id hb
  simp only at hc hd hc2 hd2
  subst hc hd hc2 hd2
  exact richCompare_meets_room (op := .Gt) ⟨_, ho, rfl⟩ ⟨_, ho2, rfl⟩ F.slot_tuple_gt F.entry_tuple_gt (F.args_tuple_gt_2 _ _) (tuple_gtAt l b us vs n n2 dd dd2 sl sl2 e c)
    ⟨ho, ho2, he, hlt, hall, show Value.bool c ≠ Value.notImplemented ∧ Q (.bool c) s from ⟨(fun x => nomatch x), h⟩⟩ hu
theorem GtAt.ints {A : Around} {s : Shared} (i j : Int) (t u : Tok) : GtAt A s (.int i t) (.int j u) (decide (j < i)) := fun prog w E Q h =>
  richCompare_gives (op := .Gt) (typeIs_int s _ t) (typeIs_int s _ u) F.slot_int_gt F.entry_int_gt (F.args_int_gt_2 _ _) (gives_int_gt _ _ t u) (fun x => nomatch x) h
theorem intT_at {ns : List Int} {i : Nat} (h : i < (ns.map PyData.int).length) : ∃ k, (ns.map PyData.int).getD i .none = .int k := by
  rw [List.length_map] at h
  exact ⟨ns[i], by rw [List.getD_eq_getElem?_getD, List.getElem?_map, List.getElem?_eq_getElem h]; rfl⟩
theorem ints_lay : ∀ ns : List Int, PyData.canLayAll0 (ns.map PyData.int) = true
  | [] => rfl
  | n :: ns => by
    show (true && PyData.canLayAll0 (ns.map PyData.int)) = true
    rw [ints_lay ns]; rfl
theorem ints_deep : ∀ ns : List Int, PyData.depthAll (ns.map PyData.int) = 0
  | [] => rfl
  | n :: ns => by
    show max 0 (PyData.depthAll (ns.map PyData.int)) = 0
    rw [ints_deep ns]; rfl
theorem ints_sk : ∀ ns ms : List Int, sks (ns.map PyData.int) (ms.map PyData.int) = true
  | [], _ => rfl
  | _ :: _, [] => rfl
  | n :: ns, m :: ms => by
    show (true && sks (ns.map PyData.int) (ms.map PyData.int)) = true
    rw [ints_sk ns ms]; rfl
open SeqAt in
theorem pairEq_symm : ∀ (ns ms : List Int) (j : Nat), pairEq (ns.map PyData.int) (ms.map PyData.int) j = pairEq (ms.map PyData.int) (ns.map PyData.int) j := fun ns ms j => by
  unfold pairEq
  have sd : ∀ a b : PyData, (∃ x, a = .int x) ∨ a = .none → (∃ x, b = .int x) ∨ b = .none → PyData.eqv a b = PyData.eqv b a := fun a b ha hb => by
    rcases ha with ⟨x, rfl⟩ | rfl <;> rcases hb with ⟨y, rfl⟩ | rfl
    · by_cases e : x = y
      · rw [e]
      · have h1 : PyData.eqv (.int x) (.int y) = false := by
          cases q : PyData.eqv (.int x) (.int y) with
          | false => rfl
          | true => have := (sk_eq _ _ rfl).mp q; injection this with this; exact absurd this e
        have h2 : PyData.eqv (.int y) (.int x) = false := by
          cases q : PyData.eqv (.int y) (.int x) with
          | false => rfl
          | true => have := (sk_eq _ _ rfl).mp q; injection this with this; exact absurd this.symm e
        rw [h1, h2]
    · rfl
    · rfl
    · rfl
  have kind : ∀ l : List Int, (∃ x, (l.map PyData.int).getD j .none = .int x) ∨ (l.map PyData.int).getD j .none = .none := fun l => by
    by_cases h : j < (l.map PyData.int).length
    · exact .inl (intT_at h)
    · exact .inr (by rw [List.getD_eq_getElem?_getD, List.getElem?_eq_none (by omega)]; rfl)
  exact sd _ _ (kind ns) (kind ms)
open SeqAt in
theorem gt_reads {A : Around} {s : Shared} {a b : Value} {as bs : List Addr} {ns ms : List Int} (ra : Reads s.heap a (.tuple (ns.map PyData.int)) as) (rb : Reads s.heap b (.tuple (ms.map PyData.int)) bs) (hu : A.units + 2 < cLine) :
    GtAt A s a b (ltD (.tuple (ms.map PyData.int)) (.tuple (ns.map PyData.int))) := by
  cases ra with
  | tuple h1 h2 h3 h4 =>
    cases rb with
    | tuple k1 k2 k3 k4 =>
      rename_i l o us m b' o' vs m'
      have lx := ReadsAll.length _ _ _ h4
      have ly := ReadsAll.length _ _ _ k4
      rw [Array.length_toList] at lx ly
      rw [ltD]
      have eq' : ∀ j (g1 : j < us.size) (g2 : j < vs.size), EqAt A.in1 s us[j] vs[j] (pairEq (ms.map PyData.int) (ns.map PyData.int) j) := fun j g1 g2 => by
        obtain ⟨p1, r1⟩ := reads_at (i := j) (by rw [Array.length_toList]; exact g1) h4
        obtain ⟨p2, r2⟩ := reads_at (i := j) (by rw [Array.length_toList]; exact g2) k4
        have dj := depth_at (ns.map PyData.int) j (by omega)
        rw [ints_deep] at dj
        have := eqAt_reads ((ns.map PyData.int).getD j .none) ((ms.map PyData.int).getD j .none) A.in1 s _ _ _ _ r1 r2 (lays_at (ints_lay ns) (by omega)) (lays_at (ints_lay ms) (by omega)) (by show A.units + 1 + _ < cLine; omega)
        simp only [Array.getElem_toList] at this
        rw [← pairEq_symm]
        exact this
      refine GtAt.tuples ⟨_, h1, h2, _, h3⟩ ⟨_, k1, k2, _, k3⟩ (by omega) eq' (fun i g1 g2 hj hf => ?_) fun hj => ?_
      · obtain ⟨p1, r1⟩ := reads_at (i := i) (by rw [Array.length_toList]; exact g1) h4
        obtain ⟨p2, r2⟩ := reads_at (i := i) (by rw [Array.length_toList]; exact g2) k4
        rw [ltDs_at _ _ i (by omega) (by omega) hj hf]
        obtain ⟨x, ex⟩ := intT_at (ns := ns) (i := i) (by omega)
        obtain ⟨y, ey⟩ := intT_at (ns := ms) (i := i) (by omega)
        rw [ex] at r1 ⊢
        rw [ey] at r2 ⊢
        simp only [Array.getElem_toList] at r1 r2
        generalize us[i] = u0 at r1 ⊢
        generalize vs[i] = v0 at r2 ⊢
        cases r1
        cases r2
        exact GtAt.ints _ _ _ _
      · rw [ltDs_all _ _ fun j h => hj j (by omega), lx, ly]
section
variable {prog : Program} {w : World} {A : Around} {R : Result → Shared → Prop} {I : Addr} {fp wr : List Addr} {n : Nat} {P : Nat → Value → Prop} {St : Nat → Heap → Prop} {G : Heap → Prop}
theorem max_turns (W : Walks prog w A.in1 I fp wr n P St) (bt : Nat → Nat → Bool) (S : Addr) (hSf : S ∉ fp) (hG : ∀ h h', G h → (∀ b o, b ∉ wr → b ≠ S → h.get? b = some o → h'.get? b = some o) → G h') (hcmp : ∀ i j vi vj s, G s.heap → P i vi → P j vj → GtAt A.in1 s vi vj (bt i j)) :
    ∀ (k j : Nat) (s : Shared) (vb : Value) (c : Nat), n - (j + 1) = k → j + 1 ≤ n → St (j + 1) s.heap → G s.heap → P (argBest bt j) vb →
    s.heap.get? S = some { cls := .type "list", dict := none, data := .seq #[vb, vb] c, slots := #[] } →
    (∀ v h' tk, P (argBest bt (n - 1)) v → (∀ b o, b ∉ wr → b ≠ S → s.heap.get? b = some o → h'.get? b = some o) → R (.ok (.ret v)) { s with heap := h', toks := tk }) →
    codeAny (model prog w) A (.builtin "max.loop" ⟨[.ref I, .none, .ref S], []⟩) R s := by
  have hSw : S ∉ wr := fun h => hSf (W.sub _ h)
  have hname : (toString "max" ++ toString ".loop" : String) = "max.loop" := by decide
  intro k
  induction k with
  | zero =>
    intro j s vb c hk hj hst hg hPb hS hR
    have hin : j + 1 = n := by omega
    refine codeAny_builtin F.entry_max_loop ?_
    rw [Around.under_plainId F.plain_max_loop _]
    show wpAny _ A.in1 (seqItems? (.ref S) >>= _) _ _ s
    refine wpAny_bind (wpAny_seqItems hS rfl ?_)
    show wpAny _ A.in1 (tryCatch (pyNext (.ref I)) _ >>= _) _ _ s
    refine wpAny_bind (wpAny_tryCatch (W.done s _ _ (hin ▸ hst) fun h' tk hk' => ?_))
    have hS' := hk' S _ hSw hS
    show wpAny _ A.in1 (updateSeq S (fun _ => #[]) >>= _) _ _ _
    refine wpAny_bind ?_
    refine wpAny_updateSeq hS' rfl (wpAny_bind (wpAny_letGo (wpAny_pure ?_)))
    refine hR vb _ tk (by rw [← hin]; exact hPb) fun b o hbw hbS e => (Heap.get?_update_other _ _ (Ne.symm hbS)).trans (hk' b o hbw e)
  | succ k ih =>
    intro j s vb c hk hj hst hg hPb hS hR
    have hlt : j + 1 < n := by omega
    refine codeAny_builtin F.entry_max_loop ?_
    rw [Around.under_plainId F.plain_max_loop _]
    show wpAny _ A.in1 (seqItems? (.ref S) >>= _) _ _ s
    refine wpAny_bind (wpAny_seqItems hS rfl ?_)
    show wpAny _ A.in1 (tryCatch (pyNext (.ref I)) _ >>= _) _ _ s
    refine wpAny_bind (wpAny_tryCatch (W.item (j + 1) s _ _ hlt hst fun v h' tk hP hst' hk' => ?_))
    have hS' := hk' S _ hSw hS
    have hg' : G h' := hG _ _ hg fun b o hb _ e => hk' b o hb e
    show wpAny _ A.in1 (tryCatch (holding [v, v] (richCompare .Gt v vb >>= _)) _ >>= _) _ _ _
    refine wpAny_bind (wpAny_tryCatch (wpAny_holding (wpAny_bind (hcmp (j + 1) (argBest bt j) v vb { s with heap := h', toks := tk } hg' hP hPb prog w _ _ ?_))))
    refine wpAny_bind (wpAny_holding (wpAny_truthy_bool ?_))
    refine wpAny_bind (wpAny_letGo (wpAny_pure ?_))
    cases hb : bt (j + 1) (argBest bt j) with
    | true =>
      simp only [if_true]
      refine wpAny_bind ?_
      refine wpAny_updateSeq hS' rfl (wpAny_bind (wpAny_letGo ?_))
      rw [hname]
      refine wpAny_pure ⟨plainId_quiet F.plain_max_loop _, ih (j + 1) _ v _ (by omega) hlt (W.frame _ _ _ hst' fun b hbf o e => ?_) (hG _ _ hg' fun b o _ hbS e => (Heap.get?_update_other _ _ (Ne.symm hbS)).trans e) (by simp only [argBest, hb, if_true]; exact hP) (Heap.get?_update_self _ hS' rfl)
        fun v' h'' tk'' hP' hk'' => ?_⟩
      · exact (Heap.get?_update_other _ _ (fun h : S = b => hSf (by rw [h]; exact hbf))).trans e
      · exact hR v' h'' tk'' hP' fun b o hbw hbS e => hk'' b o hbw hbS ((Heap.get?_update_other _ _ (Ne.symm hbS)).trans (hk' b o hbw e))
    | false =>
      simp only [Bool.false_eq_true, if_false]
      refine wpAny_bind (wpAny_letGo ?_)
      rw [hname]
      refine wpAny_pure ⟨plainId_quiet F.plain_max_loop _, ih (j + 1) _ vb c (by omega) hlt hst' hg' (by simp only [argBest, hb, Bool.false_eq_true, if_false]; exact hPb) hS' fun v' h'' tk'' hP' hk'' => ?_⟩
      exact hR v' h'' tk'' hP' fun b o hbw hbS e => hk'' b o hbw hbS (hk' b o hbw e)
theorem max_first (W : Walks prog w A.in1 I fp wr n P St) (bt : Nat → Nat → Bool) (S : Addr) (hSf : S ∉ fp) (hG : ∀ h h', G h → (∀ b o, b ∉ wr → b ≠ S → h.get? b = some o → h'.get? b = some o) → G h') (hcmp : ∀ i j vi vj s, G s.heap → P i vi → P j vj → GtAt A.in1 s vi vj (bt i j)) (hn : 0 < n) {s : Shared} {c : Nat} (hst : St 0 s.heap) (hg : G s.heap)
    (hS : s.heap.get? S = some { cls := .type "list", dict := none, data := .seq #[] c, slots := #[] })
    (hR : ∀ v h' tk, P (argBest bt (n - 1)) v → (∀ b o, b ∉ wr → b ≠ S → s.heap.get? b = some o → h'.get? b = some o) → R (.ok (.ret v)) { s with heap := h', toks := tk }) :
    codeAny (model prog w) A (.builtin "max.loop" ⟨[.ref I, .none, .ref S], []⟩) R s := by
  have hSw : S ∉ wr := fun h => hSf (W.sub _ h)
  have hname : (toString "max" ++ toString ".loop" : String) = "max.loop" := by decide
  refine codeAny_builtin F.entry_max_loop ?_
  rw [Around.under_plainId F.plain_max_loop _]
  show wpAny _ A.in1 (seqItems? (.ref S) >>= _) _ _ s
  refine wpAny_bind (wpAny_seqItems hS rfl ?_)
  show wpAny _ A.in1 (tryCatch (pyNext (.ref I)) _ >>= _) _ _ s
  refine wpAny_bind (wpAny_tryCatch (W.item 0 s _ _ hn hst fun v h' tk hP hst' hk' => ?_))
  have hS' := hk' S _ hSw hS
  have hg' : G h' := hG _ _ hg fun b o hb _ e => hk' b o hb e
  show wpAny _ A.in1 (updateSeq S (fun _ => #[v, v]) >>= _) _ _ _
  refine wpAny_bind ?_
  refine wpAny_updateSeq hS' rfl ?_
  rw [hname]
  refine wpAny_pure ⟨plainId_quiet F.plain_max_loop _, max_turns W bt S hSf hG hcmp _ 0 _ v _ rfl hn (W.frame _ _ _ hst' fun b hbf o e => ?_) (hG _ _ hg' fun b o _ hbS e => (Heap.get?_update_other _ _ (Ne.symm hbS)).trans e) hP (Heap.get?_update_self _ hS' rfl) fun v' h'' tk'' hP' hk'' => ?_⟩
  · exact (Heap.get?_update_other _ _ (fun h : S = b => hSf (by rw [h]; exact hbf))).trans e
  · exact hR v' h'' tk'' hP' fun b o hbw hbS e => hk'' b o hbw hbS ((Heap.get?_update_other _ _ (Ne.symm hbS)).trans (hk' b o hbw e))
end
theorem best_all {bt : Nat → Nat → Bool} (irr : ∀ i, bt i i = false) (tr : ∀ i j k, bt i j = true → bt j k = true → bt i k = true) : ∀ k j, j ≤ k → bt j (argBest bt k) = false
  | 0, j, h => by
    obtain rfl : j = 0 := by omega
    exact irr 0
  | k + 1, j, h => by
    unfold argBest
    cases hb : bt (k + 1) (argBest bt k) with
    | true =>
      rw [if_pos rfl]
      by_cases z : j = k + 1
      · rw [z]; exact irr _
      · have := best_all irr tr k j (by omega)
        cases q : bt j (k + 1) with
        | false => rfl
        | true => rw [tr _ _ _ q hb] at this; cases this
    | false =>
      rw [if_neg (by decide)]
      by_cases z : j = k + 1
      · rw [z]; exact hb
      · exact best_all irr tr k j (by omega)
theorem best_le (bt : Nat → Nat → Bool) : ∀ k, argBest bt k ≤ k
  | 0 => Nat.le_refl _
  | k + 1 => by
    unfold argBest
    have := best_le bt k
    split <;> omega
def rMaxT (K : PySem.W.Frag) : List V → Hp → VK → Prop := fun xs H Q => ∃ p ys, ∃ nss : List (List Int), xs = [.ref p] ∧ SqL K H p ys ∧ DVs K H ys (nss.map fun ns => .tuple (ns.map PyData.int)) ∧ 0 < ys.length ∧
  ∀ (m : Nat) v ns, ys[m]? = some v → nss[m]? = some ns → (∀ ks ∈ nss, ltD (.tuple (ns.map PyData.int)) (.tuple (ks.map PyData.int)) = false) → Q v H
section
variable {X : Cx}
theorem call_maxT (hc : X.calm = true) (hu : X.A.units + 3 + 61 < cLine) : CallR X (.builtin "max") (rMaxT X.K) := by
  intro pins s σ H xs us Q I r h
  obtain ⟨p, ys, nss, rfl, hq, hd, hn, q⟩ := h
  obtain ⟨u, rfl, ru⟩ := vals1 r
  cases ru
  obtain ⟨its, rv, pl, hz⟩ := I.list hq
  have hl := rv.length
  have hdl := dvs_length hd
  rw [List.length_map] at hdl
  obtain ⟨as, ra⟩ := hd.reads I rv
  have hh := I.ok.hd hc
  have hil := pl.isList
  have hlt : p < s.heap.objs.size := by obtain ⟨_, e, _⟩ := hil; exact Heap.lt_size e
  have hname : (toString "max" ++ toString ".loop" : String) = "max.loop" := by decide
  let D : Nat → PyData := fun i => .tuple ((nss.getD i []).map PyData.int)
  have look : ∀ (h' : Heap), Ext s.heap h' → ∀ i v, its.toArray[i]? = some v → ∃ bs, Reads h' v (D i) bs := fun h' x i v e => by
    rw [List.getElem?_toArray] at e
    obtain ⟨hi, e⟩ := List.getElem?_eq_some_iff.mp e
    obtain ⟨bs, z⟩ := reads_at hi (readsA_ext x ra)
    have ed : (nss.map fun ns => PyData.tuple (ns.map PyData.int)).getD i .none = D i := by
      rw [List.getD_eq_getElem?_getD, List.getElem?_map, List.getElem?_eq_getElem (by omega : i < nss.length)]
      show _ = PyData.tuple ((nss.getD i []).map PyData.int)
      rw [List.getD_eq_getElem?_getD, List.getElem?_eq_getElem (by omega : i < nss.length)]
      rfl
    rw [e, ed] at z
    exact ⟨bs, z⟩
  refine call_function_tree F.kind_max F.plain_max F.entry_max (F.args_max1 _) ?_
  show wpAny _ X.A.in1 (Builtin.Builtins.bindParams "max" ["key", "default"] 0 ⟨[], []⟩ >>= _) _ _ s
  refine wpAny_bind (wpAny_of_eq (show Builtin.Builtins.bindParams "max" ["key", "default"] 0 ⟨[], []⟩ = pure [none, none] from rfl) ?_)
  refine wpAny_bind (wpAny_pure ?_)
  refine wpAny_bind (wpAny_pyIter_list hil (wpAny_bind (wpAny_newObj_type ?_)))
  rw [hname]
  have e0 : ∀ b o, s.heap.get? b = some o → b ≠ s.heap.objs.size ∧ b ≠ (s.heap.push { cls := .type "list_iterator", data := .fields #[.ref p, .int 0 0] }).objs.size := fun b o e => by
    have := Heap.lt_size e
    have hz' : (s.heap.push { cls := .type "list_iterator", data := .fields #[.ref p, .int 0 0] }).objs.size = s.heap.objs.size + 1 := Heap.size_push ..
    rw [hz']
    exact ⟨Nat.ne_of_lt this, Nat.ne_of_lt (Nat.lt_succ_of_lt this)⟩
  have hSf : (s.heap.push { cls := .type "list_iterator", data := .fields #[.ref p, .int 0 0] }).objs.size ∉ [s.heap.objs.size, p] := fun hm => by
    have hz' : (s.heap.push { cls := .type "list_iterator", data := .fields #[.ref p, .int 0 0] }).objs.size = s.heap.objs.size + 1 := Heap.size_push ..
    rw [hz'] at hm
    rcases List.mem_cons.mp hm with z | z
    · exact absurd z (Nat.succ_ne_self _)
    · rw [← List.mem_singleton.mp z] at hlt
      exact absurd hlt (Nat.not_lt.mpr (Nat.le_succ _))
  have x2 : Ext s.heap ((s.heap.push { cls := .type "list_iterator", data := .fields #[.ref p, .int 0 0] }).push { cls := .type "list", data := .seq #[] }) := (Ext.push _ _).trans (.push _ _)
  have W := Walks.list (prog := X.prog) (w := X.w) (A := X.A.in1) hh s.heap.objs.size p (Nat.ne_of_lt hlt) its.toArray
  have hsz : its.toArray.size = its.length := List.size_toArray ..
  have irr : ∀ i, ltD (D i) (D i) = false := fun i => ltD_irr _
  refine wpAny_pure ⟨plainId_quiet F.plain_max_loop _, max_first (G := fun h' => Ext s.heap h') W (fun i j => ltD (D j) (D i)) _ hSf (fun h h' g k b o e => k b o (by simpa using (e0 b o e).1) (e0 b o e).2 (g b o e)) (fun i j vi vj s' g hi hj => ?_) (by omega)
    ⟨⟨_, Heap.get?_push_of_some _ (Heap.get?_push_size _ rfl), rfl, rfl⟩, (hil.push _).push _⟩ x2 (Heap.get?_push_size _ rfl) fun v h' tk hP hk => ?_⟩
  · obtain ⟨b1, r1⟩ := look _ g i vi hi
    obtain ⟨b2, r2⟩ := look _ g j vj hj
    exact gt_reads r1 r2 (by show X.A.units + 1 + 2 < cLine; omega)
  · have x3 : Ext s.heap h' := fun b o e => hk b o (by simpa using (e0 b o e).1) (e0 b o e).2 (x2 b o e)
    have ba := best_all irr (fun i j k h1 h2 => ltD_tr _ _ _ (by rw [sk]; exact ints_sk _ _) (by rw [sk]; exact ints_sk _ _) (by rw [sk]; exact ints_sk _ _) h2 h1) (its.toArray.size - 1) (bt := fun i j => ltD (D j) (D i))
    have bl := best_le (fun i j => ltD (D j) (D i)) (its.toArray.size - 1)
    have hP : its.toArray[argBest (fun i j => ltD (D j) (D i)) (its.toArray.size - 1)]? = some v := hP
    generalize argBest (fun i j => ltD (D j) (D i)) (its.toArray.size - 1) = m at ba bl hP
    rw [List.getElem?_toArray] at hP
    have hm : m < ys.length := by omega
    obtain ⟨u', hu', ru'⟩ := rv.get (i := m) (x := ys[m]) (List.getElem?_eq_getElem hm)
    rw [hP] at hu'
    cases hu'
    refine ⟨ys[m], H, I.kept x3, ru', q m _ (nss.getD m []) (List.getElem?_eq_getElem hm) (by rw [List.getD_eq_getElem?_getD, List.getElem?_eq_getElem (by omega : m < nss.length)]; rfl) fun ks hks => ?_⟩
    obtain ⟨j, hj, ej⟩ := List.mem_iff_getElem.mp hks
    have := ba j (by omega)
    show ltD (D m) _ = false
    have ek : D j = .tuple (ks.map PyData.int) := by
      show PyData.tuple ((nss.getD j []).map PyData.int) = _
      rw [List.getD_eq_getElem?_getD, List.getElem?_eq_getElem hj, ej]
      rfl
    rw [← ek]
    exact this
end
end L2
set_option maxHeartbeats 4000000
namespace L2
open PySem PySem.Spec PySem.W PyProof.Rows
section
variable {X : Cx}
end
end L2
set_option maxHeartbeats 4000000
namespace L2
open PySem PySem.Spec PySem.W PyProof.Rows
section
variable {X : Cx} {pins : List (Addr × Obj)} {σ : St} {H : Hp} {s : Shared}
end
section
variable {X : Cx} {tg : Expr}
end
end L2
set_option maxHeartbeats 4000000
namespace L2
open PySem PySem.Spec PySem.W PyProof.Rows
section
variable {P : Program} {w : World} {A : Around}
end
section
variable {X : Cx} {pins : List (Addr × Obj)} {σ : St} {H : Hp} {s : Shared}
end
end L2
set_option maxHeartbeats 4000000
namespace L2
open PySem PySem.Spec PySem.W PyProof.Rows
section
variable {X : Cx} {pins : List (Addr × Obj)} {σ : St} {H : Hp} {s : Shared}
end
section
variable {X : Cx} {k : Nat}
end
end L2
set_option maxHeartbeats 4000000
namespace Rga
theorem fpos {P : Nat → Bool} {p : Pl} {qs : List Pl} (h : P p.1 = true) : (p :: qs).filter (fun p => P p.1) = p :: qs.filter fun p => P p.1 := List.filter_cons_of_pos (p := fun p : Pl => P p.1) h
theorem fneg {P : Nat → Bool} {p : Pl} {qs : List Pl} (h : ¬ P p.1 = true) : (p :: qs).filter (fun p => P p.1) = qs.filter fun p => P p.1 := List.filter_cons_of_neg (p := fun p : Pl => P p.1) h
def Clo (P : Nat → Bool) (qs : List Pl) : Prop := ∀ k b, (k, some b) ∈ qs → P k = true → P b = true
theorem Clo.tail {P : Nat → Bool} {p : Pl} {qs : List Pl} (h : Clo P (p :: qs)) : Clo P qs := fun k b hm => h k b (List.mem_cons_of_mem _ hm)
theorem nms_filter {P : Nat → Bool} {qs : List Pl} {x : Nat} : x ∈ nms (qs.filter fun p => P p.1) ↔ x ∈ nms qs ∧ P x = true := by
  unfold nms
  constructor
  · intro h
    obtain ⟨p, hp, rfl⟩ := List.mem_map.mp h
    have := List.mem_filter.mp hp
    exact ⟨List.mem_map.mpr ⟨p, this.1, rfl⟩, this.2⟩
  · rintro ⟨h, hx⟩
    obtain ⟨p, hp, rfl⟩ := List.mem_map.mp h
    exact List.mem_map.mpr ⟨p, List.mem_filter.mpr ⟨hp, hx⟩, rfl⟩
theorem wf_filter {P : Nat → Bool} : ∀ {qs : List Pl}, WF qs → Clo P qs → WF (qs.filter fun p => P p.1)
  | [], _, _ => trivial
  | (a, o) :: qs, h, c => by
    have ih := wf_filter h.2.2 c.tail
    by_cases ha : P a = true
    · rw [fpos (p := (a, o)) ha]
      refine ⟨fun z => h.1 (nms_filter.mp z).1, fun b hb => nms_filter.mpr ⟨h.2.1 b hb, ?_⟩, ih⟩
      have hb' : o = some b := hb
      subst hb'
      exact c a b List.mem_cons_self ha
    · rw [fneg (p := (a, o)) ha]; exact ih
theorem qs_filter (P : Nat → Bool) (bh : Nat → Option Nat) (ms : List Nat) : qsOf bh (ms.filter P) = (qsOf bh ms).filter fun p => P p.1 := by
  unfold qsOf
  rw [List.filter_map, ← List.filter_reverse]
  rfl
theorem clo_qs {P : Nat → Bool} {bh : Nat → Option Nat} {ms : List Nat} (h : ∀ k ∈ ms, P k = true → ∀ b, bh k = some b → P b = true) : Clo P (qsOf bh ms) := fun k b hm hk => by
  obtain ⟨j, hj, e⟩ := List.mem_map.mp hm
  have e1 : j = k := congrArg Prod.fst e
  have e2 : bh j = some b := congrArg Prod.snd e
  subst e1
  exact h _ (List.mem_reverse.mp hj) hk b e2
end Rga
namespace L2
open PySem PySem.Spec PySem.W PyProof.Rows
theorem AN.mem {P : V → Nat → Prop} {vs : List V} {js : List Nat} (h : AN P vs js) {v : V} (hv : v ∈ vs) : ∃ i ∈ js, P v i := by
  obtain ⟨m, hm, e⟩ := List.mem_iff_getElem.mp hv
  obtain ⟨i, hi, p⟩ := h.at (m := m) (v := v) (by rw [List.getElem?_eq_getElem hm, e])
  exact ⟨i, List.mem_of_getElem? hi, p⟩
theorem lay_of {d : PyData} : ∀ {ds : List PyData}, PyData.canLayAll0 ds = true → d ∈ ds → d.canLay0 = true
  | e :: ds, h, hm => by
    have hc : (e.canLay0 && PyData.canLayAll0 ds) = true := h
    rw [Bool.and_eq_true] at hc
    rcases List.mem_cons.mp hm with rfl | hm
    · exact hc.1
    · exact lay_of hc.2 hm
theorem KeysAre.sub {ds es : List PyData} {t : Nat} (h : KeysAre ds t) (p : ∀ x ∈ es, x ∈ ds) : KeysAre es t :=
  ⟨lays_all fun x hx => lay_of h.lay (p x hx), fun d hd => h.kind d (p d hd), fun a ha b hb => h.one a (p a ha) b (p b hb), fun d hd => h.deep d (p d hd)⟩
theorem PLW.filter {nk : Nat → List Key} {bh : Nat → Option Nat} {D : Nat → PyData} {ms : List Nat} {t : Nat} (W : PLW nk bh D ms t) {P : Nat → Bool} (c : ∀ k ∈ ms, P k = true → ∀ b, bh k = some b → P b = true) : PLW nk bh D (ms.filter P) t where
  few := Nat.lt_of_le_of_lt (List.length_filter_le _ _) W.few
  up := W.up.filter _
  inj := fun i hi j hj e => W.inj i (List.mem_filter.mp hi).1 j (List.mem_filter.mp hj).1 e
  wf := by
    have := Rga.wf_filter W.wf (Rga.clo_qs c)
    show Rga.WF (Rga.qsOf bh (ms.filter P))
    rw [Rga.qs_filter]
    exact this
  keys := W.keys.sub fun x hx => by
    obtain ⟨i, hi, rfl⟩ := List.mem_map.mp hx
    exact List.mem_map.mpr ⟨i, (List.mem_filter.mp hi).1, rfl⟩
theorem AN.pick {P : V → Nat → Prop} {f : Nat → Bool} : ∀ {vs : List V} {js : List Nat} {us : List V}, AN P us (js.filter f) → ∀ {v : V} {i : Nat}, P v i → f i = true → AN P (us ++ [v]) ((js ++ [i]).filter f) := fun {vs js us} h {v i} hv hi => by
  rw [List.filter_append, List.filter_cons_of_pos hi]
  exact h.snoc hv
theorem AN.skip {P : V → Nat → Prop} {f : Nat → Bool} {js : List Nat} {us : List V} (h : AN P us (js.filter f)) {i : Nat} (hi : ¬ f i = true) : AN P us ((js ++ [i]).filter f) := by
  rw [List.filter_append, List.filter_cons_of_neg hi, List.filter_nil, List.append_nil]
  exact h
def PKs (nk : Nat → List Key) (G : V → Nat → Prop) : List (KD × V × V) → List Nat → Prop
  | [], [] => True
  | e :: es, i :: is => (e.1 = .tup (nk i) ∧ G e.2.2 i) ∧ PKs nk G es is
  | _, _ => False
theorem PKs.snoc {nk : Nat → List Key} {G : V → Nat → Prop} {e : KD × V × V} {i : Nat} (h1 : e.1 = .tup (nk i)) (h2 : G e.2.2 i) : ∀ {kvs : List (KD × V × V)} {js : List Nat}, PKs nk G kvs js → PKs nk G (kvs ++ [e]) (js ++ [i])
  | [], [], _ => ⟨⟨h1, h2⟩, trivial⟩
  | [], _ :: _, h => h.elim
  | _ :: _, [], h => h.elim
  | _ :: _, _ :: _, h => ⟨h.1, PKs.snoc h1 h2 h.2⟩
theorem PKs.get {nk : Nat → List Key} {G : V → Nat → Prop} {all : List Nat} (inj : ∀ i ∈ all, ∀ j ∈ all, nk i = nk j → i = j) : ∀ {kvs : List (KD × V × V)} {js done : List Nat} {acc : List (KD × V × V)}, PKs nk G kvs js → (∀ i ∈ done, i ∈ all) → (∀ i ∈ js, i ∈ all) →
    (∀ i ∈ done, ∃ v, vG acc (.tup (nk i)) = some v ∧ G v i) → ∀ i, i ∈ done ∨ i ∈ js → ∃ v, vG (putAll acc kvs) (.tup (nk i)) = some v ∧ G v i
  | [], [], done, acc, _, _, _, h, i, hi => by
    rcases hi with hi | hi
    · exact h i hi
    · cases hi
  | [], _ :: _, _, _, h, _, _, _, _, _ => h.elim
  | _ :: _, [], _, _, h, _, _, _, _, _ => h.elim
  | e :: es, j :: js, done, acc, h, hd, hj, ha, i, hi => by
    have hja := hj j List.mem_cons_self
    refine PKs.get inj (done := done ++ [j]) (acc := pG acc e.1 e.2.1 e.2.2) h.2 (fun k hk => ?_) (fun k hk => hj k (List.mem_cons_of_mem _ hk)) (fun k hk => ?_) i ?_
    · rcases List.mem_append.mp hk with z | z
      · exact hd k z
      · rw [List.mem_singleton.mp z]; exact hja
    · rw [vG_put, h.1.1]
      by_cases ek : nk k = nk j
      · rw [if_pos (by rw [ek])]
        have hka : k ∈ all := by
          rcases List.mem_append.mp hk with z | z
          · exact hd k z
          · rw [List.mem_singleton.mp z]; exact hja
        rw [inj k hka j hja ek]
        exact ⟨_, rfl, h.1.2⟩
      · rw [if_neg (fun z => ek (KD.tup.inj z))]
        rcases List.mem_append.mp hk with z | z
        · exact ha k z
        · exact absurd (by rw [List.mem_singleton.mp z]) ek
    · rcases hi with z | z
      · exact .inl (List.mem_append_left _ z)
      · rcases List.mem_cons.mp z with rfl | z
        · exact .inl (List.mem_append_right _ (List.mem_singleton.mpr rfl))
        · exact .inr z
theorem PrsV.tups {H H' : Hp} (t : Tups H H') : ∀ {ys : List V} {es : List (KD × V × V)}, PrsV H ys es → PrsV H' ys es
  | [], [], _ => trivial
  | [], _ :: _, h => h.elim
  | _ :: _, [], h => h.elim
  | _ :: _, _ :: _, h => ⟨let ⟨b, e, h1, h2⟩ := h.1; ⟨b, e, t _ _ h1, h2.tups t⟩, PrsV.tups t h.2⟩
theorem PrsV.snoc {H : Hp} {y : V} {e : KD × V × V} (hy : ∃ b, y = .ref b ∧ H b = some (.tup [e.2.1, e.2.2]) ∧ GK H e.1 e.2.1) : ∀ {ys : List V} {es : List (KD × V × V)}, PrsV H ys es → PrsV H (ys ++ [y]) (es ++ [e])
  | [], [], _ => ⟨hy, trivial⟩
  | [], _ :: _, h => h.elim
  | _ :: _, [], h => h.elim
  | _ :: _, _ :: _, h => ⟨h.1, PrsV.snoc hy h.2⟩
end L2
set_option maxHeartbeats 4000000
namespace L2
open PySem PySem.Spec PySem.W PyProof.Rows
end L2
namespace Rga
end Rga
set_option maxHeartbeats 4000000
namespace L2
open PySem PySem.Spec PySem.W PyProof.Rows
section
variable {X : Cx} {tg : Expr}
end
end L2
set_option maxHeartbeats 4000000
namespace L2
open PySem PySem.Spec PySem.W PyProof.Rows
end L2
namespace Rga
open L2
section
variable {bh : Nat → Option Nat} {D : Nat → PySem.PyData} {a b c d x : Nat}
end
end Rga
set_option maxHeartbeats 4000000
namespace L2
open PySem PySem.Spec PySem.W PyProof.Rows
def tCut (t u : TS) : TS := fun D σ H => ∃ P : St → Hp → Prop, t { D with nx := P } σ H ∧ ∀ σ' H', P σ' H' → u D σ' H'
def tPost (t : TT) : TT := fun σ H Q => ∃ P : Bool → Hp → Prop, t σ H P ∧ ∀ b H', P b H' → Q b H'
section
variable {X : Cx} {st : Stmt} {rest : List Stmt} {t u : TS}
theorem pss_cut (h1 : PS X st t) (h2 : PSs X rest u) : PSs X (st :: rest) (tCut t u) := by
  intro pins s σ H D I h
  obtain ⟨P, h, k⟩ := h
  refine wpAny_execs_cons (thn (h1 pins s σ H { D with nx := P } I h) fun f s1 q => ?_)
  cases f with
  | next =>
    obtain ⟨σ', H', I', q⟩ := q
    exact h2 pins s1 σ' H' D I' (k σ' H' q)
  | ret v => exact q
  | brk => exact q
  | cont => exact q
theorem pt_post {e : Expr} {t : TT} (h : PT X e t) : PT X e (tPost t) := by
  intro pins s σ H Q I q
  obtain ⟨P, h1, h2⟩ := q
  exact thn (h pins s σ H P I h1) fun b s1 ⟨H', I', q⟩ => ⟨H', I', h2 _ _ q⟩
end
theorem pe_bmK {X : Cx} {K : PySem.W.Frag} {o e : Expr} {es : List Expr} {to : TE} {t : TA} {name : Str} {apos cpos : Pos} {T id : String} {r : V → List V → Hp → VK → Prop} (hK : X.K = K) (pa : PlainAttrs T) (slot : Slot T name id) (hty : typeOf (.builtin id) = pure (.type "method_descriptor")) (hm : MtR X id r) (ho : PE X o to) (ha : PA X (e :: es) t)
    (hbase : attributeBase o name X.env (eval o X.env) = eval o X.env := by rfl)
    (hfew : ((backTo cpos (starEach (e :: es) X.env)).all (fun x => !x.1) && (backToKw cpos (keywordEach [] X.env)).all (fun x => x.1.isSome)
      && decide ((e :: es).length + ([] : List Keyword).length + (if ([] : List Keyword).isEmpty then 0 else 1) < 30)) = true := by rfl)
    (hline : (apos.endLine == cpos.line) = true := by rfl) (hs : starEach (e :: es) X.env = (false, eval e X.env) :: starEach es X.env := by rfl) (hplain : (backTo cpos (starEach es X.env)).any (·.1) = false := by rfl) :
    PE X (.Call (.Attribute o name apos) (e :: es) [] cpos) (tBM K T r to t) := hK ▸ pe_bm pa slot hty hm ho ha hbase hfew hline hs hplain
end L2
set_option maxHeartbeats 4000000
namespace L2
open PySem PySem.Spec PyProof.Rows
section
variable {X : Cx}
end
end L2
set_option maxHeartbeats 40000000
namespace My
open PySem L2 PyProof.Rows
def top (i : Nat) : Stmt := PySem.Challenge.pw_pagefolk_k42_whole_tables_grow.main.body.getD i (.Pass ⟨0, 0, 0, 0⟩)
abbrev s_fkey_of_place : Stmt := top 1
abbrev s_ffollowers_of : Stmt := top 2
abbrev s_fordered : Stmt := top 3
abbrev s_flines_of : Stmt := top 5
abbrev s_fkey_of_cell : Stmt := top 6
abbrev s_fwords_told : Stmt := top 7
abbrev s_ftable_of : Stmt := top 8
abbrev s_f_law_cell_at : Stmt := top 10
abbrev s_f_law_pool : Stmt := top 11
abbrev s_f_law_take : Stmt := top 12
abbrev s_f_law_bare : Stmt := top 13
abbrev s_f_law_put : Stmt := top 14
abbrev s_f_law_without : Stmt := top 15
abbrev s_f_law_line_right : Stmt := top 16
abbrev s_f_law_cell_right : Stmt := top 17
abbrev s_flaw : Stmt := top 18
structure Adr where
  fkey_of_place : Addr
  fkey_of_placed : FuncData
  ffollowers_of : Addr
  ffollowers_ofd : FuncData
  fordered : Addr
  forderedd : FuncData
  flines_of : Addr
  flines_ofd : FuncData
  fkey_of_cell : Addr
  fkey_of_celld : FuncData
  fwords_told : Addr
  fwords_toldd : FuncData
  ftable_of : Addr
  ftable_ofd : FuncData
  f_law_cell_at : Addr
  f_law_cell_atd : FuncData
  f_law_pool : Addr
  f_law_poold : FuncData
  f_law_take : Addr
  f_law_taked : FuncData
  f_law_bare : Addr
  f_law_bared : FuncData
  f_law_put : Addr
  f_law_putd : FuncData
  f_law_without : Addr
  f_law_withoutd : FuncData
  f_law_line_right : Addr
  f_law_line_rightd : FuncData
  f_law_cell_right : Addr
  f_law_cell_rightd : FuncData
  flaw : Addr
  flawd : FuncData
structure Txt (K : PySem.W.Frag) (mg : Str → Option Value) (d : Adr) (tk : Str → Tok) : Prop where
  b_dict : mg "dict" = none
  b_int : mg "int" = none
  b_len : mg "len" = none
  b_list : mg "list" = none
  b_max : mg "max" = none
  b_min : mg "min" = none
  b_range : mg "range" = none
  b_sorted : mg "sorted" = none
  F_fkey_of_place : Fun K "key_of_place" "key_of_place" s_fkey_of_place d.fkey_of_place d.fkey_of_placed
  m_fkey_of_place : mg "key_of_place" = some (.ref d.fkey_of_place)
  k_fkey_of_place : PySem.W.keepIn K (.ref d.fkey_of_place) = true
  d_fkey_of_place : Binds K d.fkey_of_placed ["place"] []
  F_ffollowers_of : Fun K "followers_of" "followers_of" s_ffollowers_of d.ffollowers_of d.ffollowers_ofd
  m_ffollowers_of : mg "followers_of" = some (.ref d.ffollowers_of)
  k_ffollowers_of : PySem.W.keepIn K (.ref d.ffollowers_of) = true
  d_ffollowers_of : Binds K d.ffollowers_ofd ["places"] []
  F_fordered : Fun K "ordered" "ordered" s_fordered d.fordered d.forderedd
  m_fordered : mg "ordered" = some (.ref d.fordered)
  k_fordered : PySem.W.keepIn K (.ref d.fordered) = true
  d_fordered : Binds K d.forderedd ["places"] []
  F_flines_of : Fun K "lines_of" "lines_of" s_flines_of d.flines_of d.flines_ofd
  m_flines_of : mg "lines_of" = some (.ref d.flines_of)
  k_flines_of : PySem.W.keepIn K (.ref d.flines_of) = true
  d_flines_of : Binds K d.flines_ofd ["facts", "part", "way"] []
  F_fkey_of_cell : Fun K "key_of_cell" "key_of_cell" s_fkey_of_cell d.fkey_of_cell d.fkey_of_celld
  m_fkey_of_cell : mg "key_of_cell" = some (.ref d.fkey_of_cell)
  k_fkey_of_cell : PySem.W.keepIn K (.ref d.fkey_of_cell) = true
  d_fkey_of_cell : Binds K d.fkey_of_celld ["cell"] []
  F_fwords_told : Fun K "words_told" "words_told" s_fwords_told d.fwords_told d.fwords_toldd
  m_fwords_told : mg "words_told" = some (.ref d.fwords_told)
  k_fwords_told : PySem.W.keepIn K (.ref d.fwords_told) = true
  d_fwords_told : Binds K d.fwords_toldd ["facts", "part"] []
  F_ftable_of : Fun K "table_of" "table_of" s_ftable_of d.ftable_of d.ftable_ofd
  m_ftable_of : mg "table_of" = some (.ref d.ftable_of)
  k_ftable_of : PySem.W.keepIn K (.ref d.ftable_of) = true
  d_ftable_of : Binds K d.ftable_ofd ["facts", "part"] []
  F_f_law_cell_at : Fun K "_law_cell_at" "_law_cell_at" s_f_law_cell_at d.f_law_cell_at d.f_law_cell_atd
  m_f_law_cell_at : mg "_law_cell_at" = some (.ref d.f_law_cell_at)
  k_f_law_cell_at : PySem.W.keepIn K (.ref d.f_law_cell_at) = true
  d_f_law_cell_at : Binds K d.f_law_cell_atd ["_law_script", "_law_k"] []
  F_f_law_pool : Fun K "_law_pool" "_law_pool" s_f_law_pool d.f_law_pool d.f_law_poold
  m_f_law_pool : mg "_law_pool" = some (.ref d.f_law_pool)
  k_f_law_pool : PySem.W.keepIn K (.ref d.f_law_pool) = true
  d_f_law_pool : Binds K d.f_law_poold ["_law_cell"] []
  F_f_law_take : Fun K "_law_take" "_law_take" s_f_law_take d.f_law_take d.f_law_taked
  m_f_law_take : mg "_law_take" = some (.ref d.f_law_take)
  k_f_law_take : PySem.W.keepIn K (.ref d.f_law_take) = true
  d_f_law_take : Binds K d.f_law_taked ["_law_pool_here", "_law_many"] []
  F_f_law_bare : Fun K "_law_bare" "_law_bare" s_f_law_bare d.f_law_bare d.f_law_bared
  m_f_law_bare : mg "_law_bare" = some (.ref d.f_law_bare)
  k_f_law_bare : PySem.W.keepIn K (.ref d.f_law_bare) = true
  d_f_law_bare : Binds K d.f_law_bared [] []
  F_f_law_put : Fun K "_law_put" "_law_put" s_f_law_put d.f_law_put d.f_law_putd
  m_f_law_put : mg "_law_put" = some (.ref d.f_law_put)
  k_f_law_put : PySem.W.keepIn K (.ref d.f_law_put) = true
  d_f_law_put : Binds K d.f_law_putd ["_law_facts", "_law_pool_here", "_law_k"] []
  F_f_law_without : Fun K "_law_without" "_law_without" s_f_law_without d.f_law_without d.f_law_withoutd
  m_f_law_without : mg "_law_without" = some (.ref d.f_law_without)
  k_f_law_without : PySem.W.keepIn K (.ref d.f_law_without) = true
  d_f_law_without : Binds K d.f_law_withoutd ["_law_table", "_law_row", "_law_column"] []
  F_f_law_line_right : Fun K "_law_line_right" "_law_line_right" s_f_law_line_right d.f_law_line_right d.f_law_line_rightd
  m_f_law_line_right : mg "_law_line_right" = some (.ref d.f_law_line_right)
  k_f_law_line_right : PySem.W.keepIn K (.ref d.f_law_line_right) = true
  d_f_law_line_right : Binds K d.f_law_line_rightd ["_law_ahead", "_law_behind", "_law_told"] []
  F_f_law_cell_right : Fun K "_law_cell_right" "_law_cell_right" s_f_law_cell_right d.f_law_cell_right d.f_law_cell_rightd
  m_f_law_cell_right : mg "_law_cell_right" = some (.ref d.f_law_cell_right)
  k_f_law_cell_right : PySem.W.keepIn K (.ref d.f_law_cell_right) = true
  d_f_law_cell_right : Binds K d.f_law_cell_rightd ["_law_ahead", "_law_behind", "_law_told"] []
  F_flaw : Fun K "law" "law" s_flaw d.flaw d.flawd
  m_flaw : mg "law" = some (.ref d.flaw)
  k_flaw : PySem.W.keepIn K (.ref d.flaw) = true
  d_flaw : Binds K d.flawd ["_law_script"] []
theorem szOk {n : Nat} (h : Nat.ble n 1000 = true) : n ≤ sizeLine := Nat.le_of_lt (small1000 (Nat.le_of_ble_eq_true h))
theorem big {n : Nat} (h : n ≤ 1000) : n ≤ sizeLine := Nat.le_of_lt (small1000 h)
theorem itT {c : Bool} {A B : Prop} (h : c = true) (a : A) : if c = true then A else B := by rw [if_pos h]; exact a
theorem itF {c : Bool} {A B : Prop} (h : c = false) (b : B) : if c = true then A else B := by rw [if_neg (by rw [h]; decide)]; exact b
def kP : Key → PyData
  | .inl i => .int i
  | .inr s => .str s
theorem kP_dts {H : Hp} : ∀ ks : List Key, DTs H (ks.map kV) (ks.map kP)
  | [] => .nil
  | .inl i :: ks => .cons (.int i) (kP_dts ks)
  | .inr s :: ks => .cons (.str s) (kP_dts ks)
def dN (nk : Nat → List Key) (i : Nat) : PyData := .tuple ((nk i).map kP)
theorem NM.dt {nk : Nat → List Key} {H : Hp} {v : V} {i : Nat} (h : NM nk H v i) : DT H v (dN nk i) := by
  obtain ⟨b, rfl, h⟩ := h
  exact .tup h (kP_dts _)
theorem dts_get {H : Hp} : ∀ {vs : List V} {ds : List PyData} {m : Nat} {v : V} {d : PyData}, DTs H vs ds → vs[m]? = some v → ds[m]? = some d → DT H v d
  | _, _, 0, _, _, .cons a _, e1, e2 => by cases e1; cases e2; exact a
  | _, _, m + 1, _, _, .cons _ b, e1, e2 => dts_get (m := m) b (by simpa using e1) (by simpa using e2)
theorem dts_snoc {H : Hp} {x : V} {d : PyData} (h : DT H x d) : ∀ {xs : List V} {ds : List PyData}, DTs H xs ds → DTs H (xs ++ [x]) (ds ++ [d])
  | _, _, .nil => .cons h .nil
  | _, _, .cons a t => .cons a (dts_snoc h t)
theorem dts_ints {H : Hp} : ∀ {ns : List Int} {xs : List V}, DTs H xs (ns.map PyData.int) → xs = ns.map V.int
  | [], _, .nil => rfl
  | _ :: _, _, .cons (.int i) t => by rw [dts_ints t]; rfl
def sp_fkey_of_place (K : PySem.W.Frag) : Sp := fun vs H Q _ => ∃ v nk bh D k, vs = [v] ∧ PL nk bh D H v k ∧ ∀ kv, DT H kv (D k) → Q kv H
theorem len_fkey_of_place {K : PySem.W.Frag} {vs : List V} {H : Hp} {Q : VK} {E : XK} (h : sp_fkey_of_place K vs H Q E) : vs.length = 1 := by obtain ⟨_, _, _, _, _, rfl, _⟩ := h; rfl
def sp_ffollowers_of (K : PySem.W.Frag) : Sp := fun vs H Q _ => ∃ p ys nk bh D ms js t, vs = [.ref p] ∧ SqL K H p ys ∧ AN (PL nk bh D H) ys js ∧ js.Perm ms ∧ PLW nk bh D ms t ∧ ∀ H' dq kvs, Same H H' → FD nk bh ms ms H H' dq kvs → Q (.ref dq) H'
theorem len_ffollowers_of {K : PySem.W.Frag} {vs : List V} {H : Hp} {Q : VK} {E : XK} (h : sp_ffollowers_of K vs H Q E) : vs.length = 1 := by obtain ⟨_, _, _, _, _, _, _, _, rfl, _⟩ := h; rfl
def sp_fordered (K : PySem.W.Frag) : Sp := fun vs H Q _ => ∃ p ys nk bh D ms js t, vs = [.ref p] ∧ SqL K H p ys ∧ AN (PL nk bh D H) ys js ∧ js.Perm ms ∧ PLW nk bh D ms t ∧ ∀ H' q zs, Same H H' → H q = none → H' q = some (.lst zs) → AN (NM nk H') zs (Rga.rowR (Rga.qsOf bh ms)) → Q (.ref q) H'
theorem len_fordered {K : PySem.W.Frag} {vs : List V} {H : Hp} {Q : VK} {E : XK} (h : sp_fordered K vs H Q E) : vs.length = 1 := by obtain ⟨_, _, _, _, _, _, _, _, rfl, _⟩ := h; rfl
theorem big2 {n : Nat} (h : n ≤ 2000) : n ≤ sizeLine := Nat.le_of_lt (small2000 h)
theorem an_impM {P P' : V → Nat → Prop} {vs : List V} {js : List Nat} (h : AN P vs js) (f : ∀ v i, i ∈ js → P v i → P' v i) : AN P' vs js := ⟨h.1, fun m v i e1 e2 => f _ _ (List.mem_of_getElem? e2) (h.2 m v i e1 e2)⟩
def tD (ks : List Key) : PyData := .tuple (ks.map kP)
theorem noB_kP : ∀ k : Key, noB (kP k) = true
  | .inl _ => rfl
  | .inr _ => rfl
theorem noB_tD (ks : List Key) : noB (tD ks) = true := by
  show noB (.tuple (ks.map kP)) = true
  rw [noB]
  exact noBs_all fun d hd => by obtain ⟨k, _, rfl⟩ := List.mem_map.mp hd; exact noB_kP k
theorem deep_tD (ks : List Key) : (tD ks).depth ≤ 1 := by
  have : PyData.depthAll (ks.map kP) ≤ 0 := depth_le fun d hd => by
    obtain ⟨k, _, rfl⟩ := List.mem_map.mp hd
    cases k <;> exact Nat.le_refl 0
  show PyData.depthAll (ks.map kP) + 1 ≤ 1
  omega
theorem kP_inj : ∀ {a b : Key}, kP a = kP b → a = b
  | .inl _, .inl _, h => by injection h with h; rw [h]
  | .inl _, .inr _, h => by cases h
  | .inr _, .inl _, h => by cases h
  | .inr _, .inr _, h => by injection h with h; rw [h]
theorem kPs_inj : ∀ {a b : List Key}, a.map kP = b.map kP → a = b
  | [], [], _ => rfl
  | [], _ :: _, h => by cases h
  | _ :: _, [], h => by cases h
  | x :: a, y :: b, h => by
    rw [List.map_cons, List.map_cons] at h
    injection h with h1 h2
    rw [kP_inj h1, kPs_inj h2]
theorem tD_inj {a b : List Key} (h : tD a = tD b) : a = b := kPs_inj (PyData.tuple.inj h)
theorem tD_eqv (a b : List Key) : PyData.eqv (tD a) (tD b) = decide (a = b) := by
  by_cases h : a = b
  · rw [decide_eq_true h, h]
    exact (eqv_iff _ _ (noB_tD b) (noB_tD b)).mpr rfl
  · rw [decide_eq_false h]
    cases q : PyData.eqv (tD a) (tD b) with
    | false => rfl
    | true => exact absurd (tD_inj ((eqv_iff _ _ (noB_tD a) (noB_tD b)).mp q)) h
theorem gk_td {H : Hp} {ks : List Key} {v : V} (h : GK H (.tup ks) v) : DT H v (tD ks) := by
  obtain ⟨b, rfl, h⟩ := h
  exact .tup h (kP_dts _)
def Lay (ks : List Key) : Prop := (tD ks).canLay0 = true
structure Ln where
  pt : List Key
  wy : Str
  nk : List Key
  bh : Option Nat
  ka : Int
  kb : Int
  lv : Bool
def nkL (L : Nat → Ln) (i : Nat) : List Key := (L i).nk
def bhL (L : Nat → Ln) (i : Nat) : Option Nat := (L i).bh
def DL (L : Nat → Ln) (i : Nat) : PyData := .tuple [.int (L i).ka, .int (L i).kb]
def LN (L : Nat → Ln) (H : Hp) (v : V) (i : Nat) : Prop := ∃ b vp vn vb kq, v = .ref b ∧ H b = some (.tup [vp, .str (L i).wy, vn, vb, .ref kq, .bl (L i).lv]) ∧ GK H (.tup (L i).pt) vp ∧ NM (nkL L) H vn i ∧ GK H (kd (nkL L) (bhL L i)) vb ∧ H kq = some (.tup [.int (L i).ka, .int (L i).kb])
theorem LN.tups {L : Nat → Ln} {H H' : Hp} {v : V} {i : Nat} (h : LN L H v i) (t : Tups H H') : LN L H' v i := by
  obtain ⟨b, vp, vn, vb, kq, e, h1, h2, h3, h4, h5⟩ := h
  exact ⟨b, vp, vn, vb, kq, e, t _ _ h1, h2.tups t, h3.tups t, h4.tups t, t _ _ h5⟩
def Lt2 (a b c d : Int) : Prop := a < c ∨ (a = c ∧ b < d)
theorem lt2_D {a b c d : Int} (h : Lt2 a b c d) : ltD (.tuple [.int a, .int b]) (.tuple [.int c, .int d]) = true := by
  rw [ltD]
  rcases h with h | ⟨rfl, h⟩
  · exact ltD_int2 h
  · exact ltD_int3 (ltD_int2 h)
structure WL (L : Nat → Ln) (n : Nat) : Prop where
  few : n ≤ 63
  up : ∀ i j, i < j → j < n → Lt2 (L i).ka (L i).kb (L j).ka (L j).kb
  inj : ∀ i, i < n → ∀ j, j < n → (L i).nk = (L j).nk → i = j
  back : ∀ i, i < n → ∀ j, (L i).bh = some j → j < i ∧ (L j).pt = (L i).pt ∧ (L j).wy = (L i).wy
  lay : ∀ i, i < n → Lay (L i).nk ∧ Lay (L i).pt
def mine (L : Nat → Ln) (pt : List Key) (wy : Str) (i : Nat) : Bool := decide ((L i).pt = pt) && decide ((L i).wy = wy)
theorem range_up (n : Nat) : (List.range n).Pairwise fun a b => a < b := List.pairwise_lt_range
theorem mine_iff {L : Nat → Ln} {pt : List Key} {wy : Str} {i : Nat} : mine L pt wy i = true ↔ (L i).pt = pt ∧ (L i).wy = wy := by
  unfold mine
  rw [Bool.and_eq_true, decide_eq_true_iff, decide_eq_true_iff]
def mines (L : Nat → Ln) (js : List Nat) (pt : List Key) (wy : Str) : List Nat := js.filter (mine L pt wy)
def rowL (L : Nat → Ln) (js : List Nat) (pt : List Key) (wy : Str) : List Nat := Rga.rowR (Rga.qsOf (bhL L) (mines L js pt wy))
def lived (L : Nat → Ln) (js : List Nat) (pt : List Key) (wy : Str) : List Nat := (rowL L js pt wy).filter fun i => (L i).lv
structure WJ (L : Nat → Ln) (js : List Nat) : Prop where
  p : PLW (nkL L) (bhL L) (DL L) js 2
  few : js.length ≤ 1300
  back : ∀ i ∈ js, ∀ j, (L i).bh = some j → (L j).pt = (L i).pt ∧ (L j).wy = (L i).wy
  lay : ∀ i ∈ js, Lay (L i).nk ∧ Lay (L i).pt
theorem WJ.plw {L : Nat → Ln} {js : List Nat} (W : WJ L js) (pt : List Key) (wy : Str) : PLW (nkL L) (bhL L) (DL L) (mines L js pt wy) 2 := W.p.filter fun k hk hP b e => by
  obtain ⟨h2, h3⟩ := W.back k hk b e
  unfold mine at hP ⊢
  rw [h2, h3]
  exact hP
theorem WL.wj {L : Nat → Ln} {n : Nat} (W : WL L n) : WJ L (List.range n) where
  p := by
    refine ⟨by rw [List.length_range]; have := W.few; omega, ?_, fun i hi j hj e => W.inj i (List.mem_range.mp hi) j (List.mem_range.mp hj) e, Rga.wf_range fun i hi b e => (W.back i hi b e).1, rk_keys fun d hd => ?_⟩
    · exact (range_up n).imp_of_mem fun {a b} ha hb h => lt2_D (W.up a b h (List.mem_range.mp hb))
    · obtain ⟨i, _, rfl⟩ := List.mem_map.mp hd
      exact .inl ⟨_, _, rfl⟩
  few := by rw [List.length_range]; have := W.few; omega
  back := fun i hi j e => (W.back i (List.mem_range.mp hi) j e).2
  lay := fun i hi => W.lay i (List.mem_range.mp hi)
theorem rowL_in {L : Nat → Ln} {js : List Nat} {i : Nat} {pt : List Key} {wy : Str} (W : WJ L js) (h : i ∈ rowL L js pt wy) : i ∈ js := (List.mem_filter.mp (Rga.row_mem (W.plw pt wy).wf h)).1
theorem lived_in {L : Nat → Ln} {js : List Nat} {i : Nat} {pt : List Key} {wy : Str} (W : WJ L js) (h : i ∈ lived L js pt wy) : i ∈ js := rowL_in W (List.mem_filter.mp h).1
theorem rowL_len {L : Nat → Ln} {js : List Nat} {pt : List Key} {wy : Str} (W : WJ L js) : (rowL L js pt wy).length ≤ js.length := by
  unfold rowL
  rw [Rga.row_len (W.plw pt wy).wf]
  exact List.length_filter_le _ _
def FL (H : Hp) (fa : Addr) (L : Nat → Ln) (js : List Nat) : Prop := ∃ kvs la vs, Rd H fa (.dK kvs) ∧ valV kvs (.inr "lines") = some (.ref la) ∧ H la = some (.lst vs) ∧ AN (LN L H) vs js ∧ WJ L js
theorem Rd.same {H H' : Hp} {a : Addr} {u : HO} (r : Rd H a u) (s : Same H H') : Rd H' a u := by
  rcases r with r | ⟨o, r⟩
  · exact .inl (s _ _ r)
  · exact .inr ⟨o, s _ _ r⟩
def kN (i : Nat) : Key := .inr ((["births", "places", "cuts", "signs", "marks", "notes", "lines", "cells", "leaves"] : List Str).getD i "")
def fkv (F : Nat → Addr) (n : Nat) : List (Key × V) := (List.range n).map fun i => (kN i, .ref (F i))
theorem kN_inj : ∀ i, i < 9 → ∀ j, j < 9 → kN i = kN j → i = j := by decide +kernel
theorem fkv_at (F : Nat → Addr) (i : Nat) (h : i < 9) : valV (fkv F 9) (kN i) = some (.ref (F i)) := by
  have go : ∀ (l : List Nat), (∀ j ∈ l, j < 9) → i ∈ l → valV (l.map fun i => (kN i, V.ref (F i))) (kN i) = some (.ref (F i)) := fun l => by
    induction l with
    | nil => intro _ z; cases z
    | cons j l ih =>
      intro hl hi
      rw [List.map_cons]
      by_cases e : j = i
      · subst e; exact valV_pos rfl
      · rw [valV_neg (fun z => e (kN_inj j (hl j List.mem_cons_self) i h z))]
        rcases List.mem_cons.mp hi with z | z
        · exact absurd z.symm e
        · exact ih (fun j hj => hl j (List.mem_cons_of_mem _ hj)) z
  exact go _ (fun j hj => List.mem_range.mp hj) (List.mem_range.mpr h)
structure FA (H : Hp) (fa : Addr) (F : Nat → Addr) : Prop where
  dk : Rd H fa (.dK (fkv F 9))
  inj : ∀ i, i < 9 → ∀ j, j < 9 → F i = F j → i = j
  rest : ∀ i, i < 9 → i ≠ 6 → i ≠ 7 → H (F i) = some (.lst [])
structure Ce where
  pt : List Key
  rw : List Key
  cl : List Key
  wd : Str
  ka : Int
  kb : Int
def CE (C : Nat → Ce) (H : Hp) (v : V) (i : Nat) : Prop := ∃ b vp vr vc kq, v = .ref b ∧ H b = some (.tup [vp, vr, vc, .str (C i).wd, .ref kq]) ∧ GK H (.tup (C i).pt) vp ∧ GK H (.tup (C i).rw) vr ∧ GK H (.tup (C i).cl) vc ∧ H kq = some (.tup [.int (C i).ka, .int (C i).kb])
theorem CE.tups {C : Nat → Ce} {H H' : Hp} {v : V} {i : Nat} (h : CE C H v i) (t : Tups H H') : CE C H' v i := by
  obtain ⟨b, vp, vr, vc, kq, e, h1, h2, h3, h4, h5⟩ := h
  exact ⟨b, vp, vr, vc, kq, e, t _ _ h1, h2.tups t, h3.tups t, h4.tups t, t _ _ h5⟩
def Wd (z : Str) : Prop := z = "" ∨ z = "ten" ∨ z = "abcdefgh" ∨ z = "x"
structure WC (C : Nat → Ce) (m : Nat) : Prop where
  few : m ≤ 63
  up : ∀ i j, i < j → j < m → Lt2 (C i).ka (C i).kb (C j).ka (C j).kb
  lay : ∀ i, i < m → Lay (C i).pt ∧ Lay (C i).rw ∧ Lay (C i).cl
  wd : ∀ i, i < m → Wd (C i).wd
def extC (C : Nat → Ce) (n : Nat) (r : Ce) : Nat → Ce := fun i => if i = n then r else C i
theorem extC_lt {C : Nat → Ce} {n : Nat} {r : Ce} {i : Nat} (h : i < n) : extC C n r i = C i := if_neg (by omega)
theorem extC_at {C : Nat → Ce} {n : Nat} {r : Ce} : extC C n r n = r := if_pos rfl
theorem CE.ext {C : Nat → Ce} {n : Nat} {r : Ce} {H : Hp} {v : V} {i : Nat} (hi : i < n) (h : CE C H v i) : CE (extC C n r) H v i := by
  unfold CE
  rw [extC_lt hi]
  exact h
theorem WC.ext {C : Nat → Ce} {n : Nat} {r : Ce} (W : WC C n) (hn : n < 63) (up : ∀ i, i < n → Lt2 (C i).ka (C i).kb r.ka r.kb) (l : Lay r.pt ∧ Lay r.rw ∧ Lay r.cl) (w : Wd r.wd) : WC (extC C n r) (n + 1) where
  few := hn
  up := fun i j h1 h2 => by
    by_cases z : j = n
    · subst z
      rw [extC_at, extC_lt h1]
      exact up i h1
    · rw [extC_lt (show j < n by omega), extC_lt (show i < n by omega)]
      exact W.up i j h1 (by omega)
  lay := fun i hi => by
    by_cases z : i = n
    · subst z; rw [extC_at]; exact l
    · rw [extC_lt (show i < n by omega)]; exact W.lay i (by omega)
  wd := fun i hi => by
    by_cases z : i = n
    · subst z; rw [extC_at]; exact w
    · rw [extC_lt (show i < n by omega)]; exact W.wd i (by omega)
def nmA (k : Nat) : List Key := [.inr "zoe", .inl (100 - (k : Int))]
def nmB (k : Nat) : List Key := [.inr "ann", .inl (20 + (k : Int))]
def nmC (k : Nat) : List Key := [.inr "bo", .inl (3 + (k : Int))]
def Nmd (k : Nat) (ks : List Key) : Prop := ks = nmA k ∨ ks = nmB k ∨ ks = nmC k
theorem Nmd.inj {k j : Nat} {ks : List Key} (h : Nmd k ks) (g : Nmd j ks) : k = j := by
  unfold Nmd nmA nmB nmC at *
  rcases h with rfl | rfl | rfl <;> rcases g with g | g | g <;> simp at g <;> first | omega | exact absurd g.1 (by decide +kernel)
theorem cm_up {k k' : Nat} {a b : List Key} (hk : k ≤ k') (h : (∃ t, t < k ∧ Nmd t a) ∧ ∃ t, t < k ∧ Nmd t b) : (∃ t, t < k' ∧ Nmd t a) ∧ ∃ t, t < k' ∧ Nmd t b := by
  obtain ⟨⟨t, h1, h2⟩, u, h3, h4⟩ := h
  exact ⟨⟨t, by omega, h2⟩, u, by omega, h4⟩
structure FP (H : Hp) (fa : Addr) (F : Nat → Addr) (L : Nat → Ln) (n : Nat) (C : Nat → Ce) (m k : Nat) (vs cs : List V) : Prop where
  fa : FA H fa F
  li : H (F 6) = some (.lst vs)
  an : AN (LN L H) vs (List.range n)
  wl : WL L n
  ce : H (F 7) = some (.lst cs)
  ca : AN (CE C H) cs (List.range m)
  wc : WC C m
  cb : ∀ i, i < m → 0 ≤ (C i).kb ∧ (C i).kb ≤ 2
  cm : ∀ i, i < m → (∃ t, t < k ∧ Nmd t (C i).rw) ∧ ∃ t, t < k ∧ Nmd t (C i).cl
  kb : ∀ i, i < n → 0 ≤ (L i).kb ∧ (L i).kb ≤ 2
  wy : ∀ i, i < n → (L i).wy = "row" ∨ (L i).wy = "column"
  nm : ∀ i, i < n → ∃ t, t < k ∧ Nmd t (L i).nk
  nk : n < k
  ck : m < k
def ext (L : Nat → Ln) (n : Nat) (r : Ln) : Nat → Ln := fun i => if i = n then r else L i
theorem ext_lt {L : Nat → Ln} {n : Nat} {r : Ln} {i : Nat} (h : i < n) : ext L n r i = L i := if_neg (by omega)
theorem ext_at {L : Nat → Ln} {n : Nat} {r : Ln} : ext L n r n = r := if_pos rfl
theorem LN.ext {L : Nat → Ln} {n : Nat} {r : Ln} {H : Hp} {v : V} {i : Nat} (hi : i < n) (hb : ∀ j, (L i).bh = some j → j < n) (h : LN L H v i) : LN (ext L n r) H v i := by
  obtain ⟨b, vp, vn, vb, kq, e, h1, h2, h3, h4, h5⟩ := h
  have ei : My.ext L n r i = L i := ext_lt hi
  refine ⟨b, vp, vn, vb, kq, e, by rw [ei]; exact h1, by rw [ei]; exact h2, ?_, ?_, by rw [ei]; exact h5⟩
  · unfold NM nkL
    rw [ei]
    exact h3
  · unfold bhL at h4 ⊢
    rw [ei]
    cases q : (L i).bh with
    | none => rw [q] at h4; exact h4
    | some j =>
      rw [q] at h4
      have : kd (nkL (My.ext L n r)) (some j) = kd (nkL L) (some j) := by
        show KD.tup (nkL (My.ext L n r) j) = KD.tup (nkL L j)
        unfold nkL
        rw [ext_lt (hb j q)]
      rw [this]
      exact h4
theorem WL.ext {L : Nat → Ln} {n : Nat} {r : Ln} (W : WL L n) (hn : n < 63) (up : ∀ i, i < n → Lt2 (L i).ka (L i).kb r.ka r.kb) (ne : ∀ i, i < n → (L i).nk ≠ r.nk) (bk : ∀ j, r.bh = some j → j < n ∧ (L j).pt = r.pt ∧ (L j).wy = r.wy) (l1 : Lay r.nk) (l2 : Lay r.pt) : WL (ext L n r) (n + 1) where
  few := hn
  up := fun i j h1 h2 => by
    by_cases z : j = n
    · subst z
      rw [ext_at, ext_lt h1]
      exact up i h1
    · rw [ext_lt (show j < n by omega), ext_lt (show i < n by omega)]
      exact W.up i j h1 (by omega)
  inj := fun i hi j hj e => by
    by_cases zi : i = n
    · by_cases zj : j = n
      · omega
      · rw [zi, ext_at, ext_lt (show j < n by omega)] at e
        exact absurd e.symm (ne j (by omega))
    · by_cases zj : j = n
      · rw [zj, ext_at, ext_lt (show i < n by omega)] at e
        exact absurd e (ne i (by omega))
      · rw [ext_lt (show i < n by omega), ext_lt (show j < n by omega)] at e
        exact W.inj i (by omega) j (by omega) e
  back := fun i hi j e => by
    by_cases z : i = n
    · subst z
      rw [ext_at] at e ⊢
      obtain ⟨h1, h2, h3⟩ := bk j e
      rw [ext_lt h1]
      exact ⟨h1, h2, h3⟩
    · rw [ext_lt (show i < n by omega)] at e ⊢
      obtain ⟨h1, h2, h3⟩ := W.back i (by omega) j e
      rw [ext_lt (show j < n by omega)]
      exact ⟨h1, h2, h3⟩
  lay := fun i hi => by
    by_cases z : i = n
    · subst z; rw [ext_at]; exact ⟨l1, l2⟩
    · rw [ext_lt (show i < n by omega)]; exact W.lay i (by omega)
theorem rd_ne {H : Hp} {a b : Addr} {kvs : List (Key × V)} {xs : List V} (r : Rd H a (.dK kvs)) (e : H b = some (.lst xs)) : a ≠ b := fun z => by
  subst z
  rcases r with r | ⟨o, r⟩ <;> rw [e] at r <;> cases r
theorem Rd.wr {H : Hp} {a b : Addr} {u o : HO} (r : Rd H a u) (h : a ≠ b) : Rd (upd H b o) a u := by
  rcases r with r | ⟨o, r⟩
  · exact .inl (by rw [upd_ne h]; exact r)
  · exact .inr ⟨o, by rw [upd_ne h]; exact r⟩
section
variable {H H' : Hp} {fa : Addr} {F : Nat → Addr} {L : Nat → Ln} {n : Nat} {C : Nat → Ce} {m k : Nat} {vs cs : List V}
theorem FP.to (h : FP H fa F L n C m k vs cs) (t : Tups H H') (hf : Rd H' fa (.dK (fkv F 9))) (hr : ∀ i, i < 9 → i ≠ 6 → i ≠ 7 → H' (F i) = some (.lst [])) (h6 : H' (F 6) = some (.lst vs)) (h7 : H' (F 7) = some (.lst cs)) : FP H' fa F L n C m k vs cs where
  fa := ⟨hf, h.fa.inj, hr⟩
  li := h6
  an := h.an.imp fun v i g => g.tups t
  wl := h.wl
  ce := h7
  ca := h.ca.imp fun v i g => g.tups t
  wc := h.wc
  cb := h.cb
  cm := h.cm
  kb := h.kb
  wy := h.wy
  nm := h.nm
  nk := h.nk
  ck := h.ck
theorem FP.same (h : FP H fa F L n C m k vs cs) (s : Same H H') : FP H' fa F L n C m k vs cs :=
  h.to s.tups (Rd.same h.fa.dk s) (fun i h1 h2 h3 => s _ _ (h.fa.rest i h1 h2 h3)) (s _ _ h.li) (s _ _ h.ce)
theorem FP.del (h : FP H fa F L n C m k vs cs) {p : Addr} {mm : Int} (e : H p = some (.lst [.int mm])) (n6 : p ≠ F 6) (n7 : p ≠ F 7) : FP (del H p) fa F L n C m k vs cs := by
  refine h.to (Tups.cut e (Same.refl _)) ?_ (fun i h1 h2 h3 => ?_) (by rw [del_ne n6.symm]; exact h.li) (by rw [del_ne n7.symm]; exact h.ce)
  · have ne := rd_ne h.fa.dk e
    rcases h.fa.dk with r | ⟨o, r⟩
    · exact .inl (by rw [del_ne ne]; exact r)
    · exact .inr ⟨o, by rw [del_ne ne]; exact r⟩
  · have := h.fa.rest i h1 h2 h3
    rw [del_ne (fun z => by rw [z, e] at this; cases this)]
    exact this
theorem FP.cell (h : FP H fa F L n C m k vs cs) (hk : k ≤ 63) {q kq : Addr} {vp vr vc : V} {r : Ce} (e : H q = some (.tup [vp, vr, vc, .str r.wd, .ref kq])) (g1 : GK H (.tup r.pt) vp) (g2 : GK H (.tup r.rw) vr) (g3 : GK H (.tup r.cl) vc) (g4 : H kq = some (.tup [.int r.ka, .int r.kb]))
    (up : ∀ i, i < m → Lt2 (C i).ka (C i).kb r.ka r.kb) (l : Lay r.pt ∧ Lay r.rw ∧ Lay r.cl) (w : Wd r.wd) (h0 : 0 ≤ r.kb) (h2 : r.kb ≤ 2) (nr : (∃ t, t < k ∧ Nmd t r.rw) ∧ ∃ t, t < k ∧ Nmd t r.cl) : FP (upd H (F 7) (.lst (cs ++ [.ref q]))) fa F L n (extC C m r) (m + 1) (k + 1) vs (cs ++ [.ref q]) where
  fa := ⟨Rd.wr h.fa.dk (rd_ne h.fa.dk h.ce), h.fa.inj, fun i h1 h2 h3 => by rw [upd_ne (fun z => h3 (h.fa.inj i h1 7 (by decide) z))]; exact h.fa.rest i h1 h2 h3⟩
  li := by rw [upd_ne (fun z => absurd (h.fa.inj 6 (by decide) 7 (by decide) z) (by decide))]; exact h.li
  an := h.an.imp fun v i g => g.tups (Tups.wl h.ce)
  wl := h.wl
  ce := upd_same
  ca := by
    rw [List.range_succ]
    refine AN.snoc (an_impM h.ca fun v i hi g => (g.tups (Tups.wl h.ce)).ext (List.mem_range.mp hi)) ?_
    have t : Tups H (upd H (F 7) (.lst (cs ++ [.ref q]))) := Tups.wl h.ce
    refine ⟨q, vp, vr, vc, kq, rfl, ?_⟩
    rw [extC_at]
    exact ⟨t _ _ e, g1.tups t, g2.tups t, g3.tups t, t _ _ g4⟩
  wc := h.wc.ext (by have := h.ck; omega) up l w
  cb := fun i hi => by
    by_cases z : i = m
    · subst z; rw [extC_at]; exact ⟨h0, h2⟩
    · rw [extC_lt (show i < m by omega)]; exact h.cb i (by omega)
  cm := fun i hi => by
    by_cases z : i = m
    · subst z; rw [extC_at]; exact cm_up (Nat.le_succ k) nr
    · rw [extC_lt (show i < m by omega)]; exact cm_up (Nat.le_succ k) (h.cm i (by omega))
  kb := h.kb
  wy := h.wy
  nm := fun i hi => let ⟨t, h1, h2⟩ := h.nm i hi; ⟨t, by omega, h2⟩
  nk := by have := h.nk; omega
  ck := by have := h.ck; omega
theorem FP.line (h : FP H fa F L n C m k vs cs) (hk : k ≤ 63) {q kq : Addr} {vp vn vb : V} {r : Ln} (e : H q = some (.tup [vp, .str r.wy, vn, vb, .ref kq, .bl r.lv])) (g1 : GK H (.tup r.pt) vp) (g2 : GK H (.tup r.nk) vn) (g3 : GK H (kd (nkL L) r.bh) vb) (g4 : H kq = some (.tup [.int r.ka, .int r.kb]))
    (up : ∀ i, i < n → Lt2 (L i).ka (L i).kb r.ka r.kb) (hn : Nmd k r.nk) (bk : ∀ j, r.bh = some j → j < n ∧ (L j).pt = r.pt ∧ (L j).wy = r.wy) (l1 : Lay r.nk) (l2 : Lay r.pt) (h0 : 0 ≤ r.kb) (h2 : r.kb ≤ 2) (hw : r.wy = "row" ∨ r.wy = "column") :
    FP (upd H (F 6) (.lst (vs ++ [.ref q]))) fa F (ext L n r) (n + 1) C m (k + 1) (vs ++ [.ref q]) cs where
  fa := ⟨Rd.wr h.fa.dk (rd_ne h.fa.dk h.li), h.fa.inj, fun i h1 h2 h3 => by rw [upd_ne (fun z => h2 (h.fa.inj i h1 6 (by decide) z))]; exact h.fa.rest i h1 h2 h3⟩
  li := upd_same
  an := by
    rw [List.range_succ]
    refine AN.snoc (an_impM h.an fun v i hi g => ?_) ?_
    · have hi := List.mem_range.mp hi
      exact LN.ext hi (fun j e => by have := h.wl.back i hi j e; omega) (g.tups (Tups.wl h.li))
    · have t : Tups H (upd H (F 6) (.lst (vs ++ [.ref q]))) := Tups.wl h.li
      refine ⟨q, vp, vn, vb, kq, rfl, by rw [ext_at]; exact t _ _ e, by rw [ext_at]; exact g1.tups t, ?_, ?_, by rw [ext_at]; exact t _ _ g4⟩
      · unfold NM nkL
        rw [ext_at]
        exact g2.tups t
      · unfold bhL
        rw [ext_at]
        cases z : r.bh with
        | none => rw [z] at g3; exact g3
        | some j =>
          rw [z] at g3
          have : kd (nkL (My.ext L n r)) (some j) = kd (nkL L) (some j) := by
            show KD.tup (nkL (My.ext L n r) j) = KD.tup (nkL L j)
            unfold nkL
            rw [ext_lt (bk j z).1]
          rw [this]
          exact GK.tups g3 t
  wl := h.wl.ext (by have := h.nk; omega) up (fun i hi e => by
    obtain ⟨t, h1, h2⟩ := h.nm i hi
    have := h2.inj (by rw [e]; exact hn)
    omega) bk l1 l2
  ce := by rw [upd_ne (fun z => absurd (h.fa.inj 7 (by decide) 6 (by decide) z) (by decide))]; exact h.ce
  ca := h.ca.imp fun v i g => g.tups (Tups.wl h.li)
  wc := h.wc
  cb := h.cb
  cm := fun i hi => cm_up (Nat.le_succ k) (h.cm i hi)
  kb := fun i hi => by
    by_cases z : i = n
    · subst z; rw [ext_at]; exact ⟨h0, h2⟩
    · rw [ext_lt (show i < n by omega)]; exact h.kb i (by omega)
  wy := fun i hi => by
    by_cases z : i = n
    · subst z; rw [ext_at]; exact hw
    · rw [ext_lt (show i < n by omega)]; exact h.wy i (by omega)
  nm := fun i hi => by
    by_cases z : i = n
    · subst z; rw [ext_at]; exact ⟨k, Nat.lt_succ_self k, hn⟩
    · rw [ext_lt (show i < n by omega)]
      obtain ⟨t, h1, h2⟩ := h.nm i (by omega)
      exact ⟨t, by omega, h2⟩
  nk := by have := h.nk; omega
  ck := by have := h.ck; omega
def K4 (H : Hp) (v : V) (a b : Int) : Prop := ∃ q xs kq, v = .ref q ∧ H q = some (.tup xs) ∧ xs[4]? = some (.ref kq) ∧ H kq = some (.tup [.int a, .int b])
theorem FP.keys (h : FP H fa F L n C m k vs cs) : ∃ kk : List (Int × Int), kk.length = (vs ++ cs).length ∧ (∀ (q : Nat) v e, (vs ++ cs)[q]? = some v → kk[q]? = some e → K4 H v e.1 e.2 ∧ 0 ≤ e.2 ∧ e.2 ≤ 2) ∧ (∀ i, i < n → ((L i).ka, (L i).kb) ∈ kk) ∧ ∀ i, i < m → ((C i).ka, (C i).kb) ∈ kk := by
  have hl : vs.length = n := by rw [h.an.1, List.length_range]
  have hc : cs.length = m := by rw [h.ca.1, List.length_range]
  refine ⟨(List.range n).map (fun i => ((L i).ka, (L i).kb)) ++ (List.range m).map (fun i => ((C i).ka, (C i).kb)), by rw [List.length_append, List.length_append, List.length_map, List.length_range, List.length_map, List.length_range, hc, hl], fun q v e q1 q2 => ?_, fun i hi => List.mem_append_left _ (List.mem_map.mpr ⟨i, List.mem_range.mpr hi, rfl⟩), fun i hi => List.mem_append_right _ (List.mem_map.mpr ⟨i, List.mem_range.mpr hi, rfl⟩)⟩
  by_cases hm : q < n
  · rw [List.getElem?_append_left (by omega)] at q1
    rw [List.getElem?_append_left (by rw [List.length_map, List.length_range]; exact hm), List.getElem?_map, List.getElem?_range hm] at q2
    cases Option.some.inj q2
    obtain ⟨b, vp, vn, vb, kq, rfl, e1, e2, e3, e4, e5⟩ := h.an.2 q v q q1 (List.getElem?_range hm)
    exact ⟨⟨b, _, kq, rfl, e1, rfl, e5⟩, h.kb q hm⟩
  · rw [List.getElem?_append_right (by omega)] at q1
    rw [List.getElem?_append_right (by rw [List.length_map, List.length_range]; omega), List.length_map, List.length_range, ← hl, List.getElem?_map] at q2
    have hq : q - vs.length < m := by rw [← hc]; exact (List.getElem?_eq_some_iff.mp q1).1
    rw [List.getElem?_range hq] at q2
    cases Option.some.inj q2
    obtain ⟨b, vp, vr, vc, kq, rfl, e1, e2, e3, e4, e5⟩ := h.ca.2 _ v _ q1 (List.getElem?_range hq)
    exact ⟨⟨b, _, kq, rfl, e1, rfl, e5⟩, h.cb _ hq⟩
end
def tI (e : Int × Int) : List Int := [e.1, e.2]
theorem not_lt2 {a b c d : Int} (h : ltD (.tuple [.int a, .int b]) (.tuple [.int c, .int d]) = false) : c < a ∨ (c = a ∧ d ≤ b) := by
  rcases Int.lt_or_le a c with z | z
  · rw [lt2_D (.inl z)] at h; cases h
  · by_cases e : a = c
    · rcases Int.lt_or_le b d with y | y
      · rw [lt2_D (.inr ⟨e, y⟩)] at h; cases h
      · exact .inr ⟨e.symm, y⟩
    · exact .inl (by omega)
theorem merge_two (x y : V) : mergeK [] [(.inr "row", x), (.inr "column", y)] = [(.inr "row", x), (.inr "column", y)] := by
  show putK (putK [] (Sum.inr "row" : Key) x) (Sum.inr "column" : Key) y = _
  rw [putK_new (kvs := []) (k := (Sum.inr "row" : Key)) x rfl, putK_new (kvs := [] ++ [((Sum.inr "row" : Key), x)]) (k := (Sum.inr "column" : Key)) y (by rw [List.nil_append, valV_neg (by show ¬ (Sum.inr (Str.ofString "row") : Key) = _; decide +kernel)]; rfl)]
  rfl
theorem two_row (x y : V) : valV ([(.inr "row", x), (.inr "column", y)] : List (Key × V)) (.inr "row") = some x := valV_pos rfl
theorem two_col (x y : V) : valV ([(.inr "row", x), (.inr "column", y)] : List (Key × V)) (.inr "column") = some y := by
  rw [valV_neg (by show ¬ (Sum.inr (Str.ofString "row") : Key) = _; decide +kernel)]
  exact valV_pos rfl
theorem ok_zoe : PyData.strOk "zoe" = true := by decide +kernel
theorem ok_ann : PyData.strOk "ann" = true := by decide +kernel
theorem ok_bo : PyData.strOk "bo" = true := by decide +kernel
theorem lay_two {z : Str} (h : PyData.strOk z = true) (x : Int) : Lay [.inr z, .inl x] := by
  show (PyData.strOk z && (true && true)) = true
  rw [h]; rfl
structure SW (Hd X : Hp) (p dq ra ca : Addr) (rv cv : List V) (W : Hp) : Prop where
  sd : Same Hd W
  tp : Tups X W
  ed : W dq = some (.dK [(.inr "row", .ref ra), (.inr "column", .ref ca)])
  er : W ra = some (.lst rv)
  ec : W ca = some (.lst cv)
  pl : ∃ m, W p = some (.lst [.int m])
theorem SW.same {Hd X W W' : Hp} {p dq ra ca : Addr} {rv cv : List V} (h : SW Hd X p dq ra ca rv cv W) (s : Same W W') : SW Hd X p dq ra ca rv cv W' :=
  ⟨h.sd.trans s, h.tp.trans s.tups, s _ _ h.ed, s _ _ h.er, s _ _ h.ec, let ⟨m, e⟩ := h.pl; ⟨m, s _ _ e⟩⟩
theorem SW.take {Hd X W : Hp} {p dq ra ca : Addr} {rv cv : List V} (h : SW Hd X p dq ra ca rv cv W) (dp : Hd p = none) (n1 : dq ≠ p) (n2 : ra ≠ p) (n3 : ca ≠ p) (m' : Int) : SW Hd X p dq ra ca rv cv (upd W p (.lst [.int m'])) :=
  ⟨h.sd.wr dp, let ⟨m, e⟩ := h.pl; h.tp.trans (Tups.wl e), by rw [upd_ne n1]; exact h.ed, by rw [upd_ne n2]; exact h.er, by rw [upd_ne n3]; exact h.ec, ⟨m', upd_same⟩⟩
theorem names_ok {L : Nat → Ln} {js : List Nat} (W : WJ L js) {pt : List Key} {wy : Str} : PyData.canLayAll0 ((lived L js pt wy).map (dN (nkL L))) = true ∧ PyData.depthAll ((lived L js pt wy).map (dN (nkL L))) ≤ 1 ∧ PyData.eqv (.list ((lived L js pt wy).map (dN (nkL L)))) (.list ((lived L js pt wy).map (dN (nkL L)))) = true := by
  refine ⟨lays_all fun d hd => ?_, depth_le fun d hd => ?_, list_self fun d hd => ?_⟩
  · obtain ⟨i, hi, rfl⟩ := List.mem_map.mp hd
    exact (W.lay i (lived_in W hi)).1
  · obtain ⟨i, hi, rfl⟩ := List.mem_map.mp hd
    exact deep_tD _
  · obtain ⟨i, hi, rfl⟩ := List.mem_map.mp hd
    exact noB_tD _
theorem lived_len {L : Nat → Ln} {js : List Nat} (W : WJ L js) {pt : List Key} {wy : Str} : (lived L js pt wy).length ≤ 1300 := by
  unfold lived
  have := List.length_filter_le (fun i => (L i).lv) (rowL L js pt wy)
  have h2 := rowL_len (pt := pt) (wy := wy) W
  have := W.few
  omega
theorem Wd.ok {z : Str} (h : Wd z) : PyData.strOk z = true := by
  rcases h with rfl | rfl | rfl | rfl <;> decide +kernel
structure WM (C : Nat → Ce) (ms : List Nat) : Prop where
  few : ms.length ≤ 63
  up : ms.Pairwise fun a b => ltD (.tuple [.int (C a).ka, .int (C a).kb]) (.tuple [.int (C b).ka, .int (C b).kb]) = true
  lay : ∀ i ∈ ms, Lay (C i).pt ∧ Lay (C i).rw ∧ Lay (C i).cl
  wd : ∀ i ∈ ms, Wd (C i).wd
theorem WC.wm {C : Nat → Ce} {m : Nat} (W : WC C m) : WM C (List.range m) where
  few := by rw [List.length_range]; exact W.few
  up := (range_up m).imp_of_mem fun {a b} ha hb h => lt2_D (W.up a b h (List.mem_range.mp hb))
  lay := fun i hi => W.lay i (List.mem_range.mp hi)
  wd := fun i hi => W.wd i (List.mem_range.mp hi)
def wAt (C : Nat → Ce) (ms : List Nat) (pt r c : List Key) : Str := ms.foldl (fun acc i => if (C i).pt = pt ∧ (C i).rw = r ∧ (C i).cl = c then (C i).wd else acc) ""
theorem wd_fold {C : Nat → Ce} {pt r c : List Key} : ∀ (ms : List Nat) (acc : Str), (∀ i ∈ ms, Wd (C i).wd) → Wd acc → Wd (ms.foldl (fun acc i => if (C i).pt = pt ∧ (C i).rw = r ∧ (C i).cl = c then (C i).wd else acc) acc)
  | [], _, _, h => h
  | i :: ms, acc, hw, h => by
    refine wd_fold ms _ (fun j hj => hw j (List.mem_cons_of_mem _ hj)) ?_
    show Wd (if (C i).pt = pt ∧ (C i).rw = r ∧ (C i).cl = c then (C i).wd else acc)
    by_cases q : (C i).pt = pt ∧ (C i).rw = r ∧ (C i).cl = c
    · rw [if_pos q]; exact hw i List.mem_cons_self
    · rw [if_neg q]; exact h
theorem wAt_wd {C : Nat → Ce} {ms : List Nat} (W : WM C ms) (pt r c : List Key) : Wd (wAt C ms pt r c) := wd_fold ms "" W.wd (.inl rfl)
def rowW (L : Nat → Ln) (C : Nat → Ce) (ms : List Nat) (pt : List Key) (cj : List Nat) (r : Nat) : List V := cj.map fun c => .str (wAt C ms pt (nkL L r) (nkL L c))
def rowD (L : Nat → Ln) (C : Nat → Ce) (ms : List Nat) (pt : List Key) (cj : List Nat) (r : Nat) : List PyData := cj.map fun c => .str (wAt C ms pt (nkL L r) (nkL L c))
def WR (L : Nat → Ln) (C : Nat → Ce) (ms : List Nat) (pt : List Key) (cj : List Nat) (H0 H : Hp) (v : V) (r : Nat) : Prop := ∃ a, v = .ref a ∧ H0 a = none ∧ H a = some (.lst (rowW L C ms pt cj r))
theorem WR.same {L : Nat → Ln} {C : Nat → Ce} {ms : List Nat} {pt : List Key} {cj : List Nat} {H0 H H' : Hp} {v : V} {r : Nat} (h : WR L C ms pt cj H0 H v r) (s : Same H H') : WR L C ms pt cj H0 H' v r := by
  obtain ⟨a, h1, h2, h3⟩ := h
  exact ⟨a, h1, h2, s _ _ h3⟩
theorem row_dvs {K : PySem.W.Frag} {H : Hp} {L : Nat → Ln} {C : Nat → Ce} {ms : List Nat} {pt : List Key} {r : Nat} : ∀ cj : List Nat, DVs K H (rowW L C ms pt cj r) (rowD L C ms pt cj r)
  | [] => .nil
  | _ :: cj => .cons (.str _) (row_dvs cj)
theorem WR.dvs {K : PySem.W.Frag} {L : Nat → Ln} {C : Nat → Ce} {ms : List Nat} {pt : List Key} {cj : List Nat} {H0 H : Hp} : ∀ {ws : List V} {js : List Nat}, AN (WR L C ms pt cj H0 H) ws js → DVs K H ws (js.map fun r => .list (rowD L C ms pt cj r))
  | [], [], _ => .nil
  | [], _ :: _, h => absurd h.1 (by simp)
  | _ :: _, [], h => absurd h.1 (by simp)
  | v :: ws, r :: js, h => by
    obtain ⟨a, rfl, _, e⟩ := h.2 0 v r rfl rfl
    exact .cons (.lst (SqL.of e) (row_dvs cj)) (WR.dvs ⟨by have := h.1; simpa using this, fun q v i e1 e2 => h.2 (q + 1) v i (by simpa using e1) (by simpa using e2)⟩)
theorem an_impM2 {P P' : V → Nat → Prop} {vs : List V} {js : List Nat} (h : AN P vs js) (f : ∀ v i, v ∈ vs → P v i → P' v i) : AN P' vs js := ⟨h.1, fun m v i e1 e2 => f _ _ (List.mem_of_getElem? e1) (h.2 m v i e1 e2)⟩
theorem putAll_val {k : KD} {d : V} : ∀ (kvs acc : List (KD × V × V)), (vG (putAll acc kvs) k).getD d = kvs.foldl (fun a e => if e.1 = k then e.2.2 else a) ((vG acc k).getD d)
  | [], acc => rfl
  | e :: kvs, acc => by
    show (vG (putAll (pG acc e.1 e.2.1 e.2.2) kvs) k).getD d = _
    rw [putAll_val kvs, vG_put, List.foldl_cons]
    by_cases h : e.1 = k
    · rw [if_pos h.symm, if_pos h]; rfl
    · rw [if_neg (fun z => h z.symm), if_neg h]
theorem told_fold (C : Nat → Ce) (pt r c : List Key) : ∀ (ms : List Nat) (acc : Str), (ms.filter fun i => decide ((C i).pt = pt)).foldl (fun a i => if KD.two (C i).rw (C i).cl = KD.two r c then V.str (C i).wd else a) (V.str acc) = .str (ms.foldl (fun acc i => if (C i).pt = pt ∧ (C i).rw = r ∧ (C i).cl = c then (C i).wd else acc) acc)
  | [], _ => rfl
  | i :: ms, acc => by
    by_cases hp : (C i).pt = pt
    · rw [List.filter_cons_of_pos (by simpa using hp), List.foldl_cons, List.foldl_cons]
      by_cases hk : (C i).rw = r ∧ (C i).cl = c
      · rw [if_pos (by rw [hk.1, hk.2]), if_pos ⟨hp, hk⟩]
        exact told_fold C pt r c ms _
      · rw [if_neg (fun z => hk (by injection z with z1 z2; exact ⟨z1, z2⟩)), if_neg (fun z => hk z.2)]
        exact told_fold C pt r c ms _
    · rw [List.filter_cons_of_neg (by simpa using hp), List.foldl_cons, if_neg (fun z => hp z.1)]
      exact told_fold C pt r c ms acc
theorem words_ok {L : Nat → Ln} {C : Nat → Ce} {ms : List Nat} (W : WM C ms) (pt : List Key) (cj js : List Nat) : PyData.canLayAll0 (js.map fun r => .list (rowD L C ms pt cj r)) = true ∧ PyData.depthAll (js.map fun r => .list (rowD L C ms pt cj r)) ≤ 1 ∧ PyData.eqv (.list (js.map fun r => .list (rowD L C ms pt cj r))) (.list (js.map fun r => .list (rowD L C ms pt cj r))) = true := by
  refine ⟨lays_all fun d hd => ?_, depth_le fun d hd => ?_, list_self fun d hd => ?_⟩
  · obtain ⟨r, hr, rfl⟩ := List.mem_map.mp hd
    show PyData.canLayAll0 (rowD L C ms pt cj r) = true
    refine lays_all fun d hd => ?_
    obtain ⟨c, _, rfl⟩ := List.mem_map.mp hd
    exact (wAt_wd W _ _ _).ok
  · obtain ⟨r, hr, rfl⟩ := List.mem_map.mp hd
    have : PyData.depthAll (rowD L C ms pt cj r) ≤ 0 := depth_le fun d hd => by
      obtain ⟨c, _, rfl⟩ := List.mem_map.mp hd
      exact Nat.le_refl 0
    show PyData.depthAll (rowD L C ms pt cj r) + 1 ≤ 1
    omega
  · obtain ⟨r, hr, rfl⟩ := List.mem_map.mp hd
    rw [noB]
    exact noBs_all fun d hd => by obtain ⟨c, _, rfl⟩ := List.mem_map.mp hd; rfl
def TB (H : Hp) (fa : Addr) (L : Nat → Ln) (js : List Nat) (C : Nat → Ce) (ms : List Nat) : Prop := ∃ kvs la vs ca cs, Rd H fa (.dK kvs) ∧ valV kvs (.inr "lines") = some (.ref la) ∧ H la = some (.lst vs) ∧ AN (LN L H) vs js ∧ WJ L js ∧ valV kvs (.inr "cells") = some (.ref ca) ∧ H ca = some (.lst cs) ∧ AN (CE C H) cs ms ∧ WM C ms
theorem TB.fl {H : Hp} {fa : Addr} {L : Nat → Ln} {js : List Nat} {C : Nat → Ce} {ms : List Nat} (h : TB H fa L js C ms) : FL H fa L js := by
  obtain ⟨kvs, la, vs, ca, cs, h1, h2, h3, h4, h5, _⟩ := h
  exact ⟨kvs, la, vs, h1, h2, h3, h4, h5⟩
theorem TB.same {H H' : Hp} {fa : Addr} {L : Nat → Ln} {js : List Nat} {C : Nat → Ce} {ms : List Nat} (h : TB H fa L js C ms) (s : Same H H') : TB H' fa L js C ms := by
  obtain ⟨kvs, la, vs, ca, cs, h1, h2, h3, h4, h5, h6, h7, h8, h9⟩ := h
  exact ⟨kvs, la, vs, ca, cs, Rd.same h1 s, h2, s _ _ h3, h4.imp fun v i g => g.tups s.tups, h5, h6, s _ _ h7, h8.imp fun v i g => g.tups s.tups, h9⟩
theorem FP.tb {H : Hp} {fa : Addr} {F : Nat → Addr} {L : Nat → Ln} {n : Nat} {C : Nat → Ce} {m k : Nat} {vs cs : List V} (h : FP H fa F L n C m k vs cs) : TB H fa L (List.range n) C (List.range m) :=
  ⟨fkv F 9, F 6, vs, F 7, cs, h.fa.dk, fkv_at F 6 (by decide), h.li, h.an, h.wl.wj, fkv_at F 7 (by decide), h.ce, h.ca, h.wc.wm⟩
def tabD (L : Nat → Ln) (js : List Nat) (C : Nat → Ce) (ms : List Nat) (pt : List Key) : PyData := .tuple [.list ((lived L js pt "row").map (dN (nkL L))), .list ((lived L js pt "column").map (dN (nkL L))), .list ((lived L js pt "row").map fun r => .list (rowD L C ms pt (lived L js pt "column") r))]
theorem tab_ok {L : Nat → Ln} {js : List Nat} {C : Nat → Ce} {ms : List Nat} (WJn : WJ L js) (WMm : WM C ms) (pt : List Key) : (tabD L js C ms pt).canLay0 = true ∧ PyData.eqv (tabD L js C ms pt) (tabD L js C ms pt) = true ∧ (tabD L js C ms pt).depth ≤ 3 := by
  obtain ⟨layr, depr, selfr⟩ := names_ok (pt := pt) (wy := "row") WJn
  obtain ⟨layc, depc, selfc⟩ := names_ok (pt := pt) (wy := "column") WJn
  obtain ⟨layw, depw, selfw⟩ := words_ok (L := L) WMm pt (lived L js pt "column") (lived L js pt "row")
  refine ⟨?_, ?_, ?_⟩
  · show (PyData.canLayAll0 _ && (PyData.canLayAll0 _ && (PyData.canLayAll0 _ && true))) = true
    rw [layr, layc, layw]; rfl
  · show (PyData.eqv (.list _) (.list _) && (PyData.eqv (.list _) (.list _) && (PyData.eqv (.list _) (.list _) && true))) = true
    rw [selfr, selfc, selfw]; rfl
  · show max (PyData.depthAll _ + 1) (max (PyData.depthAll _ + 1) (max (PyData.depthAll _ + 1) 0)) + 1 ≤ 3
    omega
def TV (L : Nat → Ln) (js : List Nat) (C : Nat → Ce) (ms : List Nat) (pt : List Key) (H : Hp) (v : V) : Prop := ∃ q rp cp wp zr zc ws, v = .ref q ∧ H q = some (.tup [.ref rp, .ref cp, .ref wp]) ∧ H rp = some (.lst zr) ∧ H cp = some (.lst zc) ∧ H wp = some (.lst ws) ∧
  AN (NM (nkL L) H) zr (lived L js pt "row") ∧ AN (NM (nkL L) H) zc (lived L js pt "column") ∧ ∃ H0, AN (WR L C ms pt (lived L js pt "column") H0 H) ws (lived L js pt "row")
theorem TV.dv {K : PySem.W.Frag} {L : Nat → Ln} {js : List Nat} {C : Nat → Ce} {ms : List Nat} {pt : List Key} {H : Hp} {v : V} (h : TV L js C ms pt H v) : DV K H v (tabD L js C ms pt) := by
  obtain ⟨q, rp, cp, wp, zr, zc, ws, rfl, h2, h3, h4, h5, h6, h7, H0, h8⟩ := h
  exact .tup (SqT.of h2) (.cons (.lst (SqL.of h3) (AN.dts (fun v i g => NM.dt g) h6).dv) (.cons (.lst (SqL.of h4) (AN.dts (fun v i g => NM.dt g) h7).dv) (.cons (.lst (SqL.of h5) (WR.dvs h8)) .nil)))
theorem dvs_strs {K : PySem.W.Frag} {H : Hp} (f : Nat → Str) : ∀ l : List Nat, DVs K H (l.map fun r => V.str (f r)) (l.map fun r => PyData.str (f r))
  | [] => .nil
  | _ :: l => .cons (.str _) (dvs_strs f l)
theorem fold_congr {α : Type} {f g : α → Nat → α} : ∀ (ms : List Nat) (a : α), (∀ a, ∀ i ∈ ms, f a i = g a i) → ms.foldl f a = ms.foldl g a
  | [], _, _ => rfl
  | i :: ms, a, h => by
    rw [List.foldl_cons, List.foldl_cons, h a i List.mem_cons_self]
    exact fold_congr ms _ fun a j hj => h a j (List.mem_cons_of_mem _ hj)
theorem after_split {a b : Nat} : ∀ {row : List Nat}, b ∈ row → ∃ T D, row = T ++ b :: D ∧ Rga.after b a row = T ++ b :: a :: D
  | x :: xs, h => by
    unfold Rga.after
    by_cases e : x = b
    · rw [if_pos e, e]; exact ⟨[], xs, rfl, rfl⟩
    · rw [if_neg e]
      rcases List.mem_cons.mp h with z | z
      · exact absurd z.symm e
      · obtain ⟨T, D, h1, h2⟩ := after_split (a := a) z
        exact ⟨x :: T, D, by rw [h1]; rfl, by rw [h2]; rfl⟩
section
variable {L : Nat → Ln} {n : Nat} {r : Ln} {pt : List Key} {wy : Str}
theorem nk_ext {i : Nat} (h : i < n) : nkL (ext L n r) i = nkL L i := by unfold nkL; rw [ext_lt h]
theorem mines_ext : mines (ext L n r) (List.range (n + 1)) pt wy = mines L (List.range n) pt wy ++ if mine (ext L n r) pt wy n = true then [n] else [] := by
  unfold mines
  rw [List.range_succ, List.filter_append]
  congr 1
  · refine List.filter_congr fun i hi => ?_
    unfold mine
    rw [ext_lt (List.mem_range.mp hi)]
  · by_cases h : mine (ext L n r) pt wy n = true
    · rw [List.filter_cons_of_pos h, if_pos h]; rfl
    · rw [List.filter_cons_of_neg h, if_neg h]; rfl
theorem qs_ext : Rga.qsOf (bhL (ext L n r)) (mines L (List.range n) pt wy) = Rga.qsOf (bhL L) (mines L (List.range n) pt wy) := by
  unfold Rga.qsOf
  refine List.map_congr_left fun k hk => ?_
  have hk := List.mem_range.mp (List.mem_filter.mp (List.mem_reverse.mp hk)).1
  unfold bhL
  rw [ext_lt hk]
theorem rowL_skip (h : ¬ mine (ext L n r) pt wy n = true) : rowL (ext L n r) (List.range (n + 1)) pt wy = rowL L (List.range n) pt wy := by
  unfold rowL
  rw [mines_ext, if_neg h, List.append_nil, qs_ext]
theorem rowL_pick (h : mine (ext L n r) pt wy n = true) : rowL (ext L n r) (List.range (n + 1)) pt wy = Rga.ins (n, r.bh) (rowL L (List.range n) pt wy) := by
  unfold rowL
  rw [mines_ext, if_pos h, ← qs_ext (r := r)]
  unfold Rga.qsOf
  rw [List.reverse_append]
  show Rga.ins (n, (ext L n r n).bh) _ = _
  rw [ext_at]
  rfl
theorem rowL_mem {L : Nat → Ln} {js : List Nat} {i : Nat} (W : WJ L js) : i ∈ rowL L js pt wy ↔ i ∈ js ∧ (L i).pt = pt ∧ (L i).wy = wy := by
  have e := Rga.nms_qs (bhL L) (mines L js pt wy)
  have h : i ∈ rowL L js pt wy ↔ i ∈ Rga.nms (Rga.qsOf (bhL L) (mines L js pt wy)) := (Rga.row_perm (W.plw pt wy).wf).mem_iff
  rw [h, e, List.mem_reverse]
  unfold mines
  rw [List.mem_filter, mine_iff]
theorem rowL_split (W : WL L n) (W' : WL (ext L n r) (n + 1)) (h : mine (ext L n r) pt wy n = true) : ∃ T D, rowL L (List.range n) pt wy = T ++ D ∧ rowL (ext L n r) (List.range (n + 1)) pt wy = T ++ n :: D ∧ (r.bh = none → T = []) ∧ ∀ b, r.bh = some b → ∃ T0, T = T0 ++ [b] := by
  rw [rowL_pick h]
  cases e : r.bh with
  | none => exact ⟨[], _, rfl, rfl, fun _ => rfl, fun b z => by cases z⟩
  | some b =>
    obtain ⟨hp, hw⟩ := mine_iff.mp h
    rw [ext_at] at hp hw
    obtain ⟨h1, h2, h3⟩ := W'.back n (Nat.lt_succ_self n) b (by rw [ext_at]; exact e)
    rw [ext_at, ext_lt h1] at h2 h3
    have hm : b ∈ rowL L (List.range n) pt wy := (rowL_mem W.wj).mpr ⟨List.mem_range.mpr h1, h2.trans hp, h3.trans hw⟩
    obtain ⟨T, D, e1, e2⟩ := after_split (a := n) hm
    refine ⟨T ++ [b], D, by rw [e1, List.append_assoc]; rfl, ?_, (fun z => by cases z), (fun c z => by cases z; exact ⟨T, rfl⟩)⟩
    show Rga.after b n _ = _
    rw [e2, List.append_assoc]
    rfl
theorem lived_lt (W : WL L n) {i : Nat} (h : i ∈ lived L (List.range n) pt wy) : i < n := List.mem_range.mp (lived_in W.wj h)
theorem lived_skip (W : WL L n) (h : ¬ mine (ext L n r) pt wy n = true) : lived (ext L n r) (List.range (n + 1)) pt wy = lived L (List.range n) pt wy := by
  unfold lived
  rw [rowL_skip h]
  exact List.filter_congr fun i hi => by rw [ext_lt (List.mem_range.mp (rowL_in W.wj hi))]
theorem lived_split (W : WL L n) (W' : WL (ext L n r) (n + 1)) (h : mine (ext L n r) pt wy n = true) : ∃ A B, lived L (List.range n) pt wy = A ++ B ∧ (r.lv = false → lived (ext L n r) (List.range (n + 1)) pt wy = A ++ B) ∧ (r.lv = true → lived (ext L n r) (List.range (n + 1)) pt wy = A ++ n :: B) ∧ (r.bh = none → A = []) ∧ ∀ b, r.bh = some b → b ∈ A ++ B → ∃ A0, A = A0 ++ [b] := by
  obtain ⟨T, D, e1, e2, e3, e4⟩ := rowL_split W W' h
  have lt : ∀ i ∈ T ++ D, i < n := fun i hi => List.mem_range.mp (rowL_in (pt := pt) (wy := wy) W.wj (by rw [e1]; exact hi))
  have fT : T.filter (fun i => (ext L n r i).lv) = T.filter fun i => (L i).lv := List.filter_congr fun i hi => by rw [ext_lt (lt i (List.mem_append_left _ hi))]
  have fD : D.filter (fun i => (ext L n r i).lv) = D.filter fun i => (L i).lv := List.filter_congr fun i hi => by rw [ext_lt (lt i (List.mem_append_right _ hi))]
  refine ⟨T.filter fun i => (L i).lv, D.filter fun i => (L i).lv, ?_, fun z => ?_, fun z => ?_, fun z => ?_, fun b hb hm => ?_⟩
  · unfold lived
    rw [e1, List.filter_append]
  · unfold lived
    rw [e2, List.filter_append, List.filter_cons_of_neg (by rw [ext_at, z]; decide), fT, fD]
  · unfold lived
    rw [e2, List.filter_append, List.filter_cons_of_pos (by rw [ext_at]; exact z), fT, fD]
  · rw [e3 z]; rfl
  · obtain ⟨T0, rfl⟩ := e4 b hb
    have hl : (L b).lv = true := by
      rcases List.mem_append.mp hm with z | z
      · exact (List.mem_filter.mp z).2
      · exact (List.mem_filter.mp z).2
    exact ⟨T0.filter fun i => (L i).lv, by rw [List.filter_append, List.filter_cons_of_pos (p := fun i => (L i).lv) hl]; rfl⟩
end
def tabX (nk : Nat → List Key) (C : Nat → Ce) (ms : List Nat) (pt : List Key) (R Q : List Nat) : PyData := .tuple [.list (R.map (dN nk)), .list (Q.map (dN nk)), .list (R.map fun r => .list (Q.map fun c => .str (wAt C ms pt (nk r) (nk c))))]
theorem tabX_congr {nk nk' : Nat → List Key} {C C' : Nat → Ce} {ms ms' : List Nat} {pt : List Key} {R Q : List Nat} (hR : ∀ i ∈ R, nk' i = nk i) (hQ : ∀ i ∈ Q, nk' i = nk i) (hw : ∀ i ∈ R, ∀ c ∈ Q, wAt C' ms' pt (nk i) (nk c) = wAt C ms pt (nk i) (nk c)) : tabX nk' C' ms' pt R Q = tabX nk C ms pt R Q := by
  have dn : ∀ (l : List Nat), (∀ i ∈ l, nk' i = nk i) → l.map (dN nk') = l.map (dN nk) := fun l h => List.map_congr_left fun i hi => by unfold dN; rw [h i hi]
  unfold tabX
  rw [dn R hR, dn Q hQ]
  have e : (R.map fun r => PyData.list (Q.map fun c => .str (wAt C' ms' pt (nk' r) (nk' c)))) = R.map fun r => PyData.list (Q.map fun c => .str (wAt C ms pt (nk r) (nk c))) := by
    refine List.map_congr_left fun i hi => ?_
    congr 1
    refine List.map_congr_left fun c hc => ?_
    rw [hR i hi, hQ c hc, hw i hi c hc]
  rw [e]
theorem wAt_ext {C : Nat → Ce} {m : Nat} {r : Ce} {pt x y : List Key} : wAt (extC C m r) (List.range (m + 1)) pt x y = if r.pt = pt ∧ r.rw = x ∧ r.cl = y then r.wd else wAt C (List.range m) pt x y := by
  unfold wAt
  rw [List.range_succ, List.foldl_append]
  show (if (extC C m r m).pt = pt ∧ (extC C m r m).rw = x ∧ (extC C m r m).cl = y then (extC C m r m).wd else _) = _
  rw [extC_at]
  congr 1
  exact fold_congr _ _ fun a i hi => by rw [extC_lt (List.mem_range.mp hi)]
theorem fold_no {C : Nat → Ce} {pt x y : List Key} : ∀ (ms : List Nat) (acc : Str), (∀ i ∈ ms, ¬ ((C i).rw = x ∧ (C i).cl = y)) → ms.foldl (fun acc i => if (C i).pt = pt ∧ (C i).rw = x ∧ (C i).cl = y then (C i).wd else acc) acc = acc
  | [], _, _ => rfl
  | i :: ms, acc, h => by
    rw [List.foldl_cons, if_neg fun z => h i List.mem_cons_self z.2]
    exact fold_no ms acc fun j hj => h j (List.mem_cons_of_mem _ hj)
theorem wAt_no {C : Nat → Ce} {ms : List Nat} {pt x y : List Key} (h : ∀ i ∈ ms, ¬ ((C i).rw = x ∧ (C i).cl = y)) : wAt C ms pt x y = "" := fold_no ms "" h
def nq (o : Option Nat) (k : Nat) : Bool := decide (o ≠ some k)
theorem nq_none (l : List Nat) : l.filter (nq none) = l := List.filter_eq_self.mpr fun k _ => rfl
theorem nq_split {A B : List Nat} {n : Nat} (h : ∀ i ∈ A ++ B, i < n) : (A ++ n :: B).filter (nq (some n)) = A ++ B := by
  have f : ∀ l : List Nat, (∀ i ∈ l, i < n) → l.filter (nq (some n)) = l := fun l h => List.filter_eq_self.mpr fun k hk => decide_eq_true fun z => by
    cases z
    exact absurd (h _ hk) (Nat.lt_irrefl _)
  rw [List.filter_append, List.filter_cons_of_neg (by unfold nq; simp), f A fun i hi => h i (List.mem_append_left _ hi), f B fun i hi => h i (List.mem_append_right _ hi)]
def opD (nk : Nat → List Key) : Option Nat → PyData
  | none => .none
  | some i => tD (nk i)
theorem opD_dt {nk : Nat → List Key} {H : Hp} {o : Option Nat} {v : V} (g : GK H (kd nk o) v) : DT H v (opD nk o) := by
  cases o with
  | none => have g : v = .non := g; subst g; exact .non
  | some i => exact gk_td g
theorem opD_eqv {nk : Nat → List Key} {i : Nat} {o : Option Nat} (inj : ∀ j, o = some j → nk i = nk j → i = j) : PyData.eqv (tD (nk i)) (opD nk o) = !nq o i := by
  unfold nq
  cases o with
  | none => rfl
  | some j =>
    show PyData.eqv (tD (nk i)) (tD (nk j)) = _
    rw [tD_eqv]
    by_cases h : i = j
    · subst h
      rw [decide_eq_true rfl, decide_eq_false (fun z => z rfl)]; rfl
    · rw [decide_eq_false (fun z => h (inj j rfl z)), decide_eq_true (show some j ≠ some i from fun z => h (Option.some.inj z).symm)]; rfl
theorem opD_ok {nk : Nat → List Key} {o : Option Nat} (h : ∀ i, o = some i → Lay (nk i)) : (opD nk o).canLay0 = true := by
  cases o with
  | none => rfl
  | some i => exact h i rfl
def WRs (L : Nat → Ln) (C : Nat → Ce) (ms : List Nat) (pt : List Key) (cj : List Nat) (S : Addr → Prop) (H : Hp) (v : V) (r : Nat) : Prop := ∃ a, v = .ref a ∧ S a ∧ H a = some (.lst (rowW L C ms pt cj r))
inductive TW (L : Nat → Ln) (js : List Nat) (C : Nat → Ce) (ms : List Nat) (pt : List Key) (S : Addr → Prop) (H : Hp) (v : V) : Prop
  | mk (q rp cp wp : Addr) (zr zc ws : List V) (h0 : v = .ref q) (h1 : H q = some (.tup [.ref rp, .ref cp, .ref wp])) (h2 : S rp ∧ S cp ∧ S wp) (h3 : H rp = some (.lst zr)) (h4 : H cp = some (.lst zc)) (h5 : H wp = some (.lst ws)) (h6 : AN (NM (nkL L) H) zr (lived L js pt "row")) (h7 : AN (NM (nkL L) H) zc (lived L js pt "column")) (h8 : AN (WRs L C ms pt (lived L js pt "column") S H) ws (lived L js pt "row")) : TW L js C ms pt S H v
theorem TW.to {L : Nat → Ln} {js : List Nat} {C : Nat → Ce} {ms : List Nat} {pt : List Key} {S S' : Addr → Prop} {H H' : Hp} {v : V} (h : TW L js C ms pt S H v) (t : Tups H H') (s : ∀ a o, S a → H a = some o → H' a = some o) (w : ∀ a o, S a → H a = some o → S' a) : TW L js C ms pt S' H' v := by
  obtain ⟨q, rp, cp, wp, zr, zc, ws, h0, h1, ⟨k1, k2, k3⟩, h3, h4, h5, h6, h7, h8⟩ := h
  exact ⟨q, rp, cp, wp, zr, zc, ws, h0, t _ _ h1, ⟨w _ _ k1 h3, w _ _ k2 h4, w _ _ k3 h5⟩, s _ _ k1 h3, s _ _ k2 h4, s _ _ k3 h5, h6.imp (fun v i g => NM.tups g t), h7.imp (fun v i g => NM.tups g t), h8.imp fun v i g => let ⟨a, e, g1, g2⟩ := g; ⟨a, e, w _ _ g1 g2, s _ _ g1 g2⟩⟩
theorem TW.same {L : Nat → Ln} {js : List Nat} {C : Nat → Ce} {ms : List Nat} {pt : List Key} {S : Addr → Prop} {H H' : Hp} {v : V} (h : TW L js C ms pt S H v) (s : Same H H') : TW L js C ms pt S H' v := h.to s.tups (fun _ _ _ e => s _ _ e) fun _ _ z _ => z
theorem TW.dv {K : PySem.W.Frag} {L : Nat → Ln} {js : List Nat} {C : Nat → Ce} {ms : List Nat} {pt : List Key} {S : Addr → Prop} {H : Hp} {v : V} (h : TW L js C ms pt S H v) : DV K H v (tabD L js C ms pt) := by
  obtain ⟨q, rp, cp, wp, zr, zc, ws, rfl, h2, _, h3, h4, h5, h6, h7, h8⟩ := h
  have tv : TV L js C ms pt H (.ref q) := ⟨q, rp, cp, wp, zr, zc, ws, rfl, h2, h3, h4, h5, h6, h7, fun _ => none, h8.imp fun v i g => let ⟨a, e, _, g2⟩ := g; ⟨a, e, rfl, g2⟩⟩
  exact tv.dv
def WG (w : Nat → Nat → Str) (Q : List Nat) (S : Addr → Prop) (H : Hp) (v : V) (r : Nat) : Prop := ∃ a, v = .ref a ∧ S a ∧ H a = some (.lst (Q.map fun c => V.str (w r c)))
theorem WG.dvs {K : PySem.W.Frag} {w : Nat → Nat → Str} {Q : List Nat} {S : Addr → Prop} {H : Hp} : ∀ {ws : List V} {js : List Nat}, AN (WG w Q S H) ws js → DVs K H ws (js.map fun r => .list (Q.map fun c => .str (w r c)))
  | [], [], _ => .nil
  | [], _ :: _, h => absurd h.1 (by simp)
  | _ :: _, [], h => absurd h.1 (by simp)
  | v :: ws, r :: js, h => by
    obtain ⟨a, rfl, _, e⟩ := h.2 0 v r rfl rfl
    exact .cons (.lst (SqL.of e) (dvs_strs (w r) Q)) (WG.dvs ⟨by have := h.1; simpa using this, fun q v i e1 e2 => h.2 (q + 1) v i (by simpa using e1) (by simpa using e2)⟩)
theorem deep_op {nk : Nat → List Key} {i : Nat} {o : Option Nat} : min (tD (nk i)).depth (opD nk o).depth ≤ 64 := Nat.le_trans (Nat.min_le_left _ _) (Nat.le_trans (deep_tD _) (by decide))
theorem take_pick {l : List Nat} {p : Nat → Bool} {j x : Nat} (h : l[j]? = some x) (hp : p x = true) : (l.take (j + 1)).filter p = (l.take j).filter p ++ [x] := by
  rw [List.take_add_one, h]
  show (l.take j ++ [x]).filter p = _
  rw [List.filter_append, List.filter_cons_of_pos hp]
  rfl
theorem take_skip {l : List Nat} {p : Nat → Bool} {j x : Nat} (h : l[j]? = some x) (hp : ¬ p x = true) : (l.take (j + 1)).filter p = (l.take j).filter p := by
  rw [List.take_add_one, h]
  show (l.take j ++ [x]).filter p = _
  rw [List.filter_append, List.filter_cons_of_neg hp, List.filter_nil, List.append_nil]
section
variable {L : Nat → Ln} {n : Nat} {r : Ln} {pt : List Key} {wy : Str} {C : Nat → Ce} {ms : List Nat}
theorem lived_dead (W : WL L n) (W' : WL (ext L n r) (n + 1)) (h : r.lv = false) : lived (ext L n r) (List.range (n + 1)) pt wy = lived L (List.range n) pt wy := by
  by_cases hm : mine (ext L n r) pt wy n = true
  · obtain ⟨A, B, e1, e2, _⟩ := lived_split W W' hm
    rw [e2 h, e1]
  · exact lived_skip W hm
theorem tab_same (W : WL L n) (hr : lived (ext L n r) (List.range (n + 1)) pt "row" = lived L (List.range n) pt "row") (hc : lived (ext L n r) (List.range (n + 1)) pt "column" = lived L (List.range n) pt "column") : tabD (ext L n r) (List.range (n + 1)) C ms pt = tabD L (List.range n) C ms pt := by
  show tabX _ _ _ _ (lived (ext L n r) (List.range (n + 1)) pt "row") (lived (ext L n r) (List.range (n + 1)) pt "column") = tabX _ _ _ _ _ _
  rw [hr, hc]
  exact tabX_congr (fun i hi => nk_ext (lived_lt W hi)) (fun i hi => nk_ext (lived_lt W hi)) fun _ _ _ _ => rfl
theorem tab_back (W : WL L n) {R Q : List Nat} (hr : R = lived L (List.range n) pt "row") (hc : Q = lived L (List.range n) pt "column") : tabX (nkL (ext L n r)) C ms pt R Q = tabD L (List.range n) C ms pt := by
  subst hr hc
  exact tabX_congr (fun i hi => nk_ext (lived_lt W hi)) (fun i hi => nk_ext (lived_lt W hi)) fun _ _ _ _ => rfl
end
theorem dN_eqv {nk : Nat → List Key} {i x : Nat} : PyData.eqv (dN nk i) (tD (nk x)) = decide (nk i = nk x) := tD_eqv _ _
theorem cnt_none {nk : Nat → List Key} {x : Nat} : ∀ {A : List Nat}, (∀ i ∈ A, nk i ≠ nk x) → (A.map (dN nk)).countP (fun d => PyData.eqv d (tD (nk x))) = 0 := fun {A} h => by
  rw [List.countP_eq_zero]
  intro d hd
  obtain ⟨i, hi, rfl⟩ := List.mem_map.mp hd
  rw [dN_eqv, decide_eq_false (h i hi)]
  decide
theorem cnt_one {nk : Nat → List Key} {A B : List Nat} {x : Nat} (h : ∀ i ∈ A ++ B, nk i ≠ nk x) : ((A ++ x :: B).map (dN nk)).countP (fun d => PyData.eqv d (tD (nk x))) = 1 := by
  rw [List.map_append, List.countP_append, cnt_none fun i hi => h i (List.mem_append_left _ hi), List.map_cons, List.countP_cons_of_pos (by rw [dN_eqv]; exact decide_eq_true rfl), cnt_none fun i hi => h i (List.mem_append_right _ hi)]
theorem idx_split {nk : Nat → List Key} {A B : List Nat} {x : Nat} (h : ∀ i ∈ A, nk i ≠ nk x) : (∃ d, ((A ++ x :: B).map (dN nk))[A.length]? = some d ∧ PyData.eqv d (tD (nk x)) = true) ∧ ∀ (m : Nat) d, m < A.length → ((A ++ x :: B).map (dN nk))[m]? = some d → PyData.eqv d (tD (nk x)) = false := by
  constructor
  · refine ⟨dN nk x, ?_, by rw [dN_eqv]; exact decide_eq_true rfl⟩
    rw [List.getElem?_map, List.getElem?_append_right (Nat.le_refl _), Nat.sub_self]
    rfl
  · intro m d hm e
    rw [List.getElem?_map, List.getElem?_append_left hm, List.getElem?_eq_getElem hm] at e
    cases Option.some.inj e
    rw [dN_eqv]
    exact decide_eq_false (h _ (List.getElem_mem hm))
theorem any_op {nk : Nat → List Key} {js : List Nat} {o : Option Nat} (inj : ∀ b, o = some b → ∀ k ∈ js, nk k = nk b → k = b) : (js.map (dN nk)).any (fun d => PyData.eqv d (opD nk o)) = decide (∃ b, o = some b ∧ b ∈ js) := by
  cases o with
  | none =>
    rw [decide_eq_false (by rintro ⟨b, z, _⟩; cases z)]
    rw [List.any_eq_false]
    intro d hd
    obtain ⟨i, _, rfl⟩ := List.mem_map.mp hd
    exact fun z => by cases z
  | some b =>
    rw [Bool.eq_iff_iff, List.any_eq_true, decide_eq_true_iff]
    constructor
    · rintro ⟨d, hd, e⟩
      obtain ⟨i, hi, rfl⟩ := List.mem_map.mp hd
      have e : PyData.eqv (dN nk i) (tD (nk b)) = true := e
      rw [dN_eqv] at e
      have := inj b rfl i hi (of_decide_eq_true e)
      exact ⟨b, rfl, this ▸ hi⟩
    · rintro ⟨c, z, hc⟩
      cases z
      exact ⟨_, List.mem_map.mpr ⟨b, hc, rfl⟩, dN_eqv.trans (decide_eq_true rfl)⟩
theorem lived_nodup {L : Nat → Ln} {js : List Nat} {pt : List Key} {wy : Str} (W : WJ L js) : (lived L js pt wy).Nodup := (Rga.row_nodup (W.plw pt wy).wf).filter _
theorem any_key {nk : Nat → List Key} {js : List Nat} {ks : List Key} : (js.map (dN nk)).any (fun d => PyData.eqv d (tD ks)) = decide (∃ i, i ∈ js ∧ nk i = ks) := by
  rw [Bool.eq_iff_iff, List.any_eq_true, decide_eq_true_iff]
  constructor
  · rintro ⟨d, hd, e⟩
    obtain ⟨i, hi, rfl⟩ := List.mem_map.mp hd
    exact ⟨i, hi, of_decide_eq_true ((tD_eqv _ _).symm.trans e)⟩
  · rintro ⟨i, hi, e⟩
    exact ⟨_, List.mem_map.mpr ⟨i, hi, rfl⟩, (tD_eqv _ _).trans (decide_eq_true e)⟩
theorem set_word {f g : Nat → Str} {A B : List Nat} {c : Nat} (h : ∀ i ∈ A ++ B, g i = f i) : ((A ++ c :: B).map fun i => V.str (f i)).set A.length (.str (g c)) = (A ++ c :: B).map fun i => V.str (g i) := by
  have e : ∀ l : List Nat, (∀ i ∈ l, g i = f i) → (l.map fun i => V.str (f i)) = l.map fun i => V.str (g i) := fun l h => List.map_congr_left fun i hi => by rw [h i hi]
  rw [List.map_append, List.map_append, List.map_cons, List.map_cons, List.set_append_right _ _ (by rw [List.length_map]; exact Nat.le_refl _), List.length_map, Nat.sub_self, e A fun i hi => h i (List.mem_append_left _ hi), e B fun i hi => h i (List.mem_append_right _ hi)]
  rfl
inductive Stp (k : Nat) (L : Nat → Ln) (n : Nat) (C : Nat → Ce) (m : Nat) (ls cs : List V) : (Nat → Ln) → Nat → (Nat → Ce) → Nat → List V → List V → Prop
  | line (r : Ln) (v : V) : Nmd k r.nk → Stp k L n C m ls cs (ext L n r) (n + 1) C m (ls ++ [v]) cs
  | cell (r : Ce) (v : V) : Stp k L n C m ls cs L n (extC C m r) (m + 1) ls (cs ++ [v])
def ptL : List (List Key) := [[.inr "", .inl 0], [.inr "ann", .inl 1], [.inr "ann", .inl 12], [.inr "bo", .inl 2]]
theorem ptL_lay {c : Nat} {pt : List Key} (h : ptL[c]? = some pt) : Lay pt := by
  have hm := List.mem_of_getElem? h
  unfold ptL at hm
  simp only [List.mem_cons, List.not_mem_nil, or_false] at hm
  rcases hm with rfl | rfl | rfl | rfl <;> (unfold Lay; decide +kernel)
structure TQ (L : Nat → Ln) (n : Nat) (C : Nat → Ce) (m : Nat) (S : Addr → Prop) (H : Hp) (us : List V) : Prop where
  len : us.length = 4
  all : ∀ (c : Nat) v pt, us[c]? = some v → ptL[c]? = some pt → TW L (List.range n) C (List.range m) pt S H v
theorem TQ.to {L : Nat → Ln} {n : Nat} {C : Nat → Ce} {m : Nat} {S : Addr → Prop} {H H' : Hp} {us : List V} (h : TQ L n C m S H us) (t : Tups H H') (s : ∀ a o, S a → H a = some o → H' a = some o) : TQ L n C m S H' us := ⟨h.len, fun c v pt e1 e2 => (h.all c v pt e1 e2).to t s fun _ _ z _ => z⟩
theorem TQ.same {L : Nat → Ln} {n : Nat} {C : Nat → Ce} {m : Nat} {S : Addr → Prop} {H H' : Hp} {us : List V} (h : TQ L n C m S H us) (s : Same H H') : TQ L n C m S H' us := h.to s.tups fun _ _ _ e => s _ _ e
theorem four {us : List V} (h : us.length = 4) : ∃ a b c d, us = [a, b, c, d] := by
  match us, h with
  | [a, b, c, d], _ => exact ⟨a, b, c, d, rfl⟩
theorem cut_last {xs : List V} {v : V} : cutV (xs ++ [v]) (some (-1)) none = [v] := by
  unfold cutV
  have h : HT.sIx (xs ++ [v]).length 0 (some (-1)) = xs.length := by
    unfold HT.sIx
    rw [List.length_append, List.length_singleton]
    simp only []
    split <;> omega
  have h2 : HT.sIx (xs ++ [v]).length (xs ++ [v]).length none = (xs ++ [v]).length := rfl
  rw [h, h2, List.drop_left, List.length_append, List.length_singleton, Nat.add_sub_cancel_left]
  rfl
def Rest (H H' : Hp) (S : Addr → Prop) : Prop := ∀ b o, H b = some o → ¬ S b → H' b = some o
def sp_flines_of (_ : PySem.W.Frag) : Sp := fun vs H Q _ => ∃ fa vp pt wy L js, vs = [.ref fa, vp, .str wy] ∧ FL H fa L js ∧ GK H (.tup pt) vp ∧ Lay pt ∧ ∀ H' q zs, Same H H' → H q = none → H' q = some (.lst zs) → AN (NM (nkL L) H') zs (lived L js pt wy) → Q (.ref q) H'
def sp_fkey_of_cell (_ : PySem.W.Frag) : Sp := fun vs H Q _ => ∃ v C i, vs = [v] ∧ CE C H v i ∧ ∀ kv, DT H kv (.tuple [.int (C i).ka, .int (C i).kb]) → Q kv H
def sp_fwords_told (_ : PySem.W.Frag) : Sp := fun vs H Q _ => ∃ fa vp pt L js C ms, vs = [.ref fa, vp] ∧ TB H fa L js C ms ∧ GK H (.tup pt) vp ∧ Lay pt ∧ ∀ H' dq kvs, Same H H' → H dq = none → H' dq = some (.dG kvs) → (∀ r c, (vG kvs (.two r c)).getD (.str "") = .str (wAt C ms pt r c)) → Q (.ref dq) H'
def sp_ftable_of (_ : PySem.W.Frag) : Sp := fun vs H Q _ => ∃ fa vp pt L js C ms, vs = [.ref fa, vp] ∧ TB H fa L js C ms ∧ GK H (.tup pt) vp ∧ Lay pt ∧ ∀ H' q, Same H H' → H q = none → TW L js C ms pt (fun a => H a = none) H' (.ref q) → Q (.ref q) H'
def sp_f_law_cell_at (K : PySem.W.Frag) : Sp := fun vs H Q _ => ∃ sp ns k, vs = [.ref sp, .int k] ∧ SqL K H sp (List.map V.int ns) ∧ 0 ≤ k ∧ k ≤ 63 ∧ ∀ c, Q (.int c) H
def sp_f_law_pool (_ : PySem.W.Frag) : Sp := fun vs H Q _ => ∃ c, vs = [.int c] ∧ ∀ H' p m, Same H H' → H p = none → H' p = some (.lst [.int m]) → Q (.ref p) H'
def sp_f_law_take (_ : PySem.W.Frag) : Sp := fun vs H Q _ => ∃ p m k, vs = [.ref p, .int k] ∧ H p = some (.lst [.int m]) ∧ 0 < k ∧ k < 1073741824 ∧ ∀ r m', 0 ≤ r → r < k → Q (.int r) (upd H p (.lst [.int m']))
def sp_f_law_bare (_ : PySem.W.Frag) : Sp := fun vs H Q _ => vs = [] ∧ ∀ H' fa F, Same H H' → H fa = none → (∀ i, i < 9 → H (F i) = none) → H' fa = some (.dK (fkv F 9)) → (∀ i, i < 9 → ∀ j, j < 9 → F i = F j → i = j) → (∀ i, i < 9 → H' (F i) = some (.lst [])) → Q (.ref fa) H'
inductive Isp_f_law_put (vs : List V) (H : Hp) (Q : VK) : Prop
  | mk (fa p : Addr) (F : Nat → Addr) (L : Nat → Ln) (n : Nat) (C : Nat → Ce) (mc : Nat) (cs ls : List V) (m : Int) (k : Nat) (h0 : vs = [.ref fa, .ref p, .int (k : Int)]) (h1 : FP H fa F L n C mc k ls cs) (h2 : H p = some (.lst [.int m])) (h3 : p ≠ F 6) (h4 : p ≠ F 7) (h5 : k ≤ 63)
    (h6 : ∀ H' L' n' C' m' ls' cs', FP H' fa F L' n' C' m' (k + 1) ls' cs' → Stp k L n C mc ls cs L' n' C' m' ls' cs' → Rest H H' (fun b => b = p ∨ b = F 6 ∨ b = F 7) → Q .non H') : Isp_f_law_put vs H Q
def sp_f_law_put (_ : PySem.W.Frag) : Sp := fun vs H Q _ => Isp_f_law_put vs H Q
def sp_f_law_without (K : PySem.W.Frag) : Sp := fun vs H Q _ => ∃ v vr vc L js C ms pt S ri ci, vs = [v, vr, vc] ∧ TW L js C ms pt S H v ∧ WJ L js ∧ GK H (kd (nkL L) ri) vr ∧ GK H (kd (nkL L) ci) vc ∧ (∀ i, ri = some i → i ∈ js) ∧ (∀ i, ci = some i → i ∈ js) ∧ ∀ H' q, Same H H' → DV K H' (.ref q) (tabX (nkL L) C ms pt ((lived L js pt "row").filter (nq ri)) ((lived L js pt "column").filter (nq ci))) → Q (.ref q) H'
def sp_f_law_line_right (_ : PySem.W.Frag) : Sp := fun vs H Q _ => ∃ va vb vt L n r C m k pt S S', vs = [va, vb, vt] ∧ WL L n ∧ WL (ext L n r) (n + 1) ∧ WC C m ∧ (∀ i, i < m → (∃ t, t < k ∧ Nmd t (C i).rw) ∧ ∃ t, t < k ∧ Nmd t (C i).cl) ∧ Nmd k r.nk ∧ r.pt = pt ∧ (r.wy = "row" ∨ r.wy = "column") ∧ TW L (List.range n) C (List.range m) pt S H va ∧ TW (ext L n r) (List.range (n + 1)) C (List.range m) pt S' H vb ∧ LN (ext L n r) H vt n ∧ ∀ H', Same H H' → Q (.bl true) H'
def sp_f_law_cell_right (_ : PySem.W.Frag) : Sp := fun vs H Q _ => ∃ va vb vt L n C m r pt S S', vs = [va, vb, vt] ∧ WL L n ∧ WC (extC C m r) (m + 1) ∧ r.pt = pt ∧ TW L (List.range n) C (List.range m) pt S H va ∧ TW L (List.range n) (extC C m r) (List.range (m + 1)) pt S' H vb ∧ CE (extC C m r) H vt m ∧ ∀ H', Same H H' → Q (.bl true) H'
def sp_flaw (K : PySem.W.Frag) : Sp := fun vs H Q _ => ∃ sp ns, vs = [.ref sp] ∧ SqL K H sp (List.map V.int ns) ∧ ns.length ≤ 63 ∧ ∀ H', Q (.bl true) H'
section
variable {K : PySem.W.Frag} {vs : List V} {H : Hp} {Q : VK} {E : XK}
theorem len_flines_of (h : sp_flines_of K vs H Q E) : vs.length = 3 := by obtain ⟨_, _, _, _, _, _, rfl, _⟩ := h; rfl
theorem len_fkey_of_cell (h : sp_fkey_of_cell K vs H Q E) : vs.length = 1 := by obtain ⟨_, _, _, rfl, _⟩ := h; rfl
theorem len_fwords_told (h : sp_fwords_told K vs H Q E) : vs.length = 2 := by obtain ⟨_, _, _, _, _, _, _, rfl, _⟩ := h; rfl
theorem len_ftable_of (h : sp_ftable_of K vs H Q E) : vs.length = 2 := by obtain ⟨_, _, _, _, _, _, _, rfl, _⟩ := h; rfl
theorem len_f_law_cell_at (h : sp_f_law_cell_at K vs H Q E) : vs.length = 2 := by obtain ⟨_, _, _, rfl, _⟩ := h; rfl
theorem len_f_law_pool (h : sp_f_law_pool K vs H Q E) : vs.length = 1 := by obtain ⟨_, rfl, _⟩ := h; rfl
theorem len_f_law_take (h : sp_f_law_take K vs H Q E) : vs.length = 2 := by obtain ⟨_, _, _, rfl, _⟩ := h; rfl
theorem len_f_law_bare (h : sp_f_law_bare K vs H Q E) : vs.length = 0 := by obtain ⟨rfl, _⟩ := h; rfl
theorem len_f_law_put (h : sp_f_law_put K vs H Q E) : vs.length = 3 := by obtain ⟨_, _, _, _, _, _, _, _, _, _, _, rfl, _⟩ := h; rfl
theorem len_f_law_without (h : sp_f_law_without K vs H Q E) : vs.length = 3 := by obtain ⟨_, _, _, _, _, _, _, _, _, _, _, rfl, _⟩ := h; rfl
theorem len_f_law_line_right (h : sp_f_law_line_right K vs H Q E) : vs.length = 3 := by obtain ⟨_, _, _, _, _, _, _, _, _, _, _, _, rfl, _⟩ := h; rfl
theorem len_f_law_cell_right (h : sp_f_law_cell_right K vs H Q E) : vs.length = 3 := by obtain ⟨_, _, _, _, _, _, _, _, _, _, _, rfl, _⟩ := h; rfl
theorem len_flaw (h : sp_flaw K vs H Q E) : vs.length = 1 := by obtain ⟨_, _, rfl, _⟩ := h; rfl
end
theorem law_spec : ∀ (K : PySem.W.Frag) (H : Hp) (a : Addr) (ns : List Int), ns.length ≤ 63 → Only H → SqL K H a (ns.map V.int) → sp_flaw K [.ref a] H (fun v _ => v = .bl true) fun _ _ _ => False :=
  fun K H a ns h1 _ h3 => ⟨a, ns, rfl, h3, h1, fun _ => rfl⟩
theorem sc_fkey_of_place : FnScope ["place"] ["place"] (defScope s_fkey_of_place) := ⟨rfl, rfl, rfl, by decide +kernel, rfl, by decide +kernel, by decide +kernel⟩
theorem sc_fkey_of_cell : FnScope ["cell"] ["cell"] (defScope s_fkey_of_cell) := ⟨rfl, rfl, rfl, by decide +kernel, rfl, by decide +kernel, by decide +kernel⟩
theorem sc_f_law_cell_at : FnScope ["_law_script", "_law_k"] ["_law_script", "_law_k"] (defScope s_f_law_cell_at) := ⟨rfl, rfl, rfl, by decide +kernel, rfl, by decide +kernel, by decide +kernel⟩
theorem sc_f_law_pool : FnScope ["_law_cell", "_law_seed", "_law_number", "_law_turn"] ["_law_cell"] (defScope s_f_law_pool) := ⟨rfl, rfl, rfl, by decide +kernel, rfl, by decide +kernel, by decide +kernel⟩
theorem sc_f_law_take : FnScope ["_law_pool_here", "_law_many", "_law_found"] ["_law_pool_here", "_law_many"] (defScope s_f_law_take) := ⟨rfl, rfl, rfl, by decide +kernel, rfl, by decide +kernel, by decide +kernel⟩
theorem sc_f_law_bare : FnScope ["_law_found", "_law_key"] [] (defScope s_f_law_bare) := ⟨rfl, rfl, rfl, by decide +kernel, rfl, by decide +kernel, by decide +kernel⟩
theorem sc_f_law_without : FnScope ["_law_table", "_law_row", "_law_column", "_law_rows", "_law_columns", "_law_words", "_law_found", "_law_at"] ["_law_table", "_law_row", "_law_column"] (defScope s_f_law_without) := ⟨rfl, rfl, rfl, by decide +kernel, rfl, by decide +kernel, by decide +kernel⟩
theorem sc_f_law_cell_right : FnScope ["_law_ahead", "_law_behind", "_law_told", "_law_part", "_law_row", "_law_column", "_law_word", "_law_key", "_law_due"] ["_law_ahead", "_law_behind", "_law_told"] (defScope s_f_law_cell_right) := ⟨rfl, rfl, rfl, by decide +kernel, rfl, by decide +kernel, by decide +kernel⟩
theorem sc_f_law_put : FnScope ["_law_facts", "_law_pool_here", "_law_k", "_law_parts", "_law_part", "_law_kind", "_law_ahead", "_law_key", "_law_there", "_law_home", "_law_way", "_law_line", "_law_behind", "_law_told", "_law_lives", "_law_row", "_law_column", "_law_word", "_law_some", "_law_mine"] ["_law_facts", "_law_pool_here", "_law_k"] (defScope s_f_law_put) := ⟨rfl, rfl, rfl, by decide +kernel, rfl, by decide +kernel, by decide +kernel⟩
theorem sc_f_law_line_right : FnScope ["_law_ahead", "_law_behind", "_law_told", "_law_part", "_law_way", "_law_line", "_law_before", "_law_key", "_law_lives", "_law_lines", "_law_at", "_law_some"] ["_law_ahead", "_law_behind", "_law_told"] (defScope s_f_law_line_right) := ⟨rfl, rfl, rfl, by decide +kernel, rfl, by decide +kernel, by decide +kernel⟩
theorem sc_ffollowers_of : FnScope ["places", "followers", "place"] ["places"] (defScope s_ffollowers_of) := ⟨rfl, rfl, rfl, by decide +kernel, rfl, by decide +kernel, by decide +kernel⟩
theorem sc_fwords_told : FnScope ["facts", "part", "cells"] ["facts", "part"] (defScope s_fwords_told) := ⟨rfl, rfl, rfl, by decide +kernel, rfl, by decide +kernel, by decide +kernel⟩
theorem sc_fordered : FnScope ["places", "followers", "row", "to_come", "name"] ["places"] (defScope s_fordered) := ⟨rfl, rfl, rfl, by decide +kernel, rfl, by decide +kernel, by decide +kernel⟩
theorem sc_flines_of : FnScope ["facts", "part", "way", "lines", "lives"] ["facts", "part", "way"] (defScope s_flines_of) := ⟨rfl, rfl, rfl, by decide +kernel, rfl, by decide +kernel, by decide +kernel⟩
theorem sc_ftable_of : FnScope ["facts", "part", "rows", "columns", "told", "words", "row"] ["facts", "part"] (defScope s_ftable_of) := ⟨rfl, rfl, rfl, by decide +kernel, rfl, by decide +kernel, by decide +kernel⟩
theorem sc_flaw : FnScope ["_law_script", "_law_facts", "_law_parts", "_law_tables", "_law_k", "_law_many", "_law_told", "_law_behind", "_law_place"] ["_law_script"] (defScope s_flaw) := ⟨rfl, rfl, rfl, by decide +kernel, rfl, by decide +kernel, by decide +kernel⟩
section
variable {P : Program} {w : World} {K : PySem.W.Frag} {mg : Str → Option Value} {base : Heap} {d : Adr} {tk : Str → Tok}
theorem ok_fkey_of_place (T : Txt K mg d tk) : FnOk P w K mg base CX0 1 d.fkey_of_place d.fkey_of_placed ["place"] (sp_fkey_of_place K) := by
  refine T.F_fkey_of_place.ok sc_fkey_of_place (fun vs H Q E h => len_fkey_of_place h) (fun cdv A outer s H vs Q E hr h => ?_)
  have hu : (A.deeper (envOfC "key_of_place" (defScope s_fkey_of_place) s.heap.objs.size d.fkey_of_place cdv)).units < cLine := hr.units0
  refine ⟨_, (@pss_one _ _ _ (@ps_ret _ _ _ _ (@pe_ix _ _ _ _ _ _ _ ix_tup (@pv _ 0 _ _ rfl (Or.inl rfl) rfl rfl) (@pe_int _ _ _ _) (fun _ _ => rfl)))), ?_⟩
  obtain ⟨v, nk, bh, D, k, rfl, pl, kk⟩ := h
  obtain ⟨b, vn, vb, vk, rfl, e1, e2, e3, e4⟩ := pl
  exact ⟨_, rfl, b, _, 2, _, rfl, rfl, SqT.of e1, rfl, kk vk e4⟩
theorem ok_fkey_of_cell (T : Txt K mg d tk) : FnOk P w K mg base CX0 1 d.fkey_of_cell d.fkey_of_celld ["cell"] (sp_fkey_of_cell K) := by
  refine T.F_fkey_of_cell.ok sc_fkey_of_cell (fun vs H Q E h => len_fkey_of_cell h) (fun cdv A outer s H vs Q E hr h => ?_)
  have hu : (A.deeper (envOfC "key_of_cell" (defScope s_fkey_of_cell) s.heap.objs.size d.fkey_of_cell cdv)).units < cLine := hr.units0
  refine ⟨_, (@pss_one _ _ _ (@ps_ret _ _ _ _ (@pe_ix _ _ _ _ _ _ _ ix_tup (@pv _ 0 _ _ rfl (Or.inl rfl) rfl rfl) (@pe_int _ _ _ _) (fun _ _ => rfl)))), ?_⟩
  obtain ⟨v, C, i, rfl, ce, kk⟩ := h
  obtain ⟨b, vp, vr, vc, kq, rfl, h1, h2, h3, h4, h5⟩ := ce
  exact ⟨_, rfl, b, _, 4, _, rfl, rfl, SqT.of h1, rfl, kk _ (.tup h5 (.cons (.int _) (.cons (.int _) .nil)))⟩
theorem ok_f_law_cell_at (T : Txt K mg d tk) : FnOk P w K mg base CX0 1 d.f_law_cell_at d.f_law_cell_atd ["_law_script", "_law_k"] (sp_f_law_cell_at K) := by
  refine T.F_f_law_cell_at.ok sc_f_law_cell_at (fun vs H Q E h => len_f_law_cell_at h) (fun cdv A outer s H vs Q E hr h => ?_)
  have hu : (A.deeper (envOfC "_law_cell_at" (defScope s_f_law_cell_at) s.heap.objs.size d.f_law_cell_at cdv)).units < cLine := hr.units0
  refine ⟨_, (@pss_cons _ _ _ _ _ (@ps_if _ _ _ _ _ _ _ _ (@pt_cmpR _ _ _ _ _ _ _ _ op_lt (@pv _ 1 _ _ rfl (Or.inl rfl) rfl rfl) (@pe_callB _ _ _ _ _ _ _ _ _ call_len_seq (by rfl) T.b_len boot_len (@pa_cons _ _ _ _ _ (@pv _ 0 _ _ rfl (Or.inl rfl) rfl rfl) (@pa_nil _) (by rfl)) (by decide) (by decide) (by rfl) (by rfl)) (nomark _)) (@pss_one _ _ _ (@ps_ret _ _ _ _ (@pe_ix _ _ _ _ _ _ _ ix_any (@pv _ 0 _ _ rfl (Or.inl rfl) rfl rfl) (@pv _ 1 _ _ rfl (Or.inl rfl) rfl rfl) (fun _ _ => rfl)))) (@pss_nil _)) (@pss_one _ _ _ (@ps_ret _ _ _ _ (@pe_op _ _ _ _ _ _ _ _ op_add (@pe_op _ _ _ _ _ _ _ _ op_add (@pe_op _ _ _ _ _ _ _ _ op_mul (@pv _ 1 _ _ rfl (Or.inl rfl) rfl rfl) (@pv _ 1 _ _ rfl (Or.inl rfl) rfl rfl)) (@pe_op _ _ _ _ _ _ _ _ op_mul (@pe_int _ _ _ _) (@pv _ 1 _ _ rfl (Or.inl rfl) rfl rfl))) (@pe_int _ _ _ _))))), ?_⟩
  obtain ⟨sp, ns, k, rfl, hs, hk, hk2, kk⟩ := h
  refine ⟨_, rfl, _, rfl, sp, _, rfl, .inl hs, _, _, rfl, rfl, _, rfl, ?_⟩
  by_cases hl : k < ((List.map V.int ns).length : Nat)
  · refine itT (decide_eq_true hl) ?_
    refine ⟨_, rfl, _, rfl, sp, _, _, rfl, rfl, hs, hk, hl, fun v hv => ?_⟩
    obtain ⟨m, _, rfl⟩ := List.mem_map.mp hv
    exact kk m
  · refine itF (decide_eq_false hl) ?_
    exact ⟨_, rfl, _, rfl, _, _, rfl, rfl, .inl ⟨by omega, by omega⟩, _, rfl, _, _, rfl, rfl, .inl ⟨by decide, by decide⟩, _, _, rfl, rfl, _, _, rfl, rfl, kk _⟩
theorem ok_f_law_pool (T : Txt K mg d tk) : FnOk P w K mg base CX0 1 d.f_law_pool d.f_law_poold ["_law_cell"] (sp_f_law_pool K) := by
  refine T.F_f_law_pool.ok sc_f_law_pool (fun vs H Q E h => len_f_law_pool h) (fun cdv A outer s H vs Q E hr h => ?_)
  have hu : (A.deeper (envOfC "_law_pool" (defScope s_f_law_pool) s.heap.objs.size d.f_law_pool cdv)).units < cLine := hr.units0
  refine ⟨_, (@pss_cons _ _ _ _ _ (@ps_if _ _ _ _ _ _ _ _ (@pt_cmpR _ _ _ _ _ _ _ _ op_ge (@pv _ 0 _ _ rfl (Or.inl rfl) rfl rfl) (@pe_op _ _ _ _ _ _ _ _ op_pow (@pe_int _ _ _ _) (@pe_int _ _ _ _)) (nomark _)) (@pss_one _ _ _ (@ps_ret _ _ _ _ (@pe_lstA _ _ _ _ (@pa_cons _ _ _ _ _ (@pv _ 0 _ _ rfl (Or.inl rfl) rfl rfl) (@pa_nil _) (by rfl))))) (@pss_nil _)) (@pss_cons _ _ _ _ _ (@ps_set _ _ (1) _ _ _ _ sc_f_law_pool.nd rfl (Or.inl rfl) (@pe_op _ _ _ _ _ _ _ _ op_mod (@pv _ 0 _ _ rfl (Or.inl rfl) rfl rfl) (@pe_int _ _ _ _)) (by rfl) (by first | exact .inl rfl | exact .inr rfl)) (@pss_cons _ _ _ _ _ (@ps_set _ _ (2) _ _ _ _ sc_f_law_pool.nd rfl (Or.inl rfl) (@pe_int _ _ _ _) (by rfl) (by first | exact .inl rfl | exact .inr rfl)) (@pss_cons _ _ _ _ _ (@ps_for _ _ _ _ _ _ _ _ PassesOwn.never rfl (@pi_range1 _ _ _ _ _ _ (by rfl) T.b_range (@pa_cons _ _ _ _ _ (@pe_int _ _ _ _) (@pa_nil _) (by rfl)) (by rfl)) (@pg_name _ _ (3) _ sc_f_law_pool.nd rfl (Or.inl rfl) (by first | exact .inl rfl | exact .inr rfl)) (@pss_cons _ _ _ _ _ (@ps_set _ _ (1) _ _ _ _ sc_f_law_pool.nd rfl (Or.inl rfl) (@pe_op _ _ _ _ _ _ _ _ op_mod (@pe_op _ _ _ _ _ _ _ _ op_add (@pe_op _ _ _ _ _ _ _ _ op_add (@pe_op _ _ _ _ _ _ _ _ op_add (@pe_op _ _ _ _ _ _ _ _ op_mul (@pv _ 1 _ _ rfl (Or.inl rfl) rfl rfl) (@pv _ 1 _ _ rfl (Or.inl rfl) rfl rfl)) (@pe_op _ _ _ _ _ _ _ _ op_mul (@pe_int _ _ _ _) (@pv _ 1 _ _ rfl (Or.inl rfl) rfl rfl))) (@pe_int _ _ _ _)) (@pv _ 3 _ _ rfl (Or.inl rfl) rfl rfl)) (@pe_int _ _ _ _)) (by rfl) (by first | exact .inl rfl | exact .inr rfl)) (@pss_one _ _ _ (@ps_set _ _ (2) _ _ _ _ sc_f_law_pool.nd rfl (Or.inl rfl) (@pe_op _ _ _ _ _ _ _ _ op_add (@pe_op _ _ _ _ _ _ _ _ op_mul (@pv _ 2 _ _ rfl (Or.inl rfl) rfl rfl) (@pe_int _ _ _ _)) (@pe_op _ _ _ _ _ _ _ _ op_mod (@pe_op _ _ _ _ _ _ _ _ op_mul (@pv _ 1 _ _ rfl (Or.inl rfl) rfl rfl) (@pv _ 1 _ _ rfl (Or.inl rfl) rfl rfl)) (@pe_int _ _ _ _))) (by rfl) (by first | exact .inl rfl | exact .inr rfl)))) (by intro _; rfl)) (@pss_one _ _ _ (@ps_ret _ _ _ _ (@pe_lstA _ _ _ _ (@pa_cons _ _ _ _ _ (@pv _ 2 _ _ rfl (Or.inl rfl) rfl rfl) (@pa_nil _) (by rfl))))))))), ?_⟩
  obtain ⟨c, rfl, kk⟩ := h
  refine ⟨_, rfl, _, _, rfl, rfl, ⟨by decide, by decide, by decide⟩, _, _, rfl, rfl, _, rfl, ?_⟩
  by_cases hc : (10 : Int) ^ (18 : Int).toNat ≤ c
  · refine itT (decide_eq_true hc) ?_
    exact ⟨_, rfl, szOk rfl, fun p H' g s e => kk H' p c s g e⟩
  refine itF (decide_eq_false hc) ?_
  refine ⟨_, rfl, _, _, rfl, rfl, (by show (0 : Int) < 2147483629; decide), ?_⟩
  refine ⟨5, rfl, by decide, by decide, for_range (lo := 0) (n := 5) (fun j σ H' => ∃ (s m : Int) (u3 : Option V), σ = [some (.int c), some (.int s), some (.int m), u3] ∧ H' = H ∧ 0 ≤ s ∧ s < 2147483629) ⟨_, 0, none, rfl, rfl, mod_lo _ (by decide), mod_hi _ (by decide)⟩ ?_ ?_⟩
  · rintro j σ H' hj ⟨s, m, u3, rfl, rfl, h0, h1⟩
    have hm : 0 ≤ (s * s + 40692 * s + 7 + (0 + (j : Int))) % 2147483399 := mod_lo _ (by decide)
    have hm2 : (s * s + 40692 * s + 7 + (0 + (j : Int))) % 2147483399 < 2147483399 := mod_hi _ (by decide)
    refine ⟨_, rfl, _, rfl, _, _, rfl, rfl, .inl ⟨by omega, by omega⟩, _, rfl, _, _, rfl, rfl, .inl ⟨by decide, by decide⟩, _, _, rfl, rfl, _, _, rfl, rfl, _, rfl, _, _, rfl, rfl, _, _, rfl, rfl, (by show (0 : Int) < 2147483399; decide), ?_⟩
    refine ⟨_, rfl, _, _, rfl, rfl, .inr ⟨by decide, by decide⟩, _, rfl, _, rfl, _, _, rfl, rfl, .inl ⟨by omega, by omega⟩, _, _, rfl, rfl, (by show (0 : Int) < 2147483399; decide), _, _, rfl, rfl, ?_⟩
    exact ⟨_, _, _, rfl, rfl, hm, by omega⟩
  · rintro σ H' ⟨s, m, u3, rfl, rfl, h0, h1⟩
    exact ⟨_, rfl, szOk rfl, fun p H' g s e => kk H' p _ s g e⟩
theorem ok_f_law_take (T : Txt K mg d tk) : FnOk P w K mg base CX0 1 d.f_law_take d.f_law_taked ["_law_pool_here", "_law_many"] (sp_f_law_take K) := by
  refine T.F_f_law_take.ok sc_f_law_take (fun vs H Q E h => len_f_law_take h) (fun cdv A outer s H vs Q E hr h => ?_)
  have hu : (A.deeper (envOfC "_law_take" (defScope s_f_law_take) s.heap.objs.size d.f_law_take cdv)).units < cLine := hr.units0
  refine ⟨_, (@pss_cons _ _ _ _ _ (@ps_set _ _ (2) _ _ _ _ sc_f_law_take.nd rfl (Or.inl rfl) (@pe_op _ _ _ _ _ _ _ _ op_mod (@pe_ix _ _ _ _ _ _ _ ix_list (@pv _ 0 _ _ rfl (Or.inl rfl) rfl rfl) (@pe_int _ _ _ _) (fun _ _ => rfl)) (@pv _ 1 _ _ rfl (Or.inl rfl) rfl rfl)) (by rfl) (by first | exact .inl rfl | exact .inr rfl)) (@pss_cons _ _ _ _ _ (@ps_asg _ _ _ _ _ _ (@pe_op _ _ _ _ _ _ _ _ op_fdiv (@pe_ix _ _ _ _ _ _ _ ix_list (@pv _ 0 _ _ rfl (Or.inl rfl) rfl rfl) (@pe_int _ _ _ _) (fun _ _ => rfl)) (@pv _ 1 _ _ rfl (Or.inl rfl) rfl rfl)) (@pg_sub _ _ _ _ _ _ _ (@pv _ 0 _ _ rfl (Or.inl rfl) rfl rfl) (@pe_int _ _ _ _) set_list (by intro _; rfl)) (by rfl) (by rfl) (by rfl)) (@pss_one _ _ _ (@ps_ret _ _ _ _ (@pv _ 2 _ _ rfl (Or.inl rfl) rfl rfl))))), ?_⟩
  obtain ⟨p, m, k, rfl, hp, hk, hk2, kk⟩ := h
  refine ⟨_, rfl, p, _, 0, .int m, rfl, rfl, SqL.of hp, rfl, _, rfl, _, _, rfl, rfl, hk, ?_⟩
  refine ⟨_, rfl, p, _, 0, .int m, rfl, rfl, SqL.of hp, rfl, _, rfl, _, _, rfl, rfl, ⟨hk, hk2⟩, _, rfl, p, _, 0, 0, rfl, rfl, hp, rfl, ?_⟩
  exact ⟨_, rfl, kk _ _ (mod_lo _ hk) (mod_hi _ hk)⟩
theorem ok_f_law_bare (T : Txt K mg d tk) : FnOk P w K mg base CX0 1 d.f_law_bare d.f_law_bared [] (sp_f_law_bare K) := by
  refine T.F_f_law_bare.ok sc_f_law_bare (fun vs H Q E h => len_f_law_bare h) (fun cdv A outer s H vs Q E hr h => ?_)
  have hu : (A.deeper (envOfC "_law_bare" (defScope s_f_law_bare) s.heap.objs.size d.f_law_bare cdv)).units < cLine := hr.units0
  have hu1 : (A.deeper (envOfC "_law_bare" (defScope s_f_law_bare) s.heap.objs.size d.f_law_bare cdv)).units + 1 < cLine := hu_of hr
  refine ⟨_, (@pss_cons _ _ _ _ _ (@ps_set _ _ (0) _ _ _ _ sc_f_law_bare.nd rfl (Or.inl rfl) (@pe_dctA _ _) (by rfl) (by first | exact .inl rfl | exact .inr rfl)) (@pss_cons _ _ _ _ _ (@ps_for _ _ _ _ _ _ _ _ PassesOwn.never rfl (@pi_list _ _ _ _ (@pe_lstA _ _ _ _ (@pa_cons _ _ _ _ _ (@pe_str _ _ _ _) (@pa_cons _ _ _ _ _ (@pe_str _ _ _ _) (@pa_cons _ _ _ _ _ (@pe_str _ _ _ _) (@pa_cons _ _ _ _ _ (@pe_str _ _ _ _) (@pa_cons _ _ _ _ _ (@pe_str _ _ _ _) (@pa_cons _ _ _ _ _ (@pe_str _ _ _ _) (@pa_cons _ _ _ _ _ (@pe_str _ _ _ _) (@pa_cons _ _ _ _ _ (@pe_str _ _ _ _) (@pa_cons _ _ _ _ _ (@pe_str _ _ _ _) (@pa_nil _) (by rfl)) (by rfl)) (by rfl)) (by rfl)) (by rfl)) (by rfl)) (by rfl)) (by rfl)) (by rfl)))) (@pg_name _ _ (1) _ sc_f_law_bare.nd rfl (Or.inl rfl) (by first | exact .inl rfl | exact .inr rfl)) (@pss_one _ _ _ (@ps_dput _ _ _ _ _ _ _ _ _ hu1 (@pv _ 0 _ _ rfl (Or.inl rfl) rfl rfl) (@pv _ 1 _ _ rfl (Or.inl rfl) rfl rfl) (@pe_lstA _ _ _ _ (@pa_nil _)) rfl)) (by intro _; rfl)) (@pss_one _ _ _ (@ps_ret _ _ _ _ (@pv _ 0 _ _ rfl (Or.inl rfl) rfl rfl))))), ?_⟩
  obtain ⟨rfl, kk⟩ := h
  intro dq H1 g1 s1 e1
  refine ⟨szOk rfl, fun lp H2 g2 s2 e2 => ?_⟩
  have s02 := s1.trans s2
  refine ⟨lp, rfl, ⟨_, SqL.of e2⟩, for_list (xs := (["births", "places", "cuts", "signs", "marks", "notes", "lines", "cells", "leaves"] : List Str).map V.str) (fun j σ H3 => ∃ (F : Nat → Addr) (u1 : Option V), σ = [some (.ref dq), u1] ∧ Same H H3 ∧ H3 lp = some (.lst ((["births", "places", "cuts", "signs", "marks", "notes", "lines", "cells", "leaves"] : List Str).map V.str)) ∧ H3 dq = some (.dK (fkv F j)) ∧ (∀ i, i < j → H (F i) = none ∧ H3 (F i) = some (.lst [])) ∧ ∀ i, i < j → ∀ i', i' < j → F i = F i' → i = i')
    ⟨fun _ => dq, none, rfl, s02, e2, s2 _ _ e1, fun i z => absurd z (Nat.not_lt_zero i), fun i z => absurd z (Nat.not_lt_zero i)⟩ (fun j σ H3 _ ⟨_, _, _, _, e, _⟩ => SqL.of e) ?_ ?_⟩
  · rintro j x σ H3 hx ⟨F, u1, rfl, s3, el, ed, hF, hi⟩
    have hj : j < 9 := (List.getElem?_eq_some_iff.mp hx).1
    have ex : x = kV (kN j) := by
      rw [List.getElem?_map] at hx
      show x = .str _
      rw [List.getD_eq_getElem?_getD]
      cases q : (["births", "places", "cuts", "signs", "marks", "notes", "lines", "cells", "leaves"] : List Str)[j]? with
      | none => rw [q] at hx; cases hx
      | some z => rw [q] at hx; exact (Option.some.inj hx).symm
    refine ⟨szOk rfl, fun q H4 g4 s4 e4 => ?_⟩
    have nq : q ≠ dq := (ne_of_none ed g4).symm
    have hv : valV (fkv F j) (kN j) = none := by
      cases e : valV (fkv F j) (kN j) with
      | none => rfl
      | some v =>
        have := valV_in e
        unfold fkv at this
        rw [List.map_map] at this
        obtain ⟨i, hi1, hi2⟩ := List.mem_map.mp this
        have hi3 := List.mem_range.mp hi1
        exact absurd (kN_inj i (by omega) j hj hi2) (by omega)
    refine ⟨_, rfl, _, rfl, dq, _, rfl, .inl ⟨fkv F j, kN j, s4 _ _ ed, ex, small1000 (by unfold fkv; rw [List.length_map, List.length_range]; omega), rfl⟩, ?_⟩
    have F0 : ∀ i, i < j → (if i = j then q else F i) = F i := fun i h => if_neg (by omega)
    have ne : ∀ i, i < j → F i ≠ q := fun i h => ne_of_none (hF i h).2 g4
    have neq : ∀ i, i < j → F i ≠ dq := fun i h z => by
      have := (hF i h).2
      rw [z, ed] at this
      cases this
    refine ⟨fun i => if i = j then q else F i, _, rfl, (s3.trans s4).wr g1, ?_, ?_, fun i h => ?_, fun i h i' h' e => ?_⟩
    · rw [upd_ne (fun z => by rw [z, ed] at el; cases el)]
      exact s4 _ _ el
    · rw [upd_same, putK_new _ hv]
      unfold fkv
      rw [List.range_succ, List.map_append]
      have : (List.range j).map (fun i => (kN i, V.ref (if i = j then q else F i))) = (List.range j).map (fun i => (kN i, V.ref (F i))) := List.map_congr_left fun i hi => by rw [F0 i (List.mem_range.mp hi)]
      rw [this]
      simp
    · show H (if i = j then q else F i) = none ∧ (upd H4 dq _) (if i = j then q else F i) = _
      by_cases z : i = j
      · subst z
        rw [if_pos rfl]
        exact ⟨s3.free g4, by rw [upd_ne nq]; exact e4⟩
      · rw [if_neg z]
        have hij : i < j := by omega
        exact ⟨(hF i hij).1, by rw [upd_ne (neq i hij)]; exact s4 _ _ (hF i hij).2⟩
    · have e : (if i = j then q else F i) = (if i' = j then q else F i') := e
      by_cases z : i = j
      · by_cases z' : i' = j
        · omega
        · rw [if_pos z, if_neg z'] at e
          exact absurd e.symm (ne i' (by omega))
      · by_cases z' : i' = j
        · rw [if_neg z, if_pos z'] at e
          exact absurd e (ne i (by omega))
        · rw [if_neg z, if_neg z'] at e
          exact hi i (by omega) i' (by omega) e
  · rintro σ H3 ⟨F, u1, rfl, s3, el, ed, hF, hi⟩
    exact ⟨_, rfl, kk H3 dq F s3 g1 (fun i h => (hF i h).1) ed hi fun i h => (hF i h).2⟩
theorem ok_f_law_without (T : Txt K mg d tk) : FnOk P w K mg base CX0 1 d.f_law_without d.f_law_withoutd ["_law_table", "_law_row", "_law_column"] (sp_f_law_without K) := by
  refine T.F_f_law_without.ok sc_f_law_without (fun vs H Q E h => len_f_law_without h) (fun cdv A outer s H vs Q E hr h => ?_)
  have hu : (A.deeper (envOfC "_law_without" (defScope s_f_law_without) s.heap.objs.size d.f_law_without cdv)).units < cLine := hr.units0
  refine ⟨_, (@pss_cons _ _ _ _ _ (@ps_asg _ _ _ _ _ _ (@pv _ 0 _ _ rfl (Or.inl rfl) rfl rfl) (@pg_tup _ _ _ _ _ _ rfl (@pgs_cons _ _ _ _ _ (@pg_name _ _ (3) _ sc_f_law_without.nd rfl (Or.inl rfl) (by first | exact .inl rfl | exact .inr rfl)) (@pgs_cons _ _ _ _ _ (@pg_name _ _ (4) _ sc_f_law_without.nd rfl (Or.inr rfl) (by first | exact .inl rfl | exact .inr rfl)) (@pgs_cons _ _ _ _ _ (@pg_name _ _ (5) _ sc_f_law_without.nd rfl (Or.inr rfl) (by first | exact .inl rfl | exact .inr rfl)) (@pgs_nil _) (by rfl)) (by rfl)) (by rfl)) (by rfl) (by rfl)) (by rfl) (by rfl) (by rfl)) (@pss_cons _ _ _ _ _ (@ps_set _ _ (6) _ _ _ _ sc_f_law_without.nd rfl (Or.inl rfl) (@pe_lstA _ _ _ _ (@pa_nil _)) (by rfl) (by first | exact .inl rfl | exact .inr rfl)) (@pss_cons _ _ _ _ _ (@ps_for _ _ _ _ _ _ _ _ PassesOwn.never rfl (@pi_range1 _ _ _ _ _ _ (by rfl) T.b_range (@pa_cons _ _ _ _ _ (@pe_callB _ _ _ _ _ _ _ _ _ call_len_seq (by rfl) T.b_len boot_len (@pa_cons _ _ _ _ _ (@pv _ 3 _ _ rfl (Or.inl rfl) rfl rfl) (@pa_nil _) (by rfl)) (by decide) (by decide) (by rfl) (by rfl)) (@pa_nil _) (by rfl)) (by rfl)) (@pg_name _ _ (7) _ sc_f_law_without.nd rfl (Or.inr rfl) (by first | exact .inl rfl | exact .inr rfl)) (@pss_one _ _ _ (@ps_if _ _ _ _ _ _ _ _ (@pt_cmpR _ _ _ _ _ _ _ _ (op_neD (hu64 hr)) (@pe_ix _ _ _ _ _ _ _ ix_list (@pv _ 3 _ _ rfl (Or.inl rfl) rfl rfl) (@pv _ 7 _ _ rfl (Or.inr (Or.inl rfl)) rfl rfl) (fun _ _ => rfl)) (@pv _ 1 _ _ rfl (Or.inr (Or.inl rfl)) rfl rfl) (nomark _)) (@pss_one _ _ _ (@ps_expr _ _ _ _ (@pe_bm _ _ _ _ _ _ _ _ _ _ _ _ PySem.F.plainAttrs_list PySem.F.slot_list_append PySem.F.type_list_append mt_append (@pv _ 6 _ _ rfl (Or.inl rfl) rfl rfl) (@pa_cons _ _ _ _ _ (@pe_lcomp _ _ _ _ _ _ _ (["_law_k"]) ([("_law_words", 5), ("_law_at", 7), ("_law_column", 2), ("_law_columns", 4)]) _ _ _ _ _ rfl (@pi_range1 _ _ _ _ _ _ (by rfl) T.b_range (@pa_cons _ _ _ _ _ (@pe_callB _ _ _ _ _ _ _ _ _ call_len_seq (by rfl) T.b_len boot_len (@pa_cons _ _ _ _ _ (@pv _ 4 _ _ rfl (Or.inr (Or.inl rfl)) rfl rfl) (@pa_nil _) (by rfl)) (by decide) (by decide) (by rfl) (by rfl)) (@pa_nil _) (by rfl)) (by rfl)) ⟨rfl, by decide +kernel, by decide +kernel⟩ (caps_def (defScope s_f_law_without) ["_law_table", "_law_row", "_law_column", "_law_rows", "_law_columns", "_law_words", "_law_found", "_law_at"] rfl rfl (fun _ h => cell_has h) (by decide +kernel) (by decide +kernel) (by decide +kernel)) (fun _ _ _ => (@pg_name _ _ (0) _ (by show List.Nodup (["_law_k", "_law_words", "_law_at", "_law_column", "_law_columns"] : List Str); decide +kernel) rfl (Or.inl rfl) (by first | exact .inl rfl | exact .inr rfl))) (fun _ => fresh_name rfl) (fun _ _ _ => (@pts_one _ _ _ (@pt_cmpR _ _ _ _ _ _ _ _ (op_neDK (K := K) rfl (hu64 hr)) (@pe_ix _ _ _ _ _ _ _ (ix_listK (K := K) rfl) (@pv _ 4 _ _ rfl (Or.inr (Or.inl rfl)) rfl rfl) (@pv _ 0 _ _ rfl (Or.inl rfl) rfl rfl) (fun _ _ => rfl)) (@pv _ 3 _ _ rfl (Or.inr (Or.inl rfl)) rfl rfl) (nomark _)))) (fun _ _ _ => (@pe_ix _ _ _ _ _ _ _ (ix_listK (K := K) rfl) (@pe_ix _ _ _ _ _ _ _ (ix_listK (K := K) rfl) (@pv _ 1 _ _ rfl (Or.inr (Or.inl rfl)) rfl rfl) (@pv _ 2 _ _ rfl (Or.inr (Or.inl rfl)) rfl rfl) (fun _ _ => rfl)) (@pv _ 0 _ _ rfl (Or.inl rfl) rfl rfl) (fun _ _ => rfl))) (by intro _; rfl)) (@pa_nil _) (by rfl)) (by rfl) (by rfl) (by rfl) (by rfl) (by rfl)) (by rfl))) (@pss_nil _))) (by intro _; rfl)) (@pss_one _ _ _ (@ps_ret _ _ _ _ (@pe_tupA _ _ _ _ _ (@pa_cons _ _ _ _ _ (@pe_lcomp _ _ _ _ _ _ _ (["_law_one"]) ([("_law_row", 1)]) _ _ _ _ _ rfl (@pi_list _ _ _ _ (@pv _ 3 _ _ rfl (Or.inl rfl) rfl rfl)) ⟨rfl, by decide +kernel, by decide +kernel⟩ (caps_def (defScope s_f_law_without) ["_law_table", "_law_row", "_law_column", "_law_rows", "_law_columns", "_law_words", "_law_found", "_law_at"] rfl rfl (fun _ h => cell_has h) (by decide +kernel) (by decide +kernel) (by decide +kernel)) (fun _ _ _ => (@pg_name _ _ (0) _ (by show List.Nodup (["_law_one", "_law_row"] : List Str); decide +kernel) rfl (Or.inl rfl) (by first | exact .inl rfl | exact .inr rfl))) (fun _ => fresh_name rfl) (fun _ _ _ => (@pts_one _ _ _ (@pt_cmpR _ _ _ _ _ _ _ _ (op_neDK (K := K) rfl (hu64 hr)) (@pv _ 0 _ _ rfl (Or.inl rfl) rfl rfl) (@pv _ 1 _ _ rfl (Or.inr (Or.inl rfl)) rfl rfl) (nomark _)))) (fun _ _ _ => (@pv _ 0 _ _ rfl (Or.inl rfl) rfl rfl)) (by intro _; rfl)) (@pa_cons _ _ _ _ _ (@pe_lcomp _ _ _ _ _ _ _ (["_law_one"]) ([("_law_column", 2)]) _ _ _ _ _ rfl (@pi_list _ _ _ _ (@pv _ 4 _ _ rfl (Or.inr (Or.inl rfl)) rfl rfl)) ⟨rfl, by decide +kernel, by decide +kernel⟩ (caps_def (defScope s_f_law_without) ["_law_table", "_law_row", "_law_column", "_law_rows", "_law_columns", "_law_words", "_law_found", "_law_at"] rfl rfl (fun _ h => cell_has h) (by decide +kernel) (by decide +kernel) (by decide +kernel)) (fun _ _ _ => (@pg_name _ _ (0) _ (by show List.Nodup (["_law_one", "_law_column"] : List Str); decide +kernel) rfl (Or.inl rfl) (by first | exact .inl rfl | exact .inr rfl))) (fun _ => fresh_name rfl) (fun _ _ _ => (@pts_one _ _ _ (@pt_cmpR _ _ _ _ _ _ _ _ (op_neDK (K := K) rfl (hu64 hr)) (@pv _ 0 _ _ rfl (Or.inl rfl) rfl rfl) (@pv _ 1 _ _ rfl (Or.inr (Or.inl rfl)) rfl rfl) (nomark _)))) (fun _ _ _ => (@pv _ 0 _ _ rfl (Or.inl rfl) rfl rfl)) (by intro _; rfl)) (@pa_cons _ _ _ _ _ (@pv _ 6 _ _ rfl (Or.inl rfl) rfl rfl) (@pa_nil _) (by rfl)) (by rfl)) (by rfl)))))))), ?_⟩
  obtain ⟨v, vr, vc, L, js, C, ms, pt, S, ri, ci, rfl, tw, W, gr, gc, hri, hci, kk⟩ := h
  obtain ⟨q, rp, cp, wp, zr, zc, ws, rfl, h1, _, h3, h4, h5, h6, h7, h8⟩ := tw
  have hrl : zr.length ≤ 1300 := by rw [h6.1]; exact lived_len W
  have hcl : zc.length ≤ 1300 := by rw [h7.1]; exact lived_len W
  have hwl : ws.length = zr.length := by rw [h8.1, h6.1]
  have inj : ∀ {o : Option Nat}, (∀ i, o = some i → i ∈ js) → ∀ i ∈ js, ∀ j, o = some j → nkL L i = nkL L j → i = j := fun ho i hi j z => W.p.inj i hi j (ho j z)
  have okr := opD_ok (nk := nkL L) (o := ri) fun i z => (W.lay i (hri i z)).1
  have okc := opD_ok (nk := nkL L) (o := ci) fun i z => (W.lay i (hci i z)).1
  refine ⟨_, rfl, q, _, rfl, SqT.of h1, rfl, _, _, rfl, _, _, rfl, _, _, rfl, rfl, ?_⟩
  refine ⟨szOk rfl, fun fp H1 g1 s1 e1 => ?_⟩
  refine ⟨_, rfl, rp, zr, rfl, .inl (SqL.of (s1 _ _ h3)), _, rfl, by omega, by omega, for_range (lo := 0) (n := ((zr.length : Int)).toNat) (fun j σ Z => ∃ (fv : List V) (u7 : Option V), σ = [some (.ref q), some vr, some vc, some (.ref rp), some (.ref cp), some (.ref wp), some (.ref fp), u7] ∧ Same H Z ∧ Z fp = some (.lst fv) ∧ AN (WG (fun r c => wAt C ms pt (nkL L r) (nkL L c)) ((lived L js pt "column").filter (nq ci)) (fun a => a ≠ fp) Z) fv (((lived L js pt "row").take j).filter (nq ri))) ⟨[], none, rfl, s1, e1, .nil⟩ ?_ ?_⟩
  · rintro j σ Z hj ⟨fv, u7, rfl, sZ, eZ, af⟩
    have hj : j < zr.length := by rw [Int.toNat_natCast] at hj; exact hj
    have hx : zr[j]? = some (zr[j]) := List.getElem?_eq_getElem hj
    obtain ⟨r, er, nm⟩ := h6.at hx
    have hr := lived_in W (List.mem_of_getElem? er)
    have hfl : fv.length ≤ 1300 := by rw [af.1]; exact Nat.le_trans (List.length_filter_le _ _) (by rw [List.length_take]; have := lived_len (pt := pt) (wy := "row") W; omega)
    have at0 : ∀ {α : List V} {x : V}, α[j]? = some x → atI α (0 + (j : Int)) = some x := fun e => by rw [Int.zero_add]; exact atI_nat e
    refine ⟨_, rfl, _, rfl, rp, zr, _, _, rfl, rfl, SqL.of (sZ _ _ h3), at0 hx, _, rfl, tD (nkL L r), opD (nkL L) ri, (gk_td (NM.tups nm sZ.tups)).dv, (opD_dt (gr.tups sZ.tups)).dv, (W.lay r hr).1, okr, deep_op, _, rfl, ?_⟩
    have eq : (if true = true then !PyData.eqv (tD (nkL L r)) (opD (nkL L) ri) else PyData.eqv (tD (nkL L r)) (opD (nkL L) ri)) = nq ri r := by
      rw [if_pos rfl, opD_eqv (inj hri r hr), Bool.not_not]
    by_cases hn : nq ri r = true
    · refine itT (eq.trans hn) ?_
      obtain ⟨wv, hwv⟩ : ∃ wv, ws[j]? = some wv := ⟨ws[j]'(by omega), List.getElem?_eq_getElem _⟩
      obtain ⟨a0, rfl, _, ea0⟩ := h8.2 j wv r hwv er
      refine ⟨_, rfl, .inl ⟨rfl, _, SqL.of eZ⟩, _, rfl, cp, zc, rfl, .inl (SqL.of (sZ _ _ h4)), _, rfl, by omega, by omega, lc_range (lo := 0) (n := ((zc.length : Int)).toNat) (by rw [Int.toNat_natCast]; exact big2 (by omega)) (fun j' ys Z' => Z' = Z ∧ ys = (((lived L js pt "column").take j').filter (nq ci)).map fun c => V.str (wAt C ms pt (nkL L r) (nkL L c))) ⟨rfl, rfl⟩ (fun j' ys Z' K1 K0 hj' s' k1 k0 => ?_) fun Z1 a ys s' hyl hqa => ?_⟩
      · obtain ⟨rfl, rfl⟩ := s'
        have hj' : j' < zc.length := by rw [Int.toNat_natCast] at hj'; exact hj'
        have hy : zc[j']? = some (zc[j']) := List.getElem?_eq_getElem hj'
        obtain ⟨c, ec, nmc⟩ := h7.at hy
        have hc := lived_in W (List.mem_of_getElem? ec)
        have at1 : ∀ {α : List V} {x : V}, α[j']? = some x → atI α (0 + (j' : Int)) = some x := fun e => by rw [Int.zero_add]; exact atI_nat e
        refine ⟨_, rfl, _, rfl, cp, zc, _, _, rfl, rfl, SqL.of (sZ _ _ h4), at1 hy, _, rfl, tD (nkL L c), opD (nkL L) ci, (gk_td (NM.tups nmc sZ.tups)).dv, (opD_dt (gc.tups sZ.tups)).dv, (W.lay c hc).1, okc, deep_op, _, rfl, ?_⟩
        have eqc : (if true = true then !PyData.eqv (tD (nkL L c)) (opD (nkL L) ci) else PyData.eqv (tD (nkL L c)) (opD (nkL L) ci)) = nq ci c := by
          rw [if_pos rfl, opD_eqv (inj hci c hc), Bool.not_not]
        by_cases hnc : nq ci c = true
        · refine itT (eqc.trans hnc) ?_
          refine ⟨_, rfl, _, rfl, wp, ws, _, _, rfl, rfl, SqL.of (sZ _ _ h5), at0 hwv, _, rfl, a0, _, _, V.str (wAt C ms pt (nkL L r) (nkL L c)), rfl, rfl, SqL.of (sZ _ _ ea0), at1 ?_, k1 _ _ ⟨rfl, ?_⟩⟩
          · unfold rowW
            rw [List.getElem?_map, ec]
            rfl
          · rw [take_pick ec hnc, List.map_append]
            rfl
        · refine itF (eqc.trans (Bool.eq_false_iff.mpr hnc)) (k0 _ ⟨rfl, ?_⟩)
          rw [take_skip ec hnc]
      obtain ⟨rfl, rfl⟩ := s'
      rw [show ((zc.length : Int)).toNat = (lived L js pt "column").length from by rw [Int.toNat_natCast]; exact h7.1, List.take_length]
      have nZ : Same Z1 (upd Z1 a (.lst (((lived L js pt "column").filter (nq ci)).map fun c => V.str (wAt C ms pt (nkL L r) (nkL L c))))) := Same.new hqa
      have ea : (upd Z1 a (.lst (((lived L js pt "column").filter (nq ci)).map fun c => V.str (wAt C ms pt (nkL L r) (nkL L c))))) a = some (.lst (((lived L js pt "column").filter (nq ci)).map fun c => V.str (wAt C ms pt (nkL L r) (nkL L c)))) := upd_same
      have naf : a ≠ fp := (ne_of_none eZ hqa).symm
      generalize upd Z1 a (.lst (((lived L js pt "column").filter (nq ci)).map fun c => V.str (wAt C ms pt (nkL L r) (nkL L c)))) = Z2 at nZ ea
      refine ⟨fp, _, _, rfl, rfl, nZ _ _ eZ, small2000 (by omega), ?_⟩
      refine ⟨fv ++ [.ref a], _, rfl, (sZ.trans nZ).wr g1, upd_same, ?_⟩
      rw [take_pick er hn]
      refine AN.snoc (af.imp fun v i g => ?_) ⟨a, rfl, naf, by rw [upd_ne naf]; exact ea⟩
      obtain ⟨b, rfl, h1', h2'⟩ := g
      exact ⟨b, rfl, h1', by rw [upd_ne h1']; exact nZ _ _ h2'⟩
    · refine itF (eq.trans (Bool.eq_false_iff.mpr hn)) ⟨fv, _, rfl, sZ, eZ, ?_⟩
      rw [take_skip er hn]
      exact af
  rintro σ Z ⟨fv, u7, rfl, sZ, eZ, af⟩
  rw [show ((zr.length : Int)).toNat = (lived L js pt "row").length from by rw [Int.toNat_natCast]; exact h6.1, List.take_length] at af
  refine ⟨_, rfl, rp, rfl, ⟨_, SqL.of (sZ _ _ h3)⟩, lc_any (xs := zr) (big2 (by omega)) (fun j us X => X = Z ∧ AN (NM (nkL L) Z) us (((lived L js pt "row").take j).filter (nq ri))) ⟨rfl, .nil⟩ (fun _ _ X s' => by rw [s'.1]; exact SqL.of (sZ _ _ h3)) (fun j x us X K1 K0 hx s' k1 k0 => ?_) fun Z1 np us s' hu hqu => ?_⟩
  · obtain ⟨rfl, au⟩ := s'
    obtain ⟨r, er, nm⟩ := h6.at hx
    have hr := lived_in W (List.mem_of_getElem? er)
    have nmZ := NM.tups nm sZ.tups
    refine ⟨_, rfl, _, rfl, tD (nkL L r), opD (nkL L) ri, (gk_td nmZ).dv, (opD_dt (gr.tups sZ.tups)).dv, (W.lay r hr).1, okr, deep_op, _, rfl, ?_⟩
    have eq : (if true = true then !PyData.eqv (tD (nkL L r)) (opD (nkL L) ri) else PyData.eqv (tD (nkL L r)) (opD (nkL L) ri)) = nq ri r := by
      rw [if_pos rfl, opD_eqv (inj hri r hr), Bool.not_not]
    by_cases hn : nq ri r = true
    · refine itT (eq.trans hn) ⟨_, rfl, k1 _ _ ⟨rfl, ?_⟩⟩
      rw [take_pick er hn]
      exact au.snoc nmZ
    · refine itF (eq.trans (Bool.eq_false_iff.mpr hn)) (k0 _ ⟨rfl, ?_⟩)
      rw [take_skip er hn]
      exact au
  obtain ⟨rfl, au⟩ := s'
  rw [show zr.length = (lived L js pt "row").length from h6.1, List.take_length] at au
  have n1 : Same Z1 (upd Z1 np (.lst us)) := Same.new hqu
  have f1 : (upd Z1 np (.lst us)) np = some (.lst us) := upd_same
  generalize upd Z1 np (.lst us) = Z2 at n1 f1
  have sZ2 := sZ.trans n1
  refine ⟨_, rfl, cp, rfl, ⟨_, SqL.of (sZ2 _ _ h4)⟩, lc_any (xs := zc) (big2 (by omega)) (fun j us X => X = Z2 ∧ AN (NM (nkL L) Z2) us (((lived L js pt "column").take j).filter (nq ci))) ⟨rfl, .nil⟩ (fun _ _ X s' => by rw [s'.1]; exact SqL.of (sZ2 _ _ h4)) (fun j x us X K1 K0 hx s' k1 k0 => ?_) fun Z3 np3 us3 s' hu3 hqu3 => ?_⟩
  · obtain ⟨rfl, au⟩ := s'
    obtain ⟨r, er, nm⟩ := h7.at hx
    have hr := lived_in W (List.mem_of_getElem? er)
    have nmZ := NM.tups nm sZ2.tups
    refine ⟨_, rfl, _, rfl, tD (nkL L r), opD (nkL L) ci, (gk_td nmZ).dv, (opD_dt (gc.tups sZ2.tups)).dv, (W.lay r hr).1, okc, deep_op, _, rfl, ?_⟩
    have eq : (if true = true then !PyData.eqv (tD (nkL L r)) (opD (nkL L) ci) else PyData.eqv (tD (nkL L r)) (opD (nkL L) ci)) = nq ci r := by
      rw [if_pos rfl, opD_eqv (inj hci r hr), Bool.not_not]
    by_cases hn : nq ci r = true
    · refine itT (eq.trans hn) ⟨_, rfl, k1 _ _ ⟨rfl, ?_⟩⟩
      rw [take_pick er hn]
      exact au.snoc nmZ
    · refine itF (eq.trans (Bool.eq_false_iff.mpr hn)) (k0 _ ⟨rfl, ?_⟩)
      rw [take_skip er hn]
      exact au
  obtain ⟨rfl, au3⟩ := s'
  rw [show zc.length = (lived L js pt "column").length from h7.1, List.take_length] at au3
  have n3 : Same Z3 (upd Z3 np3 (.lst us3)) := Same.new hqu3
  have f3 : (upd Z3 np3 (.lst us3)) np3 = some (.lst us3) := upd_same
  generalize upd Z3 np3 (.lst us3) = Z4 at n3 f3
  refine ⟨_, rfl, szOk rfl, fun tq Z5 g5 s5 e5 => kk Z5 tq ((sZ2.trans n3).trans s5) ?_⟩
  have s35 := n3.trans s5
  have s15 := n1.trans s35
  have af5 : AN (WG (fun r c => wAt C ms pt (nkL L r) (nkL L c)) ((lived L js pt "column").filter (nq ci)) (fun a => a ≠ fp) Z5) fv _ := af.imp fun v i g => let ⟨a, e, g1, g2⟩ := g; ⟨a, e, g1, s15 _ _ g2⟩
  exact .tup (SqT.of e5) (.cons (.lst (SqL.of (s35 _ _ f1)) (AN.dts (fun v i g => NM.dt g) (au.imp fun v i g => NM.tups g s15.tups)).dv) (.cons (.lst (SqL.of (s5 _ _ f3)) (AN.dts (fun v i g => NM.dt g) (au3.imp fun v i g => NM.tups g s35.tups)).dv) (.cons (.lst (SqL.of (s15 _ _ eZ)) (WG.dvs af5)) .nil)))
theorem ok_f_law_cell_right (T : Txt K mg d tk) : FnOk P w K mg base CX0 1 d.f_law_cell_right d.f_law_cell_rightd ["_law_ahead", "_law_behind", "_law_told"] (sp_f_law_cell_right K) := by
  refine T.F_f_law_cell_right.ok sc_f_law_cell_right (fun vs H Q E h => len_f_law_cell_right h) (fun cdv A outer s H vs Q E hr h => ?_)
  have hu : (A.deeper (envOfC "_law_cell_right" (defScope s_f_law_cell_right) s.heap.objs.size d.f_law_cell_right cdv)).units < cLine := hr.units0
  refine ⟨_, (@pss_cons _ _ _ _ _ (@ps_asg _ _ _ _ _ _ (@pv _ 2 _ _ rfl (Or.inl rfl) rfl rfl) (@pg_tup _ _ _ _ _ _ rfl (@pgs_cons _ _ _ _ _ (@pg_name _ _ (3) _ sc_f_law_cell_right.nd rfl (Or.inl rfl) (by first | exact .inl rfl | exact .inr rfl)) (@pgs_cons _ _ _ _ _ (@pg_name _ _ (4) _ sc_f_law_cell_right.nd rfl (Or.inl rfl) (by first | exact .inl rfl | exact .inr rfl)) (@pgs_cons _ _ _ _ _ (@pg_name _ _ (5) _ sc_f_law_cell_right.nd rfl (Or.inl rfl) (by first | exact .inl rfl | exact .inr rfl)) (@pgs_cons _ _ _ _ _ (@pg_name _ _ (6) _ sc_f_law_cell_right.nd rfl (Or.inl rfl) (by first | exact .inl rfl | exact .inr rfl)) (@pgs_cons _ _ _ _ _ (@pg_name _ _ (7) _ sc_f_law_cell_right.nd rfl (Or.inl rfl) (by first | exact .inl rfl | exact .inr rfl)) (@pgs_nil _) (by rfl)) (by rfl)) (by rfl)) (by rfl)) (by rfl)) (by rfl) (by rfl)) (by rfl) (by rfl) (by rfl)) (@pss_cons _ _ _ _ _ (@ps_setC _ (8) _ _ _ _ _ _ _ _ _ (["_law_words"]) ([]) _ _ _ _ _ sc_f_law_cell_right.nd rfl (Or.inl rfl) rfl (@pi_list _ _ _ _ (@pe_ix _ _ _ _ _ _ _ ix_tup (@pv _ 0 _ _ rfl (Or.inl rfl) rfl rfl) (@pe_int _ _ _ _) (fun _ _ => rfl))) ⟨rfl, by decide +kernel, by decide +kernel⟩ (caps0 (by decide +kernel)) (fun _ _ _ => (@pg_name _ _ (0) _ (by show List.Nodup (["_law_words"] : List Str); decide +kernel) rfl (Or.inl rfl) (by first | exact .inl rfl | exact .inr rfl))) (fun _ => fresh_name rfl) (fun _ _ _ => (@pts_nil _)) (fun _ _ _ => (@pe_callTy _ _ _ _ _ _ _ _ _ (call_lstAK (K := K) rfl) (by rfl) T.b_list boot_list (@pa_cons _ _ _ _ _ (@pv _ 0 _ _ rfl (Or.inl rfl) rfl rfl) (@pa_nil _) (by rfl)) (by decide) (by decide) (by rfl) (by rfl))) (by intro _; rfl) (by rfl) (by first | exact .inl rfl | exact .inr rfl)) (@pss_cut _ _ _ _ _ (@ps_if _ _ _ _ _ _ _ _ (@pt_post _ _ _ (@PW.pt _ _ _ (@pw_and _ _ _ _ _ _ _ (@pt_cmpR _ _ _ _ _ _ _ _ (op_inD (hu63 hr)) (@pv _ 4 _ _ rfl (Or.inl rfl) rfl rfl) (@pe_ix _ _ _ _ _ _ _ ix_tup (@pv _ 0 _ _ rfl (Or.inl rfl) rfl rfl) (@pe_int _ _ _ _) (fun _ _ => rfl)) rfl) (@pw_and1 _ _ _ _ (@pt_cmpR _ _ _ _ _ _ _ _ (op_inD (hu63 hr)) (@pv _ 5 _ _ rfl (Or.inl rfl) rfl rfl) (@pe_ix _ _ _ _ _ _ _ ix_tup (@pv _ 0 _ _ rfl (Or.inl rfl) rfl rfl) (@pe_int _ _ _ _) (fun _ _ => rfl)) rfl))))) (@pss_one _ _ _ (@ps_asg _ _ _ _ _ _ (@pv _ 6 _ _ rfl (Or.inl rfl) rfl rfl) (@pg_sub _ _ _ _ _ _ _ (@pe_ix _ _ _ _ _ _ _ ix_list (@pv _ 8 _ _ rfl (Or.inl rfl) rfl rfl) (@pe_bm _ _ _ _ _ _ _ _ _ _ _ _ PySem.F.plainAttrs_list PySem.F.slot_list_index PySem.F.type_list_index (mt_indexD (hu61 hr)) (@pe_ix _ _ _ _ _ _ _ ix_tup (@pv _ 0 _ _ rfl (Or.inl rfl) rfl rfl) (@pe_int _ _ _ _) (fun _ _ => rfl)) (@pa_cons _ _ _ _ _ (@pv _ 4 _ _ rfl (Or.inl rfl) rfl rfl) (@pa_nil _) (by rfl)) (by rfl) (by rfl) (by rfl) (by rfl) (by rfl)) (fun _ _ => rfl)) (@pe_bm _ _ _ _ _ _ _ _ _ _ _ _ PySem.F.plainAttrs_list PySem.F.slot_list_index PySem.F.type_list_index (mt_indexD (hu61 hr)) (@pe_ix _ _ _ _ _ _ _ ix_tup (@pv _ 0 _ _ rfl (Or.inl rfl) rfl rfl) (@pe_int _ _ _ _) (fun _ _ => rfl)) (@pa_cons _ _ _ _ _ (@pv _ 5 _ _ rfl (Or.inl rfl) rfl rfl) (@pa_nil _) (by rfl)) (by rfl) (by rfl) (by rfl) (by rfl) (by rfl)) set_list (by intro _; rfl)) (by rfl) (by rfl) (by rfl))) (@pss_nil _)) (@pss_one _ _ _ (@ps_ret _ _ _ _ (@pe_cmpR _ _ _ _ _ _ _ _ (op_eqD (hu64 hr)) (@pv _ 1 _ _ rfl (Or.inl rfl) rfl rfl) (@pe_tupA _ _ _ _ _ (@pa_cons _ _ _ _ _ (@pe_ix _ _ _ _ _ _ _ ix_tup (@pv _ 0 _ _ rfl (Or.inl rfl) rfl rfl) (@pe_int _ _ _ _) (fun _ _ => rfl)) (@pa_cons _ _ _ _ _ (@pe_ix _ _ _ _ _ _ _ ix_tup (@pv _ 0 _ _ rfl (Or.inl rfl) rfl rfl) (@pe_int _ _ _ _) (fun _ _ => rfl)) (@pa_cons _ _ _ _ _ (@pv _ 8 _ _ rfl (Or.inl rfl) rfl rfl) (@pa_nil _) (by rfl)) (by rfl)) (by rfl))) (nomark _))))))), ?_⟩
  obtain ⟨va, vb, vt, L, n, C, m, r, pt, S, S', rfl, W, WC', hpt, ta, tb, ce, kk⟩ := h
  obtain ⟨b, vp, vr, vc, kq, rfl, c1, c2, c3, c4, c5⟩ := ce
  rw [extC_at] at c1 c3 c4
  have lay := WC'.lay m (Nat.lt_succ_self m)
  rw [extC_at] at lay
  have WJn := W.wj
  obtain ⟨q, rp, cp, wp, zr, zc, ws, rfl, h1, _, h3, h4, h5, h6, h7, h8⟩ := ta
  have hrl : zr.length ≤ 1300 := by rw [h6.1]; exact lived_len WJn
  have hcl : zc.length ≤ 1300 := by rw [h7.1]; exact lived_len WJn
  have hwl : ws.length = zr.length := by rw [h8.1, h6.1]
  obtain ⟨k1, k2, k3⟩ := tab_ok WJn WC'.wm pt
  have ndr := lived_nodup (pt := pt) (wy := "row") WJn
  have ndc := lived_nodup (pt := pt) (wy := "column") WJn
  have ltr : ∀ {i : Nat}, i ∈ lived L (List.range n) pt "row" → i < n := fun h => lived_lt W h
  have ltc : ∀ {i : Nat}, i ∈ lived L (List.range n) pt "column" → i < n := fun h => lived_lt W h
  have hnm : ∀ i, i < n → ∀ j, j < n → nkL L i = nkL L j → i = j := W.inj
  have hlays : ∀ {l : List Nat}, (∀ i ∈ l, i < n) → PyData.canLayAll0 (l.map (dN (nkL L))) = true := fun h => lays_all fun d hd => by
    obtain ⟨i, hi, rfl⟩ := List.mem_map.mp hd
    exact (W.lay i (h i hi)).1
  have hw : ∀ i c, wAt (extC C m r) (List.range (m + 1)) pt (nkL L i) (nkL L c) = if r.rw = nkL L i ∧ r.cl = nkL L c then r.wd else wAt C (List.range m) pt (nkL L i) (nkL L c) := fun i c => by
    rw [wAt_ext]
    by_cases z : r.rw = nkL L i ∧ r.cl = nkL L c
    · rw [if_pos ⟨hpt, z⟩, if_pos z]
    · rw [if_neg (fun y => z y.2), if_neg z]
  have eT : tabD L (List.range n) (extC C m r) (List.range (m + 1)) pt = tabX (nkL L) (extC C m r) (List.range (m + 1)) pt (lived L (List.range n) pt "row") (lived L (List.range n) pt "column") := rfl
  have dvb := tb.dv (K := K)
  rw [eT] at k1 k2 k3 dvb
  have dvb' : ∀ {X : Hp}, Same H X → DV K X vb (tabX (nkL L) (extC C m r) (List.range (m + 1)) pt (lived L (List.range n) pt "row") (lived L (List.range n) pt "column")) := fun s => by
    rw [← eT]
    exact (tb.same s).dv
  clear dvb eT
  generalize lived L (List.range n) pt "row" = R at h6 h8 ndr ltr k1 k2 k3 dvb'
  generalize lived L (List.range n) pt "column" = Q0 at h7 h8 ndc ltc k1 k2 k3 dvb'
  have h8 : AN (WG (fun i c => wAt C (List.range m) pt (nkL L i) (nkL L c)) Q0 S H) ws R := h8
  refine ⟨_, rfl, b, _, rfl, SqT.of c1, rfl, _, _, rfl, _, _, rfl, _, _, rfl, _, _, rfl, _, _, rfl, rfl, ?_⟩
  refine ⟨_, rfl, q, _, _, _, rfl, rfl, SqT.of h1, atI_nat (j := 2) rfl, wp, rfl, ⟨_, SqL.of h5⟩, lc_any (xs := ws) (big2 (by omega)) (fun j us X => Same H X ∧ AN (WG (fun i c => wAt C (List.range m) pt (nkL L i) (nkL L c)) Q0 (fun a => H a = none) X) us (R.take j) ∧ us.Nodup) ⟨Same.refl _, .nil, List.nodup_nil⟩ (fun _ _ X s' => SqL.of (s'.1 _ _ h5)) (fun j x us X K1 K0 hx s' k1 k0 => ?_) fun X np us s' hu hqu => ?_⟩
  · obtain ⟨sX, au, nd⟩ := s'
    obtain ⟨i, ei, a0, rfl, _, ea0⟩ := h8.at hx
    refine iteT (B := K0 X) ?_
    refine ⟨_, rfl, a0, _, rfl, .inl (SqL.of (sX _ _ ea0)), fun aq X1 g1 s1 e1 => k1 _ _ ⟨sX.trans s1, ?_, ?_⟩⟩
    · rw [List.take_add_one, ei]
      exact AN.snoc (au.imp fun v i g => let ⟨a, e, g1, g2⟩ := g; ⟨a, e, g1, s1 _ _ g2⟩) ⟨aq, rfl, sX.free g1, e1⟩
    · refine List.nodup_append.mpr ⟨nd, by simp, fun x hx y hy z => ?_⟩
      rw [List.mem_singleton.mp hy] at z
      subst z
      obtain ⟨i, _, a, e, _, h2⟩ := au.mem hx
      cases e
      rw [g1] at h2
      cases h2
  obtain ⟨sX, au, nd⟩ := s'
  rw [show ws.length = R.length from h8.1, List.take_length] at au
  have n1 : Same X (upd X np (.lst us)) := Same.new hqu
  have eu : (upd X np (.lst us)) np = some (.lst us) := upd_same
  have nnp : ∀ a o, X a = some o → a ≠ np := fun a o e => ne_of_none e hqu
  have gnp : H np = none := sX.free hqu
  have au : AN (WG (fun i c => wAt C (List.range m) pt (nkL L i) (nkL L c)) Q0 (fun a => H a = none ∧ a ≠ np) (upd X np (.lst us))) us R := au.imp fun v i g => let ⟨a, e, g1, g2⟩ := g; ⟨a, e, ⟨g1, nnp a _ g2⟩, n1 _ _ g2⟩
  have s1 := sX.trans n1
  generalize upd X np (.lst us) = X1 at eu au s1
  clear n1 hqu sX nnp
  have hul : us.length ≤ 1300 := by rw [au.1, ← h6.1]; exact hrl
  have dvr : DVs K X1 zr (R.map (dN (nkL L))) := (AN.dts (fun v i g => NM.dt g) (h6.imp fun v i g => NM.tups g s1.tups)).dv
  have dvc : DVs K X1 zc (Q0.map (dN (nkL L))) := (AN.dts (fun v i g => NM.dt g) (h7.imp fun v i g => NM.tups g s1.tups)).dv
  have dvr1 : DV K X1 vr (tD r.rw) := (gk_td (c3.tups s1.tups)).dv
  have dvc1 : DV K X1 vc (tD r.cl) := (gk_td (c4.tups s1.tups)).dv
  have dp1 : ∀ {u : Nat} {ks : List Key}, 1 ≤ u → (tD ks).depth ≤ u := fun h => Nat.le_trans (deep_tD _) h
  have layr := hlays fun i hi => ltr hi
  have layc := hlays fun i hi => ltc hi
  have h1 := s1 _ _ h1
  have h30 := h3
  have h40 := h4
  have h3 := s1 _ _ h3
  have h4 := s1 _ _ h4
  refine ⟨fun σ' Y => σ' = [some (.ref q), some vb, some (.ref b), some vp, some vr, some vc, some (.str r.wd), some (.ref kq), some (.ref np)] ∧ Same H Y ∧ Tups X1 Y ∧ Y rp = some (.lst zr) ∧ Y cp = some (.lst zc) ∧ Y np = some (.lst us) ∧ AN (WG (fun i c => wAt (extC C m r) (List.range (m + 1)) pt (nkL L i) (nkL L c)) Q0 (fun _ => True) Y) us R, ⟨fun bb Y => Y = X1 ∧ bb = (decide (∃ i, i ∈ R ∧ nkL L i = r.rw) && decide (∃ i, i ∈ Q0 ∧ nkL L i = r.cl)), ?_, ?_⟩, ?_⟩
  · refine ⟨_, rfl, _, rfl, q, _, _, .ref rp, rfl, rfl, SqT.of h1, atI_nat (j := 0) rfl, tD r.rw, rp, _, zr, dvr1, rfl, .inl (SqL.of h3), dvr, lay.2.1, layr, dp1 (by decide), _, rfl, ?_⟩
    by_cases z : ∃ i, i ∈ R ∧ nkL L i = r.rw
    · refine itT (any_key.trans (decide_eq_true z)) ?_
      refine ⟨_, rfl, _, rfl, q, _, _, .ref cp, rfl, rfl, SqT.of h1, atI_nat (j := 1) rfl, tD r.cl, cp, _, zc, dvc1, rfl, .inl (SqL.of h4), dvc, lay.2.2, layc, dp1 (by decide), _, rfl, rfl, ?_⟩
      rw [decide_eq_true z, Bool.true_and]
      exact any_key
    · refine itF (any_key.trans (decide_eq_false z)) ⟨rfl, ?_⟩
      rw [decide_eq_false z, Bool.false_and]
  · rintro bb Y ⟨rfl, rfl⟩
    by_cases z : (decide (∃ i, i ∈ R ∧ nkL L i = r.rw) && decide (∃ i, i ∈ Q0 ∧ nkL L i = r.cl)) = true
    · refine itT z ?_
      rw [Bool.and_eq_true] at z
      obtain ⟨i0, hi0, en0⟩ := of_decide_eq_true z.1
      obtain ⟨j0, hj0, em0⟩ := of_decide_eq_true z.2
      obtain ⟨A1, B1, rfl⟩ := List.append_of_mem hi0
      obtain ⟨A2, B2, rfl⟩ := List.append_of_mem hj0
      rw [← en0] at dvr1
      rw [← em0] at dvc1
      have ne1 : ∀ i ∈ A1, nkL L i ≠ nkL L i0 := fun i hi z => by
        have := hnm i (ltr (List.mem_append_left _ hi)) i0 (ltr hi0) z
        subst this
        exact (List.nodup_append.mp ndr).2.2 i hi i List.mem_cons_self rfl
      have ne2 : ∀ i ∈ A2, nkL L i ≠ nkL L j0 := fun i hi z => by
        have := hnm i (ltc (List.mem_append_left _ hi)) j0 (ltc hj0) z
        subst this
        exact (List.nodup_append.mp ndc).2.2 i hi i List.mem_cons_self rfl
      have ix1 := idx_split (B := B1) ne1
      have ix2 := idx_split (B := B2) ne2
      have hat : (A1 ++ i0 :: B1)[A1.length]? = some i0 := by rw [List.getElem?_append_right (Nat.le_refl _), Nat.sub_self]; rfl
      obtain ⟨wv, hwv⟩ : ∃ wv, us[A1.length]? = some wv := ⟨us[A1.length]'(by rw [au.1]; exact (List.getElem?_eq_some_iff.mp hat).1), List.getElem?_eq_getElem _⟩
      obtain ⟨a1, rfl, ⟨ga1, na1⟩, ea1⟩ := au.2 A1.length wv i0 hwv hat
      refine ⟨_, rfl, _, rfl, _, rfl, q, _, _, .ref rp, rfl, rfl, SqT.of h1, atI_nat (j := 0) rfl, .inl ⟨rfl, _, SqL.of h3⟩, _, rfl, vr, _, rp, _, zr, A1.length, rfl, rfl, dvr1, SqL.of h3, dvr, (W.lay i0 (ltr hi0)).1, layr, dp1 (by decide), ix1.1, ix1.2, np, us, _, .ref a1, rfl, rfl, SqL.of eu, atI_nat hwv, ?_⟩
      refine ⟨_, rfl, q, _, _, .ref cp, rfl, rfl, SqT.of h1, atI_nat (j := 1) rfl, .inl ⟨rfl, _, SqL.of h4⟩, _, rfl, vc, _, cp, _, zc, A2.length, rfl, rfl, dvc1, SqL.of h4, dvc, (W.lay j0 (ltc hj0)).1, layc, dp1 (by decide), ix2.1, ix2.2, a1, _, _, A2.length, rfl, rfl, ea1, ?_, ?_⟩
      · unfold ixN
        rw [if_pos (by omega), if_pos (by rw [List.length_map, List.length_append, List.length_cons]; omega), Int.toNat_natCast]
      have e1 : r.wd = wAt (extC C m r) (List.range (m + 1)) pt (nkL L i0) (nkL L j0) := by rw [hw, if_pos ⟨en0.symm, em0.symm⟩]
      have nd2 := List.nodup_append.mp ndc
      rw [show V.str r.wd = V.str ((fun c => wAt (extC C m r) (List.range (m + 1)) pt (nkL L i0) (nkL L c)) j0) from congrArg V.str e1, set_word (f := fun c => wAt C (List.range m) pt (nkL L i0) (nkL L c)) (g := fun c => wAt (extC C m r) (List.range (m + 1)) pt (nkL L i0) (nkL L c)) fun i hi => by
        show wAt (extC C m r) (List.range (m + 1)) pt (nkL L i0) (nkL L i) = _
        rw [hw, if_neg]
        rintro ⟨_, z⟩
        have hlt : i < n := by
          rcases List.mem_append.mp hi with y | y
          · exact ltc (List.mem_append_left _ y)
          · exact ltc (List.mem_append_right _ (List.mem_cons_of_mem _ y))
        have := hnm i hlt j0 (ltc hj0) (z.symm.trans em0.symm)
        subst this
        rcases List.mem_append.mp hi with y | y
        · exact nd2.2.2 i y i List.mem_cons_self rfl
        · exact (List.nodup_cons.mp nd2.2.1).1 y]
      have wr : ∀ {c : Addr} {o o' : HO}, c ≠ a1 → Y c = some o → (upd Y a1 o') c = some o := fun h e => by rw [upd_ne h]; exact e
      refine ⟨rfl, s1.wr ga1, Tups.wl ea1, wr (ne_of_none h30 ga1) h3, wr (ne_of_none h40 ga1) h4, wr na1.symm eu, ?_⟩
      refine ⟨au.1, fun k v i q1 q2 => ?_⟩
      obtain ⟨a, rfl, ⟨g1, g2⟩, g3⟩ := au.2 k v i q1 q2
      by_cases zk : k = A1.length
      · subst zk
        rw [hwv] at q1
        cases Option.some.inj q1
        rw [hat] at q2
        cases Option.some.inj q2
        exact ⟨a1, rfl, trivial, upd_same⟩
      · have na : a ≠ a1 := fun y => by
          subst y
          exact zk ((List.getElem?_inj (List.getElem?_eq_some_iff.mp q1).1 nd).mp (q1.trans hwv.symm))
        refine ⟨a, rfl, trivial, ?_⟩
        rw [upd_ne na, g3]
        congr 2
        refine List.map_congr_left fun c hc => ?_
        show V.str (wAt C (List.range m) pt (nkL L i) (nkL L c)) = V.str (wAt (extC C m r) (List.range (m + 1)) pt (nkL L i) (nkL L c))
        rw [hw, if_neg]
        rintro ⟨y1, _⟩
        have := hnm i (ltr (List.mem_of_getElem? q2)) i0 (ltr hi0) (y1.symm.trans en0.symm)
        subst this
        exact zk ((List.getElem?_inj (List.getElem?_eq_some_iff.mp q2).1 ndr).mp (q2.trans hat.symm))
    · refine itF (Bool.eq_false_iff.mpr z) ⟨rfl, s1, (fun _ _ e => e), h3, h4, eu, an_impM au fun v i hi g => ?_⟩
      obtain ⟨a, e, _, g2⟩ := g
      refine ⟨a, e, trivial, g2.trans ?_⟩
      congr 2
      refine List.map_congr_left fun c hc => ?_
      show V.str (wAt C (List.range m) pt (nkL L i) (nkL L c)) = V.str (wAt (extC C m r) (List.range (m + 1)) pt (nkL L i) (nkL L c))
      rw [hw, if_neg]
      rintro ⟨y1, y2⟩
      exact z (by rw [decide_eq_true ⟨i, hi, y1.symm⟩, decide_eq_true ⟨c, hc, y2.symm⟩]; rfl)
  rintro σ' Y ⟨rfl, sY, tY, y3, y4, y5, ay⟩
  have h1 := tY _ _ h1
  refine ⟨_, rfl, _, rfl, q, _, _, _, rfl, rfl, SqT.of h1, atI_nat (j := 0) rfl, _, rfl, q, _, _, _, rfl, rfl, SqT.of h1, atI_nat (j := 1) rfl, _, rfl, szOk rfl, fun tq Y1 gq sq eq => ?_⟩
  have sY1 := sY.trans sq
  have ay1 : AN (WG (fun i c => wAt (extC C m r) (List.range (m + 1)) pt (nkL L i) (nkL L c)) Q0 (fun _ => True) Y1) us R := ay.imp fun v i g => let ⟨a, e, g1, g2⟩ := g; ⟨a, e, g1, sq _ _ g2⟩
  refine ⟨_, tabX (nkL L) (extC C m r) (List.range (m + 1)) pt R Q0, dvb' sY1, .tup (SqT.of eq) (.cons (.lst (SqL.of (sq _ _ y3)) (AN.dts (fun v i g => NM.dt g) (h6.imp fun v i g => NM.tups g sY1.tups)).dv) (.cons (.lst (SqL.of (sq _ _ y4)) (AN.dts (fun v i g => NM.dt g) (h7.imp fun v i g => NM.tups g sY1.tups)).dv) (.cons (.lst (SqL.of (sq _ _ y5)) (WG.dvs ay1)) .nil))), k1, k1, Nat.le_trans (Nat.min_le_left _ _) (Nat.le_trans k3 (by decide)), ?_⟩
  rw [show (if false = true then !PyData.eqv (tabX (nkL L) (extC C m r) (List.range (m + 1)) pt R Q0) (tabX (nkL L) (extC C m r) (List.range (m + 1)) pt R Q0) else PyData.eqv (tabX (nkL L) (extC C m r) (List.range (m + 1)) pt R Q0) (tabX (nkL L) (extC C m r) (List.range (m + 1)) pt R Q0)) = true from k2]
  exact kk _ sY1
theorem ok_f_law_put (T : Txt K mg d tk) (gf_law_take : FnOk P w K mg base CX0 1 d.f_law_take d.f_law_taked ["_law_pool_here", "_law_many"] (sp_f_law_take K)) : FnOk P w K mg base CX0 2 d.f_law_put d.f_law_putd ["_law_facts", "_law_pool_here", "_law_k"] (sp_f_law_put K) := by
  refine T.F_f_law_put.ok sc_f_law_put (fun vs H Q E h => len_f_law_put h) (fun cdv A outer s H vs Q E hr h => ?_)
  have hu : (A.deeper (envOfC "_law_put" (defScope s_f_law_put) s.heap.objs.size d.f_law_put cdv)).units < cLine := hr.units0
  have hu1 : (A.deeper (envOfC "_law_put" (defScope s_f_law_put) s.heap.objs.size d.f_law_put cdv)).units + 1 < cLine := hu_of hr
  refine ⟨_, (@pss_cons _ _ _ _ _ (@ps_set _ _ (3) _ _ _ _ sc_f_law_put.nd rfl (Or.inl rfl) (@pe_lstA _ _ _ _ (@pa_cons _ _ _ _ _ (@pe_tupA _ _ _ _ _ (@pa_cons _ _ _ _ _ (@pe_str _ _ _ _) (@pa_cons _ _ _ _ _ (@pe_int _ _ _ _) (@pa_nil _) (by rfl)) (by rfl))) (@pa_cons _ _ _ _ _ (@pe_tupA _ _ _ _ _ (@pa_cons _ _ _ _ _ (@pe_str _ _ _ _) (@pa_cons _ _ _ _ _ (@pe_int _ _ _ _) (@pa_nil _) (by rfl)) (by rfl))) (@pa_cons _ _ _ _ _ (@pe_tupA _ _ _ _ _ (@pa_cons _ _ _ _ _ (@pe_str _ _ _ _) (@pa_cons _ _ _ _ _ (@pe_int _ _ _ _) (@pa_nil _) (by rfl)) (by rfl))) (@pa_cons _ _ _ _ _ (@pe_tupA _ _ _ _ _ (@pa_cons _ _ _ _ _ (@pe_str _ _ _ _) (@pa_cons _ _ _ _ _ (@pe_int _ _ _ _) (@pa_nil _) (by rfl)) (by rfl))) (@pa_nil _) (by rfl)) (by rfl)) (by rfl)) (by rfl))) (by rfl) (by first | exact .inl rfl | exact .inr rfl)) (@pss_cons _ _ _ _ _ (@ps_set _ _ (4) _ _ _ _ sc_f_law_put.nd rfl (Or.inl rfl) (@pe_ix _ _ _ _ _ _ _ ix_any (@pv _ 3 _ _ rfl (Or.inl rfl) rfl rfl) (@pe_call _ _ _ _ _ _ _ _ _ _ _ _ _ _ _ _ gf_law_take (hr.mono (by decide)) (by rfl) T.m_f_law_take T.k_f_law_take T.d_f_law_take .nil pass0 (@pa_cons _ _ _ _ _ (@pv _ 1 _ _ rfl (Or.inl rfl) rfl rfl) (@pa_cons _ _ _ _ _ (@pe_int _ _ _ _) (@pa_nil _) (by rfl)) (by rfl)) (by decide) (by rfl) (by rfl)) (fun _ _ => rfl)) (by rfl) (by first | exact .inl rfl | exact .inr rfl)) (@pss_cons _ _ _ _ _ (@ps_set _ _ (5) _ _ _ _ sc_f_law_put.nd rfl (Or.inl rfl) (@pe_call _ _ _ _ _ _ _ _ _ _ _ _ _ _ _ _ gf_law_take (hr.mono (by decide)) (by rfl) T.m_f_law_take T.k_f_law_take T.d_f_law_take .nil pass0 (@pa_cons _ _ _ _ _ (@pv _ 1 _ _ rfl (Or.inl rfl) rfl rfl) (@pa_cons _ _ _ _ _ (@pe_int _ _ _ _) (@pa_nil _) (by rfl)) (by rfl)) (by decide) (by rfl) (by rfl)) (by rfl) (by first | exact .inl rfl | exact .inr rfl)) (@pss_cons _ _ _ _ _ (@ps_set _ _ (6) _ _ _ _ sc_f_law_put.nd rfl (Or.inl rfl) (@pe_callB _ _ _ _ _ _ _ _ _ (call_maxT rfl (hu61 hr)) (by rfl) T.b_max boot_max (@pa_cons _ _ _ _ _ (@pe_op _ _ _ _ _ _ _ _ op_catA (@pe_lstA _ _ _ _ (@pa_cons _ _ _ _ _ (@pe_tupA _ _ _ _ _ (@pa_cons _ _ _ _ _ (@pe_int _ _ _ _) (@pa_cons _ _ _ _ _ (@pe_int _ _ _ _) (@pa_nil _) (by rfl)) (by rfl))) (@pa_nil _) (by rfl))) (@pe_lcomp _ _ _ _ _ _ _ (["_law_one"]) ([]) _ _ _ _ _ rfl (@pi_list _ _ _ _ (@pe_op _ _ _ _ _ _ _ _ op_catA (@pe_dget _ _ _ _ _ _ hu1 (@pv _ 0 _ _ rfl (Or.inl rfl) rfl rfl) (@pe_str _ _ _ _) (fun _ _ => rfl)) (@pe_dget _ _ _ _ _ _ hu1 (@pv _ 0 _ _ rfl (Or.inl rfl) rfl rfl) (@pe_str _ _ _ _) (fun _ _ => rfl)))) ⟨rfl, by decide +kernel, by decide +kernel⟩ (caps0 (by decide +kernel)) (fun _ _ _ => (@pg_name _ _ (0) _ (by show List.Nodup (["_law_one"] : List Str); decide +kernel) rfl (Or.inl rfl) (by first | exact .inl rfl | exact .inr rfl))) (fun _ => fresh_name rfl) (fun _ _ _ => (@pts_nil _)) (fun _ _ _ => (@pe_ix _ _ _ _ _ _ _ (ix_tupK (K := K) rfl) (@pv _ 0 _ _ rfl (Or.inl rfl) rfl rfl) (@pe_int _ _ _ _) (fun _ _ => rfl))) (by intro _; rfl))) (@pa_nil _) (by rfl)) (by decide) (by decide) (by rfl) (by rfl)) (by rfl) (by first | exact .inl rfl | exact .inr rfl)) (@pss_cons _ _ _ _ _ (@ps_set _ _ (7) _ _ _ _ sc_f_law_put.nd rfl (Or.inl rfl) (@pe_tupA _ _ _ _ _ (@pa_cons _ _ _ _ _ (@pe_ix _ _ _ _ _ _ _ ix_tup (@pv _ 6 _ _ rfl (Or.inl rfl) rfl rfl) (@pe_int _ _ _ _) (fun _ _ => rfl)) (@pa_cons _ _ _ _ _ (@pe_op _ _ _ _ _ _ _ _ op_add (@pe_ix _ _ _ _ _ _ _ ix_tup (@pv _ 6 _ _ rfl (Or.inl rfl) rfl rfl) (@pe_int _ _ _ _) (fun _ _ => rfl)) (@pe_int _ _ _ _)) (@pa_nil _) (by rfl)) (by rfl))) (by rfl) (by first | exact .inl rfl | exact .inr rfl)) (@pss_cut _ _ _ _ _ (@ps_if _ _ _ _ _ _ _ _ (@pt_post _ _ _ (@PW.pt _ _ _ (@pw_or _ _ _ _ _ _ _ (@pt_cmpR _ _ _ _ _ _ _ _ op_eq (@pe_ix _ _ _ _ _ _ _ ix_tup (@pv _ 6 _ _ rfl (Or.inl rfl) rfl rfl) (@pe_int _ _ _ _) (fun _ _ => rfl)) (@pe_int _ _ _ _) (nomark _)) (@pw_or1 _ _ _ _ (@pt_cmpR _ _ _ _ _ _ _ _ op_eq (@pe_call _ _ _ _ _ _ _ _ _ _ _ _ _ _ _ _ gf_law_take (hr.mono (by decide)) (by rfl) T.m_f_law_take T.k_f_law_take T.d_f_law_take .nil pass0 (@pa_cons _ _ _ _ _ (@pv _ 1 _ _ rfl (Or.inl rfl) rfl rfl) (@pa_cons _ _ _ _ _ (@pe_int _ _ _ _) (@pa_nil _) (by rfl)) (by rfl)) (by decide) (by rfl) (by rfl)) (@pe_int _ _ _ _) (nomark _)))))) (@pss_one _ _ _ (@ps_set _ _ (7) _ _ _ _ sc_f_law_put.nd rfl (Or.inl rfl) (@pe_tupA _ _ _ _ _ (@pa_cons _ _ _ _ _ (@pe_op _ _ _ _ _ _ _ _ op_add (@pe_op _ _ _ _ _ _ _ _ op_add (@pe_ix _ _ _ _ _ _ _ ix_tup (@pv _ 6 _ _ rfl (Or.inl rfl) rfl rfl) (@pe_int _ _ _ _) (fun _ _ => rfl)) (@pe_int _ _ _ _)) (@pe_call _ _ _ _ _ _ _ _ _ _ _ _ _ _ _ _ gf_law_take (hr.mono (by decide)) (by rfl) T.m_f_law_take T.k_f_law_take T.d_f_law_take .nil pass0 (@pa_cons _ _ _ _ _ (@pv _ 1 _ _ rfl (Or.inl rfl) rfl rfl) (@pa_cons _ _ _ _ _ (@pe_int _ _ _ _) (@pa_nil _) (by rfl)) (by rfl)) (by decide) (by rfl) (by rfl))) (@pa_cons _ _ _ _ _ (@pe_call _ _ _ _ _ _ _ _ _ _ _ _ _ _ _ _ gf_law_take (hr.mono (by decide)) (by rfl) T.m_f_law_take T.k_f_law_take T.d_f_law_take .nil pass0 (@pa_cons _ _ _ _ _ (@pv _ 1 _ _ rfl (Or.inl rfl) rfl rfl) (@pa_cons _ _ _ _ _ (@pe_int _ _ _ _) (@pa_nil _) (by rfl)) (by rfl)) (by decide) (by rfl) (by rfl)) (@pa_nil _) (by rfl)) (by rfl))) (by rfl) (by first | exact .inl rfl | exact .inr rfl))) (@pss_nil _)) (@pss_cons _ _ _ _ _ (@ps_set _ _ (8) _ _ _ _ sc_f_law_put.nd rfl (Or.inl rfl) (@pe_disp _ _ _ _ _ (@pps_cons _ _ _ _ _ _ _ _ _ (@pe_str _ _ _ _) (@pe_lstA _ _ _ _ (@pa_nil _)) (@pps_cons _ _ _ _ _ _ _ _ _ (@pe_str _ _ _ _) (@pe_lstA _ _ _ _ (@pa_nil _)) (@pps_nil _ _))) rfl rfl (List.cons_ne_nil _ _) (Nat.le_of_ble_eq_true rfl)) (by rfl) (by first | exact .inl rfl | exact .inr rfl)) (@pss_cons _ _ _ _ _ (@ps_for _ _ _ _ _ _ _ _ PassesOwn.never rfl (@pi_list _ _ _ _ (@pe_dget _ _ _ _ _ _ hu1 (@pv _ 0 _ _ rfl (Or.inl rfl) rfl rfl) (@pe_str _ _ _ _) (fun _ _ => rfl))) (@pg_tup _ _ _ _ _ _ rfl (@pgs_cons _ _ _ _ _ (@pg_name _ _ (9) _ sc_f_law_put.nd rfl (Or.inl rfl) (by first | exact .inl rfl | exact .inr rfl)) (@pgs_cons _ _ _ _ _ (@pg_name _ _ (10) _ sc_f_law_put.nd rfl (Or.inl rfl) (by first | exact .inl rfl | exact .inr rfl)) (@pgs_cons _ _ _ _ _ (@pg_name _ _ (11) _ sc_f_law_put.nd rfl (Or.inl rfl) (by first | exact .inl rfl | exact .inr rfl)) (@pgs_cons _ _ _ _ _ (@pg_name _ _ (12) _ sc_f_law_put.nd rfl (Or.inl rfl) (by first | exact .inl rfl | exact .inr rfl)) (@pgs_cons _ _ _ _ _ (@pg_name _ _ (13) _ sc_f_law_put.nd rfl (Or.inl rfl) (by first | exact .inl rfl | exact .inr rfl)) (@pgs_cons _ _ _ _ _ (@pg_name _ _ (14) _ sc_f_law_put.nd rfl (Or.inl rfl) (by first | exact .inl rfl | exact .inr rfl)) (@pgs_nil _) (by rfl)) (by rfl)) (by rfl)) (by rfl)) (by rfl)) (by rfl)) (by rfl) (by rfl)) (@pss_one _ _ _ (@ps_if _ _ _ _ _ _ _ _ (@pt_post _ _ _ (@PW.pt _ _ _ (@pw_and _ _ _ _ _ _ _ (@pt_cmpR _ _ _ _ _ _ _ _ (op_eqD (hu64 hr)) (@pv _ 9 _ _ rfl (Or.inl rfl) rfl rfl) (@pv _ 4 _ _ rfl (Or.inl rfl) rfl rfl) (nomark _)) (@pw_and1 _ _ _ _ (@pt_cmpR _ _ _ _ _ _ _ _ op_lt (@pe_ix _ _ _ _ _ _ _ ix_tup (@pv _ 13 _ _ rfl (Or.inl rfl) rfl rfl) (@pe_int _ _ _ _) (fun _ _ => rfl)) (@pe_ix _ _ _ _ _ _ _ ix_tup (@pv _ 7 _ _ rfl (Or.inl rfl) rfl rfl) (@pe_int _ _ _ _) (fun _ _ => rfl)) (nomark _)))))) (@pss_one _ _ _ (@ps_expr _ _ _ _ (@pe_bm _ _ _ _ _ _ _ _ _ _ _ _ PySem.F.plainAttrs_list PySem.F.slot_list_append PySem.F.type_list_append mt_append (@pe_dget _ _ _ _ _ _ hu1 (@pv _ 8 _ _ rfl (Or.inl rfl) rfl rfl) (@pv _ 10 _ _ rfl (Or.inl rfl) rfl rfl) (fun _ _ => rfl)) (@pa_cons _ _ _ _ _ (@pv _ 11 _ _ rfl (Or.inl rfl) rfl rfl) (@pa_nil _) (by rfl)) (by rfl) (by rfl) (by rfl) (by rfl) (by rfl)) (by rfl))) (@pss_nil _))) (by intro _; rfl)) (@pss_one _ _ _ (@ps_if _ _ _ _ _ _ _ _ (@pt_post _ _ _ (@PW.pt _ _ _ (@pw_and _ _ _ _ _ _ _ (@pt_cmpR _ _ _ _ _ _ _ _ op_eq (@pv _ 5 _ _ rfl (Or.inl rfl) rfl rfl) (@pe_int _ _ _ _) (nomark _)) (@pw_and _ _ _ _ _ _ _ (@pt_cmpR _ _ _ _ _ _ _ _ (op_neD (hu64 hr)) (@pe_dget _ _ _ _ _ _ hu1 (@pv _ 8 _ _ rfl (Or.inl rfl) rfl rfl) (@pe_str _ _ _ _) (fun _ _ => rfl)) (@pe_lstA _ _ _ _ (@pa_nil _)) (nomark _)) (@pw_and1 _ _ _ _ (@pt_cmpR _ _ _ _ _ _ _ _ (op_neD (hu64 hr)) (@pe_dget _ _ _ _ _ _ hu1 (@pv _ 8 _ _ rfl (Or.inl rfl) rfl rfl) (@pe_str _ _ _ _) (fun _ _ => rfl)) (@pe_lstA _ _ _ _ (@pa_nil _)) (nomark _))))))) (@pss_cons _ _ _ _ _ (@ps_set _ _ (15) _ _ _ _ sc_f_law_put.nd rfl (Or.inl rfl) (@pe_ix _ _ _ _ _ _ _ ix_any (@pe_dget _ _ _ _ _ _ hu1 (@pv _ 8 _ _ rfl (Or.inl rfl) rfl rfl) (@pe_str _ _ _ _) (fun _ _ => rfl)) (@pe_call _ _ _ _ _ _ _ _ _ _ _ _ _ _ _ _ gf_law_take (hr.mono (by decide)) (by rfl) T.m_f_law_take T.k_f_law_take T.d_f_law_take .nil pass0 (@pa_cons _ _ _ _ _ (@pv _ 1 _ _ rfl (Or.inl rfl) rfl rfl) (@pa_cons _ _ _ _ _ (@pe_callB _ _ _ _ _ _ _ _ _ call_len_seq (by rfl) T.b_len boot_len (@pa_cons _ _ _ _ _ (@pe_dget _ _ _ _ _ _ hu1 (@pv _ 8 _ _ rfl (Or.inl rfl) rfl rfl) (@pe_str _ _ _ _) (fun _ _ => rfl)) (@pa_nil _) (by rfl)) (by decide) (by decide) (by rfl) (by rfl)) (@pa_nil _) (by rfl)) (by rfl)) (by decide) (by rfl) (by rfl)) (fun _ _ => rfl)) (by rfl) (by first | exact .inl rfl | exact .inr rfl)) (@pss_cons _ _ _ _ _ (@ps_set _ _ (16) _ _ _ _ sc_f_law_put.nd rfl (Or.inl rfl) (@pe_ix _ _ _ _ _ _ _ ix_any (@pe_dget _ _ _ _ _ _ hu1 (@pv _ 8 _ _ rfl (Or.inl rfl) rfl rfl) (@pe_str _ _ _ _) (fun _ _ => rfl)) (@pe_call _ _ _ _ _ _ _ _ _ _ _ _ _ _ _ _ gf_law_take (hr.mono (by decide)) (by rfl) T.m_f_law_take T.k_f_law_take T.d_f_law_take .nil pass0 (@pa_cons _ _ _ _ _ (@pv _ 1 _ _ rfl (Or.inl rfl) rfl rfl) (@pa_cons _ _ _ _ _ (@pe_callB _ _ _ _ _ _ _ _ _ call_len_seq (by rfl) T.b_len boot_len (@pa_cons _ _ _ _ _ (@pe_dget _ _ _ _ _ _ hu1 (@pv _ 8 _ _ rfl (Or.inl rfl) rfl rfl) (@pe_str _ _ _ _) (fun _ _ => rfl)) (@pa_nil _) (by rfl)) (by decide) (by decide) (by rfl) (by rfl)) (@pa_nil _) (by rfl)) (by rfl)) (by decide) (by rfl) (by rfl)) (fun _ _ => rfl)) (by rfl) (by first | exact .inl rfl | exact .inr rfl)) (@pss_cons _ _ _ _ _ (@ps_set _ _ (17) _ _ _ _ sc_f_law_put.nd rfl (Or.inl rfl) (@pe_ix _ _ _ _ _ _ _ ix_any (@pe_lstA _ _ _ _ (@pa_cons _ _ _ _ _ (@pe_str _ _ _ _) (@pa_cons _ _ _ _ _ (@pe_str _ _ _ _) (@pa_cons _ _ _ _ _ (@pe_str _ _ _ _) (@pa_cons _ _ _ _ _ (@pe_str _ _ _ _) (@pa_nil _) (by rfl)) (by rfl)) (by rfl)) (by rfl))) (@pe_call _ _ _ _ _ _ _ _ _ _ _ _ _ _ _ _ gf_law_take (hr.mono (by decide)) (by rfl) T.m_f_law_take T.k_f_law_take T.d_f_law_take .nil pass0 (@pa_cons _ _ _ _ _ (@pv _ 1 _ _ rfl (Or.inl rfl) rfl rfl) (@pa_cons _ _ _ _ _ (@pe_int _ _ _ _) (@pa_nil _) (by rfl)) (by rfl)) (by decide) (by rfl) (by rfl)) (fun _ _ => rfl)) (by rfl) (by first | exact .inl rfl | exact .inr rfl)) (@pss_one _ _ _ (@ps_expr _ _ _ _ (@pe_bm _ _ _ _ _ _ _ _ _ _ _ _ PySem.F.plainAttrs_list PySem.F.slot_list_append PySem.F.type_list_append mt_append (@pe_dget _ _ _ _ _ _ hu1 (@pv _ 0 _ _ rfl (Or.inl rfl) rfl rfl) (@pe_str _ _ _ _) (fun _ _ => rfl)) (@pa_cons _ _ _ _ _ (@pe_tupA _ _ _ _ _ (@pa_cons _ _ _ _ _ (@pv _ 4 _ _ rfl (Or.inl rfl) rfl rfl) (@pa_cons _ _ _ _ _ (@pv _ 15 _ _ rfl (Or.inl rfl) rfl rfl) (@pa_cons _ _ _ _ _ (@pv _ 16 _ _ rfl (Or.inl rfl) rfl rfl) (@pa_cons _ _ _ _ _ (@pv _ 17 _ _ rfl (Or.inl rfl) rfl rfl) (@pa_cons _ _ _ _ _ (@pv _ 7 _ _ rfl (Or.inl rfl) rfl rfl) (@pa_nil _) (by rfl)) (by rfl)) (by rfl)) (by rfl)) (by rfl))) (@pa_nil _) (by rfl)) (by rfl) (by rfl) (by rfl) (by rfl) (by rfl)) (by rfl)))))) (@pss_cons _ _ _ _ _ (@ps_set _ _ (10) _ _ _ _ sc_f_law_put.nd rfl (Or.inl rfl) (@pe_ix _ _ _ _ _ _ _ ix_any (@pe_lstA _ _ _ _ (@pa_cons _ _ _ _ _ (@pe_str _ _ _ _) (@pa_cons _ _ _ _ _ (@pe_str _ _ _ _) (@pa_nil _) (by rfl)) (by rfl))) (@pe_op _ _ _ _ _ _ _ _ op_mod (@pv _ 5 _ _ rfl (Or.inl rfl) rfl rfl) (@pe_int _ _ _ _)) (fun _ _ => rfl)) (by rfl) (by first | exact .inl rfl | exact .inr rfl)) (@pss_cons _ _ _ _ _ (@ps_set _ _ (18) _ _ _ _ sc_f_law_put.nd rfl (Or.inl rfl) (@pe_op _ _ _ _ _ _ _ _ op_catA (@pe_lstA _ _ _ _ (@pa_cons _ _ _ _ _ (@pe_non _ _ _) (@pa_nil _) (by rfl))) (@pe_dget _ _ _ _ _ _ hu1 (@pv _ 8 _ _ rfl (Or.inl rfl) rfl rfl) (@pv _ 10 _ _ rfl (Or.inl rfl) rfl rfl) (fun _ _ => rfl))) (by rfl) (by first | exact .inl rfl | exact .inr rfl)) (@pss_cons _ _ _ _ _ (@ps_set _ _ (12) _ _ _ _ sc_f_law_put.nd rfl (Or.inl rfl) (@pe_ix _ _ _ _ _ _ _ ix_any (@pv _ 18 _ _ rfl (Or.inl rfl) rfl rfl) (@pe_call _ _ _ _ _ _ _ _ _ _ _ _ _ _ _ _ gf_law_take (hr.mono (by decide)) (by rfl) T.m_f_law_take T.k_f_law_take T.d_f_law_take .nil pass0 (@pa_cons _ _ _ _ _ (@pv _ 1 _ _ rfl (Or.inl rfl) rfl rfl) (@pa_cons _ _ _ _ _ (@pe_callB _ _ _ _ _ _ _ _ _ call_len_seq (by rfl) T.b_len boot_len (@pa_cons _ _ _ _ _ (@pv _ 18 _ _ rfl (Or.inl rfl) rfl rfl) (@pa_nil _) (by rfl)) (by decide) (by decide) (by rfl) (by rfl)) (@pa_nil _) (by rfl)) (by rfl)) (by decide) (by rfl) (by rfl)) (fun _ _ => rfl)) (by rfl) (by first | exact .inl rfl | exact .inr rfl)) (@pss_cons _ _ _ _ _ (@ps_set _ _ (19) _ _ _ _ sc_f_law_put.nd rfl (Or.inl rfl) (@pe_ix _ _ _ _ _ _ _ ix_any (@pe_lstA _ _ _ _ (@pa_cons _ _ _ _ _ (@pe_tupA _ _ _ _ _ (@pa_cons _ _ _ _ _ (@pe_str _ _ _ _) (@pa_cons _ _ _ _ _ (@pe_op _ _ _ _ _ _ _ _ op_sub (@pe_int _ _ _ _) (@pv _ 2 _ _ rfl (Or.inl rfl) rfl rfl)) (@pa_nil _) (by rfl)) (by rfl))) (@pa_cons _ _ _ _ _ (@pe_tupA _ _ _ _ _ (@pa_cons _ _ _ _ _ (@pe_str _ _ _ _) (@pa_cons _ _ _ _ _ (@pe_op _ _ _ _ _ _ _ _ op_add (@pe_int _ _ _ _) (@pv _ 2 _ _ rfl (Or.inl rfl) rfl rfl)) (@pa_nil _) (by rfl)) (by rfl))) (@pa_cons _ _ _ _ _ (@pe_tupA _ _ _ _ _ (@pa_cons _ _ _ _ _ (@pe_str _ _ _ _) (@pa_cons _ _ _ _ _ (@pe_op _ _ _ _ _ _ _ _ op_add (@pe_int _ _ _ _) (@pv _ 2 _ _ rfl (Or.inl rfl) rfl rfl)) (@pa_nil _) (by rfl)) (by rfl))) (@pa_nil _) (by rfl)) (by rfl)) (by rfl))) (@pe_ix _ _ _ _ _ _ _ ix_tup (@pv _ 7 _ _ rfl (Or.inl rfl) rfl rfl) (@pe_int _ _ _ _) (fun _ _ => rfl)) (fun _ _ => rfl)) (by rfl) (by first | exact .inl rfl | exact .inr rfl)) (@pss_one _ _ _ (@ps_expr _ _ _ _ (@pe_bm _ _ _ _ _ _ _ _ _ _ _ _ PySem.F.plainAttrs_list PySem.F.slot_list_append PySem.F.type_list_append mt_append (@pe_dget _ _ _ _ _ _ hu1 (@pv _ 0 _ _ rfl (Or.inl rfl) rfl rfl) (@pe_str _ _ _ _) (fun _ _ => rfl)) (@pa_cons _ _ _ _ _ (@pe_tupA _ _ _ _ _ (@pa_cons _ _ _ _ _ (@pv _ 4 _ _ rfl (Or.inl rfl) rfl rfl) (@pa_cons _ _ _ _ _ (@pv _ 10 _ _ rfl (Or.inl rfl) rfl rfl) (@pa_cons _ _ _ _ _ (@pv _ 19 _ _ rfl (Or.inl rfl) rfl rfl) (@pa_cons _ _ _ _ _ (@pv _ 12 _ _ rfl (Or.inl rfl) rfl rfl) (@pa_cons _ _ _ _ _ (@pv _ 7 _ _ rfl (Or.inl rfl) rfl rfl) (@pa_cons _ _ _ _ _ (@pe_cmpR _ _ _ _ _ _ _ _ op_lt (@pe_call _ _ _ _ _ _ _ _ _ _ _ _ _ _ _ _ gf_law_take (hr.mono (by decide)) (by rfl) T.m_f_law_take T.k_f_law_take T.d_f_law_take .nil pass0 (@pa_cons _ _ _ _ _ (@pv _ 1 _ _ rfl (Or.inl rfl) rfl rfl) (@pa_cons _ _ _ _ _ (@pe_int _ _ _ _) (@pa_nil _) (by rfl)) (by rfl)) (by decide) (by rfl) (by rfl)) (@pe_int _ _ _ _) (nomark _)) (@pa_nil _) (by rfl)) (by rfl)) (by rfl)) (by rfl)) (by rfl)) (by rfl))) (@pa_nil _) (by rfl)) (by rfl) (by rfl) (by rfl) (by rfl) (by rfl)) (by rfl))))))))))))))))), ?_⟩
  obtain ⟨fa, p, F, L, n, C, mc, cs, vs, m, k, rfl, fp, hp, np6, np7, hk, kk⟩ := h
  have fpD := fp.del hp np6 np7
  have sD : Same (del H p) H := del_same
  have dp : del H p p = none := del_at
  have rest0 : ∀ b o, H b = some o → b ≠ p → del H p b = some o := fun b o e h => by rw [del_ne h]; exact e
  generalize del H p = Hd at fpD sD dp rest0
  clear fp
  have hvl : vs.length = n := by rw [fpD.an.1, List.length_range]
  have hnk := fpD.nk
  have hck := fpD.ck
  have hcl0 : cs.length = mc := by rw [fpD.ca.1, List.length_range]
  refine ⟨szOk rfl, fun t1 Ha ga sa ea => ?_⟩
  refine ⟨szOk rfl, fun t2 Hb gb sb eb => ?_⟩
  refine ⟨szOk rfl, fun t3 Hc gc sc ec => ?_⟩
  refine ⟨szOk rfl, fun t4 He ge se ee => ?_⟩
  refine ⟨szOk rfl, fun lp H1 g1 s1 e1 => ?_⟩
  have sH1 : Same H H1 := (((sa.trans sb).trans sc).trans se).trans s1
  have hp1 := sH1 _ _ hp
  have nlp : lp ≠ p := (ne_of_none ((((sa.trans sb).trans sc).trans se) _ _ hp) g1).symm
  have parts : ∀ x ∈ [V.ref t1, .ref t2, .ref t3, .ref t4], ∃ pt, GK H1 (.tup pt) x ∧ Lay pt := fun x hx => by
    simp only [List.mem_cons, List.not_mem_nil, or_false] at hx
    rcases hx with rfl | rfl | rfl | rfl
    · exact ⟨[.inr "", .inl 0], ⟨t1, rfl, s1 _ _ (se _ _ (sc _ _ (sb _ _ ea)))⟩, by unfold Lay; decide +kernel⟩
    · exact ⟨[.inr "ann", .inl 1], ⟨t2, rfl, s1 _ _ (se _ _ (sc _ _ eb))⟩, by unfold Lay; decide +kernel⟩
    · exact ⟨[.inr "ann", .inl 12], ⟨t3, rfl, s1 _ _ (se _ _ ec)⟩, by unfold Lay; decide +kernel⟩
    · exact ⟨[.inr "bo", .inl 2], ⟨t4, rfl, s1 _ _ ee⟩, by unfold Lay; decide +kernel⟩
  refine ⟨_, rfl, _, rfl, p, m, 4, rfl, hp1, by decide, by decide, fun r1 m1 r10 r11 => ?_⟩
  have sX : Same Hd (upd H1 p (.lst [.int m1])) := (sD.trans sH1).wr dp
  have hpX : (upd H1 p (.lst [.int m1])) p = some (.lst [.int m1]) := upd_same
  have tX : Tups H1 (upd H1 p (.lst [.int m1])) := Tups.wl hp1
  have elp : (upd H1 p (.lst [.int m1])) lp = _ := (upd_ne nlp).trans e1
  generalize upd H1 p (.lst [.int m1]) = X1 at sX hpX tX elp
  refine ⟨lp, _, _, rfl, rfl, SqL.of elp, r10, r11, fun vp hvp => ?_⟩
  obtain ⟨pt, gvp0, hlay⟩ := parts vp hvp
  have gvp := gvp0.tups tX
  clear parts sH1 hp1 tX gvp0 elp hvp
  refine ⟨_, rfl, p, m1, 4, rfl, hpX, by decide, by decide, fun kind m2 kind0 kind1 => ?_⟩
  have sX2 : Same Hd (upd X1 p (.lst [.int m2])) := sX.wr dp
  have hpX2 : (upd X1 p (.lst [.int m2])) p = some (.lst [.int m2]) := upd_same
  have gvp2 := gvp.tups (Tups.wl (o' := .lst [.int m2]) hpX)
  generalize upd X1 p (.lst [.int m2]) = X2 at sX2 hpX2 gvp2
  clear sX hpX gvp
  refine ⟨szOk rfl, fun tz Xa ga sa ea => ?_⟩
  refine ⟨szOk rfl, fun l1 Xb gb sb eb => ?_⟩
  have sXb := (sX2.trans sa).trans sb
  have fpb := fpD.same sXb
  refine ⟨_, rfl, fa, .ref (F 6), rfl, .inl ⟨fkv F 9, .inr "lines", fpb.fa.dk, rfl, (fkv_at F 6 (by decide)).symm⟩, _, rfl, fa, .ref (F 7), rfl, .inl ⟨fkv F 9, .inr "cells", fpb.fa.dk, rfl, (fkv_at F 7 (by decide)).symm⟩, F 6, F 7, vs, cs, rfl, rfl, fpb.li, fpb.ce, big (by omega), fun cq Xc gc sc ec => ?_⟩
  have fpc := fpb.same sc
  obtain ⟨kks, kl, k4, kin, kinC⟩ := fpc.keys
  have hvc : (vs ++ cs).length ≤ 200 := by rw [List.length_append]; omega
  refine ⟨cq, rfl, ⟨_, SqL.of ec⟩, lc_any (xs := vs ++ cs) (big (by omega)) (fun j ys H' => H' = Xc ∧ DTs Xc ys (((kks.take j).map tI).map fun ns => .tuple (ns.map PyData.int))) ⟨rfl, .nil⟩ (fun _ _ H' s' => by rw [s'.1]; exact SqL.of ec) (fun j x ys H' K1 K0 hx s' k1 k0 => ?_) fun H' nq ys s' hy hq => ?_⟩
  · obtain ⟨rfl, dy⟩ := s'
    have hj : j < kks.length := by rw [kl]; exact (List.getElem?_eq_some_iff.mp hx).1
    have ek : kks[j]? = some kks[j] := List.getElem?_eq_getElem hj
    obtain ⟨⟨q, xs, kq, rfl, h1, h2, h3⟩, _⟩ := k4 j x _ hx ek
    refine iteT (B := K0 H') ?_
    refine ⟨_, rfl, q, xs, 4, _, rfl, rfl, SqT.of h1, atI_nat (j := 4) h2, k1 _ _ ⟨rfl, ?_⟩⟩
    rw [List.take_add_one, ek, List.map_append, List.map_append]
    exact dts_snoc (.tup h3 (.cons (.int _) (.cons (.int _) .nil))) dy
  obtain ⟨rfl, dy⟩ := s'
  rw [← kl, List.take_length] at dy
  have nH : Same H' (upd H' nq (.lst ys)) := Same.new hq
  refine ⟨l1, nq, _, _, rfl, rfl, nH _ _ (sc _ _ eb), upd_same, big (by show 1 + ys.length ≤ 1000; omega), fun mq Xe ge se ee => ?_⟩
  have sce : Same H' Xe := nH.trans se
  have dall : DTs Xe ([.ref tz] ++ ys) ((((0, 2) :: kks).map tI).map fun ns => .tuple (ns.map PyData.int)) := .cons (.tup (sce _ _ (sc _ _ (sb _ _ ea))) (.cons (.int _) (.cons (.int _) .nil))) (dy.tups sce.tups)
  refine ⟨mq, [.ref tz] ++ ys, ((0, 2) :: kks).map tI, rfl, SqL.of ee, dall.dv, by rw [List.length_append, List.length_singleton]; omega, fun mi v ns hv hns hmax => ?_⟩
  obtain ⟨a0, b0, rfl, hb0, hb2⟩ : ∃ a b : Int, ns = [a, b] ∧ 0 ≤ b ∧ b ≤ 2 := by
    obtain ⟨e, he, rfl⟩ := List.mem_map.mp (List.mem_of_getElem? hns)
    rcases List.mem_cons.mp he with rfl | z
    · exact ⟨0, 2, rfl, by decide, by decide⟩
    · obtain ⟨i, hi, ei⟩ := List.mem_iff_getElem.mp z
      have hi' : i < (vs ++ cs).length := by rw [← kl]; exact hi
      have := (k4 i (vs ++ cs)[i] e (List.getElem?_eq_getElem hi') (by rw [List.getElem?_eq_getElem hi, ei])).2
      exact ⟨e.1, e.2, rfl, this⟩
  have dtv := dts_get dall hv (d := .tuple [.int a0, .int b0]) (by rw [List.getElem?_map, hns]; rfl)
  obtain ⟨aq, rfl, eaq⟩ : ∃ aq, v = .ref aq ∧ Xe aq = some (.tup [.int a0, .int b0]) := by
    cases dtv with
    | tup h1 h2 =>
      rw [dts_ints (ns := [a0, b0]) h2] at h1
      exact ⟨_, rfl, h1⟩
  have over : ∀ i, i < n → (L i).ka < a0 ∨ ((L i).ka = a0 ∧ (L i).kb ≤ b0) := fun i hi => not_lt2 (hmax (tI ((L i).ka, (L i).kb)) (List.mem_map.mpr ⟨_, List.mem_cons_of_mem _ (kin i hi), rfl⟩))
  have overC : ∀ i, i < mc → (C i).ka < a0 ∨ ((C i).ka = a0 ∧ (C i).kb ≤ b0) := fun i hi => not_lt2 (hmax (tI ((C i).ka, (C i).kb)) (List.mem_map.mpr ⟨_, List.mem_cons_of_mem _ (kinC i hi), rfl⟩))
  have sXe : Same Hd Xe := (sXb.trans sc).trans sce
  have s2e : Same X2 Xe := (((sa.trans sb).trans sc).trans sce)
  have hpe := s2e _ _ hpX2
  have gvpe := gvp2.tups s2e.tups
  clear dall dtv hmax hns hv k4 kin kinC kl dy fpc fpb s2e gvp2 hpX2 sX2 sXb
  refine ⟨_, rfl, aq, _, 0, _, rfl, rfl, SqT.of eaq, rfl, _, rfl, aq, _, 1, _, rfl, rfl, SqT.of eaq, rfl, _, _, rfl, rfl, szOk rfl, fun kq0 Xf gf sf ef => ?_⟩
  refine ⟨fun σ' H' => ∃ (kq : Addr) (ka kb m' : Int), σ' = [some (.ref fa), some (.ref p), some (.int (k : Int)), some (.ref lp), some vp, some (.int kind), some (.ref aq), some (.ref kq), none, none, none, none, none, none, none, none, none, none, none, none] ∧ Same Hd H' ∧ H' p = some (.lst [.int m']) ∧ GK H' (.tup pt) vp ∧ H' kq = some (.tup [.int ka, .int kb]) ∧ Lt2 a0 b0 ka kb ∧ 0 ≤ kb ∧ kb ≤ 2, ?_, ?_⟩
  · refine ⟨fun b H' => ∃ m' : Int, Same Hd H' ∧ H' p = some (.lst [.int m']) ∧ GK H' (.tup pt) vp ∧ H' aq = some (.tup [.int a0, .int b0]) ∧ H' kq0 = some (.tup [.int a0, .int (b0 + 1)]) ∧ (b = false → b0 ≠ 2), ?_, ?_⟩
    · have base : Same Hd Xf ∧ Xf p = some (.lst [.int m2]) ∧ GK Xf (.tup pt) vp ∧ Xf aq = some (.tup [.int a0, .int b0]) ∧ Xf kq0 = some (.tup [.int a0, .int (b0 + 1)]) := ⟨sXe.trans sf, sf _ _ hpe, gvpe.tups sf.tups, sf _ _ eaq, ef⟩
      obtain ⟨b1, b2, b3, b4, b5⟩ := base
      refine ⟨_, rfl, aq, _, 1, _, rfl, rfl, SqT.of b4, rfl, rfl, _, rfl, ?_⟩
      by_cases hb : b0 = 2
      · refine itT (decide_eq_true (by rw [hb])) ?_
        exact ⟨m2, b1, b2, b3, b4, b5, fun z => by cases z⟩
      · refine itF (decide_eq_false (fun z => hb (V.int.inj z))) ?_
        refine ⟨_, rfl, p, m2, 3, rfl, b2, by decide, by decide, fun r m3 r0 r1 => ?_⟩
        refine ⟨rfl, _, rfl, m3, b1.wr dp, upd_same, b3.tups (Tups.wl b2), Tups.wl b2 _ _ b4, Tups.wl b2 _ _ b5, fun _ => hb⟩
    · rintro b X' ⟨m3, b1, b2, b3, b4, b5, b6⟩
      cases b with
      | true =>
        refine itT rfl ?_
        refine ⟨_, rfl, aq, _, 0, _, rfl, rfl, SqT.of b4, rfl, _, _, rfl, rfl, _, rfl, p, m3, 2, rfl, b2, by decide, by decide, fun r m4 r0 r1 => ?_⟩
        have hp4 : (upd X' p (.lst [.int m4])) p = some (.lst [.int m4]) := upd_same
        refine ⟨_, _, rfl, rfl, _, rfl, p, m4, 3, rfl, hp4, by decide, by decide, fun r' m5 r0' r1' => ?_⟩
        have tt : Tups X' (upd (upd X' p (.lst [.int m4])) p (.lst [.int m5])) := (Tups.wl b2).trans (Tups.wl hp4)
        have sY : Same Hd (upd (upd X' p (.lst [.int m4])) p (.lst [.int m5])) := (b1.wr dp).wr dp
        have hpY : (upd (upd X' p (.lst [.int m4])) p (.lst [.int m5])) p = some (.lst [.int m5]) := upd_same
        generalize upd (upd X' p (.lst [.int m4])) p (.lst [.int m5]) = Y at tt sY hpY
        refine ⟨szOk rfl, fun kq1 Z gz sz ez => ?_⟩
        exact ⟨kq1, _, _, m5, rfl, sY.trans sz, sz _ _ hpY, (b3.tups tt).tups sz.tups, ez, .inl (by omega), r0', by omega⟩
      | false =>
        refine itF rfl ?_
        have := b6 rfl
        exact ⟨kq0, _, _, m3, rfl, b1, b2, b3, b5, .inr ⟨rfl, by omega⟩, by omega, by omega⟩
  rintro σ' X ⟨kq, ka, kb, m', rfl, sX, hpX, gvp, ekq, lt, kb0, kb2⟩
  have up : ∀ i, i < n → Lt2 (L i).ka (L i).kb ka kb := fun i hi => by
    have := over i hi
    unfold Lt2 at lt ⊢
    omega
  have upC : ∀ i, i < mc → Lt2 (C i).ka (C i).kb ka kb := fun i hi => by
    have := overC i hi
    unfold Lt2 at lt ⊢
    omega
  clear over overC sXe hpe gvpe sf ef gf
  refine fun dq gdq => ⟨szOk rfl, fun ra Xa ga sa ea => ⟨szOk rfl, fun ca Xb gb sb eb => ?_⟩⟩
  have ndp : ∀ {b : Addr} {o : HO}, X b = some o → b ≠ dq := fun e => ne_of_none e gdq
  have nra : ra ≠ dq := (ne_of_none upd_same ga).symm
  have nca : ca ≠ dq := (ne_of_none (sa _ _ upd_same) gb).symm
  have nrc : ra ≠ ca := ne_of_none ea gb
  have edb : Xb dq = some (.dK []) := sb _ _ (sa _ _ upd_same)
  refine ⟨edb, [(.inr "row", .ref ra), (.inr "column", .ref ca)], rfl, (by show 2 ≤ 15; decide), ?_⟩
  rw [merge_two]
  have sXb : Same X Xb := ((Same.new gdq).trans sa).trans sb
  have sY : Same X (upd Xb dq (.dK [(.inr "row", .ref ra), (.inr "column", .ref ca)])) := sXb.wr gdq
  have eY : (upd Xb dq (.dK [(.inr "row", .ref ra), (.inr "column", .ref ca)])) dq = some (.dK [(.inr "row", .ref ra), (.inr "column", .ref ca)]) := upd_same
  have raY : (upd Xb dq (.dK [(.inr "row", .ref ra), (.inr "column", .ref ca)])) ra = some (.lst []) := by rw [upd_ne nra]; exact sb _ _ ea
  have caY : (upd Xb dq (.dK [(.inr "row", .ref ra), (.inr "column", .ref ca)])) ca = some (.lst []) := by rw [upd_ne nca]; exact eb
  have fra : X ra = none := ((Same.new gdq).free ga)
  have fca : X ca = none := (((Same.new gdq).trans sa).free gb)
  generalize upd Xb dq (.dK [(.inr "row", .ref ra), (.inr "column", .ref ca)]) = Y at sY eY raY caY
  clear sXb edb ea eb sa sb ga gb
  have fpX := fpD.same sX
  have fpY := fpX.same sY
  have gN : ∀ i, i < n → True := fun _ _ => trivial
  clear gN
  refine ⟨_, rfl, fa, .ref (F 6), rfl, .inl ⟨fkv F 9, .inr "lines", fpY.fa.dk, rfl, (fkv_at F 6 (by decide)).symm⟩, F 6, rfl, ⟨_, SqL.of fpY.li⟩, for_list (xs := vs) (fun j σ Z => ∃ (rv cv : List V) (rj cj : List Nat) (u9 u10 u11 u12 u13 u14 : Option V), σ = [some (.ref fa), some (.ref p), some (.int (k : Int)), some (.ref lp), some vp, some (.int kind), some (.ref aq), some (.ref kq), some (.ref dq), u9, u10, u11, u12, u13, u14, none, none, none, none, none] ∧ Same X Z ∧ Z dq = some (.dK [(.inr "row", .ref ra), (.inr "column", .ref ca)]) ∧ Z ra = some (.lst rv) ∧ Z ca = some (.lst cv) ∧ AN (NM (nkL L) Z) rv rj ∧ AN (NM (nkL L) Z) cv cj ∧ (∀ i ∈ rj, i < n ∧ (L i).pt = pt ∧ (L i).wy = "row") ∧ (∀ i ∈ cj, i < n ∧ (L i).pt = pt ∧ (L i).wy = "column") ∧ rv.length ≤ j ∧ cv.length ≤ j)
    ⟨[], [], [], [], none, none, none, none, none, none, rfl, sY, eY, raY, caY, .nil, .nil, (fun i z => nomatch z), (fun i z => nomatch z), Nat.le_refl _, Nat.le_refl _⟩ (fun j σ Z _ ⟨_, _, _, _, _, _, _, _, _, _, _, sZ, _⟩ => SqL.of (sZ _ _ fpX.li)) ?_ ?_⟩
  · rintro j x σ Z hx ⟨rv, cv, rj, cj, u9, u10, u11, u12, u13, u14, rfl, sZ, eZ, raZ, caZ, ar, ac, hr, hc, lr, lc⟩
    have hj : j < n := by rw [← hvl]; exact (List.getElem?_eq_some_iff.mp hx).1
    have ln := fpX.an.2 j x j hx (by rw [List.getElem?_range hj])
    obtain ⟨b, vq, vn, vb, kqi, rfl, h1, h2, h3, h4, h5⟩ := ln.tups sZ.tups
    refine ⟨b, _, rfl, SqT.of h1, rfl, _, _, rfl, _, _, rfl, _, _, rfl, _, _, rfl, _, _, rfl, _, _, rfl, rfl, ?_⟩
    have stay : ∃ (rv cv : List V) (rj cj : List Nat) (u9 u10 u11 u12 u13 u14 : Option V), [some (.ref fa), some (.ref p), some (.int (k : Int)), some (.ref lp), some vp, some (.int kind), some (.ref aq), some (.ref kq), some (.ref dq), some vq, some (.str (L j).wy), some vn, some vb, some (.ref kqi), some (.bl (L j).lv), none, none, none, none, none] = [some (.ref fa), some (.ref p), some (.int (k : Int)), some (.ref lp), some vp, some (.int kind), some (.ref aq), some (.ref kq), some (.ref dq), u9, u10, u11, u12, u13, u14, none, none, none, none, none] ∧ Same X Z ∧ Z dq = some (.dK [(.inr "row", .ref ra), (.inr "column", .ref ca)]) ∧ Z ra = some (.lst rv) ∧ Z ca = some (.lst cv) ∧ AN (NM (nkL L) Z) rv rj ∧ AN (NM (nkL L) Z) cv cj ∧ (∀ i ∈ rj, i < n ∧ (L i).pt = pt ∧ (L i).wy = "row") ∧ (∀ i ∈ cj, i < n ∧ (L i).pt = pt ∧ (L i).wy = "column") ∧ rv.length ≤ j + 1 ∧ cv.length ≤ j + 1 :=
      ⟨rv, cv, rj, cj, _, _, _, _, _, _, rfl, sZ, eZ, raZ, caZ, ar, ac, hr, hc, by omega, by omega⟩
    refine ⟨fun b Z' => Z' = Z ∧ (b = true → (L j).pt = pt), ?_, ?_⟩
    · refine ⟨_, rfl, _, rfl, tD (L j).pt, tD pt, (gk_td h2).dv, (gk_td (gvp.tups sZ.tups)).dv, (fpX.wl.lay j hj).2, hlay, Nat.le_trans (Nat.min_le_left _ _) (Nat.le_trans (deep_tD _) (by decide)), _, rfl, ?_⟩
      have eqp : (if false = true then !PyData.eqv (tD (L j).pt) (tD pt) else PyData.eqv (tD (L j).pt) (tD pt)) = decide ((L j).pt = pt) := tD_eqv _ _
      by_cases hpp : (L j).pt = pt
      · refine itT (by rw [eqp]; exact decide_eq_true hpp) ?_
        exact ⟨_, rfl, kqi, _, 0, _, rfl, rfl, SqT.of h5, rfl, _, rfl, kq, _, 0, _, rfl, rfl, SqT.of (sZ _ _ ekq), rfl, _, _, rfl, rfl, _, rfl, rfl, fun _ => hpp⟩
      · refine itF (by rw [eqp]; exact decide_eq_false hpp) ?_
        exact ⟨rfl, fun z => by cases z⟩
    · rintro b Z' ⟨rfl, hb⟩
      cases b with
      | false => exact itF rfl stay
      | true =>
        refine itT rfl ?_
        have hpp := hb rfl
        rcases fpX.wy j hj with hw | hw
        · refine ⟨_, rfl, _, rfl, dq, .ref ra, rfl, .inl ⟨_, .inr "row", .inl eZ, by rw [hw]; rfl, (two_row _ _).symm⟩, .inl ⟨rfl, _, SqL.of raZ⟩, _, rfl, ra, _, _, rfl, rfl, raZ, small1000 (by omega), ?_⟩
          have tw : Tups Z' (upd Z' ra (.lst (rv ++ [vn]))) := Tups.wl raZ
          refine ⟨rv ++ [vn], cv, rj ++ [j], cj, _, _, _, _, _, _, rfl, sZ.wr fra, by rw [upd_ne nra.symm]; exact eZ, upd_same, by rw [upd_ne nrc.symm]; exact caZ, (ar.snoc h3).imp fun v i g => g.tups tw, ac.imp fun v i g => g.tups tw, fun i hi => ?_, hc, by rw [List.length_append, List.length_singleton]; omega, by omega⟩
          rcases List.mem_append.mp hi with z | z
          · exact hr i z
          · rw [List.mem_singleton.mp z]; exact ⟨hj, hpp, hw⟩
        · refine ⟨_, rfl, _, rfl, dq, .ref ca, rfl, .inl ⟨_, .inr "column", .inl eZ, by rw [hw]; rfl, (two_col _ _).symm⟩, .inl ⟨rfl, _, SqL.of caZ⟩, _, rfl, ca, _, _, rfl, rfl, caZ, small1000 (by omega), ?_⟩
          have tw : Tups Z' (upd Z' ca (.lst (cv ++ [vn]))) := Tups.wl caZ
          refine ⟨rv, cv ++ [vn], rj, cj ++ [j], _, _, _, _, _, _, rfl, sZ.wr fca, by rw [upd_ne nca.symm]; exact eZ, by rw [upd_ne nrc]; exact raZ, upd_same, ar.imp fun v i g => g.tups tw, (ac.snoc h3).imp fun v i g => g.tups tw, hr, fun i hi => ?_, by omega, by rw [List.length_append, List.length_singleton]; omega⟩
          rcases List.mem_append.mp hi with z | z
          · exact hc i z
          · rw [List.mem_singleton.mp z]; exact ⟨hj, hpp, hw⟩
  rintro σ Z ⟨rv, cv, rj, cj, u9, u10, u11, u12, u13, u14, rfl, sZ, eZ, raZ, caZ, ar, ac, hr, hc, lr, lc⟩
  rw [hvl] at lr lc
  have npd : dq ≠ p := (ne_of_none hpX gdq).symm
  have npr : ra ≠ p := (ne_of_none hpX fra).symm
  have npc : ca ≠ p := (ne_of_none hpX fca).symm
  have w0 : SW Hd X p dq ra ca rv cv Z := ⟨sX.trans sZ, sZ.tups, eZ, raZ, caZ, ⟨m', sZ _ _ hpX⟩⟩
  have W := fpX.wl
  have layr : PyData.canLayAll0 (rj.map (dN (nkL L))) = true := lays_all fun d hd => by
    obtain ⟨i, hi, rfl⟩ := List.mem_map.mp hd
    exact (W.lay i (hr i hi).1).1
  have layc : PyData.canLayAll0 (cj.map (dN (nkL L))) = true := lays_all fun d hd => by
    obtain ⟨i, hi, rfl⟩ := List.mem_map.mp hd
    exact (W.lay i (hc i hi).1).1
  have arX : ∀ {Z' : Hp}, SW Hd X p dq ra ca rv cv Z' → Same Z Z' → True := fun _ _ => trivial
  clear arX
  refine ⟨fun b Z' => Same Z Z' ∧ (b = true → 0 < rv.length ∧ 0 < cv.length), ?_, ?_⟩
  · refine ⟨_, rfl, rfl, _, rfl, ?_⟩
    by_cases hk3 : (V.int kind) = .int 3
    · refine itT (decide_eq_true hk3) ?_
      refine ⟨_, rfl, dq, .ref ra, rfl, .inl ⟨_, .inr "row", .inl eZ, rfl, (two_row _ _).symm⟩, szOk rfl, fun z1 Z1 g1 s1 e1 => ?_⟩
      refine ⟨.list (rj.map (dN (nkL L))), .list [], .lst (SqL.of (s1 _ _ raZ)) (AN.dts (fun v i g => NM.dt g) (ar.imp fun v i g => NM.tups g s1.tups)).dv, .lst (SqL.of e1) .nil, layr, rfl, Nat.le_trans (Nat.min_le_right _ _) (by decide), _, rfl, ?_⟩
      cases rv with
      | nil =>
        have : rj = [] := List.length_eq_zero_iff.mp ar.1.symm
        subst this
        exact itF rfl ⟨s1, fun z => by cases z⟩
      | cons v0 rv =>
        cases rj with
        | nil => exact absurd ar.1 (by simp)
        | cons i0 rj =>
          refine itT rfl ?_
          refine ⟨_, rfl, dq, .ref ca, rfl, .inl ⟨_, .inr "column", .inl (s1 _ _ eZ), rfl, (two_col _ _).symm⟩, szOk rfl, fun z2 Z2 g2 s2 e2 => ?_⟩
          have s12 := s1.trans s2
          refine ⟨.list (cj.map (dN (nkL L))), .list [], .lst (SqL.of (s12 _ _ caZ)) (AN.dts (fun v i g => NM.dt g) (ac.imp fun v i g => NM.tups g s12.tups)).dv, .lst (SqL.of e2) .nil, layc, rfl, Nat.le_trans (Nat.min_le_right _ _) (by decide), _, rfl, ?_⟩
          refine ⟨s12, fun z => ⟨Nat.succ_pos _, ?_⟩⟩
          cases cv with
          | nil =>
            have : cj = [] := List.length_eq_zero_iff.mp ac.1.symm
            subst this
            exact absurd (show false = true from z) (by decide)
          | cons v1 cv => exact Nat.succ_pos _
    · refine itF (decide_eq_false hk3) ?_
      exact ⟨Same.refl _, fun z => by cases z⟩
  rintro b Z' ⟨sZ', hb⟩
  have w := w0.same sZ'
  have ar' : AN (NM (nkL L) Z') rv rj := ar.imp fun v i g => g.tups sZ'.tups
  have ac' : AN (NM (nkL L) Z') cv cj := ac.imp fun v i g => g.tups sZ'.tups
  clear ar ac w0 sZ sZ' eZ raZ caZ
  have rest1 : ∀ {Wf : Hp} {a : Addr} {o : HO}, Same Hd Wf → (a = F 6 ∨ a = F 7) → Rest H (upd Wf a o) (fun b => b = p ∨ b = F 6 ∨ b = F 7) := fun {Wf a o} s ha b o' e hb => by
    have h1 : b ≠ p := fun z => hb (.inl z)
    have h2 : b ≠ a := fun z => by
      rcases ha with q | q
      · exact hb (.inr (.inl (z.trans q)))
      · exact hb (.inr (.inr (z.trans q)))
    rw [upd_ne h2]
    exact s _ _ (rest0 b o' e h1)
  cases b with
  | true =>
    obtain ⟨hrl, hcl⟩ := hb rfl
    refine itT rfl ?_
    obtain ⟨m3, hp3⟩ := w.pl
    refine ⟨_, rfl, dq, .ref ra, rfl, .inl ⟨_, .inr "row", .inl w.ed, rfl, (two_row _ _).symm⟩, _, rfl, _, rfl, dq, .ref ra, rfl, .inl ⟨_, .inr "row", .inl w.ed, rfl, (two_row _ _).symm⟩, ra, rv, rfl, .inl (SqL.of w.er), p, m3, (rv.length : Int), rfl, hp3, by omega, by omega, fun r m4 r0 r1 => ?_⟩
    have w4 := w.take dp npd npr npc m4
    have t4 : Tups Z' (upd Z' p (.lst [.int m4])) := Tups.wl hp3
    generalize upd Z' p (.lst [.int m4]) = Z4 at w4 t4
    refine ⟨ra, rv, r, rfl, rfl, SqL.of w4.er, r0, r1, fun v1 hv1 => ?_⟩
    obtain ⟨i1, hi1, nm1⟩ := ar'.mem hv1
    have nm1 := nm1.tups t4
    have ac4 := ac'.imp fun v i g => g.tups t4
    obtain ⟨m5, hp5⟩ := w4.pl
    refine ⟨_, rfl, dq, .ref ca, rfl, .inl ⟨_, .inr "column", .inl w4.ed, rfl, (two_col _ _).symm⟩, _, rfl, _, rfl, dq, .ref ca, rfl, .inl ⟨_, .inr "column", .inl w4.ed, rfl, (two_col _ _).symm⟩, ca, cv, rfl, .inl (SqL.of w4.ec), p, m5, (cv.length : Int), rfl, hp5, by omega, by omega, fun r' m6 r0' r1' => ?_⟩
    have w6 := w4.take dp npd npr npc m6
    have t6 : Tups Z4 (upd Z4 p (.lst [.int m6])) := Tups.wl hp5
    generalize upd Z4 p (.lst [.int m6]) = Z6 at w6 t6
    refine ⟨ca, cv, r', rfl, rfl, SqL.of w6.ec, r0', r1', fun v2 hv2 => ?_⟩
    obtain ⟨i2, hi2, nm2⟩ := ac4.mem hv2
    have nm2 := nm2.tups t6
    have nm1 := nm1.tups t6
    refine ⟨szOk rfl, fun wl Z7 g7 s7 e7 => ?_⟩
    have w7 := w6.same s7
    obtain ⟨m7, hp7⟩ := w7.pl
    have nwl : wl ≠ p := fun z => by
      obtain ⟨m, e⟩ := w6.pl
      rw [z, e] at g7
      cases g7
    refine ⟨_, rfl, p, m7, 4, rfl, hp7, by decide, by decide, fun r8 m8 r80 r81 => ?_⟩
    have w8 := w7.take dp npd npr npc m8
    have t8 : Tups Z6 (upd Z7 p (.lst [.int m8])) := s7.tups.trans (Tups.wl hp7)
    have ewl : (upd Z7 p (.lst [.int m8])) wl = _ := (upd_ne nwl).trans e7
    generalize upd Z7 p (.lst [.int m8]) = Z8 at w8 t8 ewl
    refine ⟨wl, _, _, rfl, rfl, SqL.of ewl, r80, r81, fun vw hvw => ?_⟩
    obtain ⟨wd, rfl, hwd⟩ : ∃ wd : Str, vw = .str wd ∧ Wd wd := by
      simp only [List.mem_cons, List.not_mem_nil, or_false] at hvw
      rcases hvw with rfl | rfl | rfl | rfl
      · exact ⟨_, rfl, .inl rfl⟩
      · exact ⟨_, rfl, .inr (.inl rfl)⟩
      · exact ⟨_, rfl, .inr (.inr (.inl rfl))⟩
      · exact ⟨_, rfl, .inr (.inr (.inr rfl))⟩
    have fp8 := fpD.same w8.sd
    refine ⟨_, rfl, fa, .ref (F 7), rfl, .inl ⟨fkv F 9, .inr "cells", fp8.fa.dk, rfl, (fkv_at F 7 (by decide)).symm⟩, .inl ⟨rfl, _, SqL.of fp8.ce⟩, _, rfl, _, rfl, _, rfl, _, rfl, _, rfl, szOk rfl, fun cq Z9 g9 s9 e9 => ?_⟩
    have fp9 := fp8.same s9
    have t9 := w8.tp.trans s9.tups
    refine ⟨F 7, _, _, rfl, rfl, fp9.ce, small1000 (by omega), ?_⟩
    have ekq9 := t9 _ _ ekq
    exact kk _ _ _ _ _ _ _ (fp9.cell hk (r := ⟨pt, nkL L i1, nkL L i2, wd, ka, kb⟩) e9 (gvp.tups t9) ((nm1.tups t8).tups s9.tups) ((nm2.tups t8).tups s9.tups) ekq9 upC ⟨hlay, (W.lay i1 (hr i1 hi1).1).1, (W.lay i2 (hc i2 hi2).1).1⟩ hwd kb0 kb2 ⟨fpX.nm i1 (hr i1 hi1).1, fpX.nm i2 (hc i2 hi2).1⟩) (.cell _ _) (rest1 (w8.sd.trans s9) (.inr rfl))
  | false =>
    refine itF rfl ?_
    refine ⟨szOk rfl, fun yl Z1 g1 s1 e1 => ?_⟩
    have w1 := w.same s1
    refine ⟨_, rfl, _, _, rfl, rfl, (by show (0 : Int) < 2; decide), yl, _, _, rfl, rfl, SqL.of e1, mod_lo _ (by decide), mod_hi _ (by decide), fun vw hvw => ?_⟩
    obtain ⟨wy, sa, sv, sj, rfl, hwy, asj, hsj, hget, esa, hsl⟩ : ∃ (wy : Str) (sa : Addr) (sv : List V) (sj : List Nat), vw = .str wy ∧ (wy = "row" ∨ wy = "column") ∧ AN (NM (nkL L) Z1) sv sj ∧ (∀ i ∈ sj, i < n ∧ (L i).pt = pt ∧ (L i).wy = wy) ∧ valV ([(.inr "row", .ref ra), (.inr "column", .ref ca)] : List (Key × V)) (.inr wy) = some (.ref sa) ∧ Z1 sa = some (.lst sv) ∧ sv.length ≤ n := by
      simp only [List.mem_cons, List.not_mem_nil, or_false] at hvw
      rcases hvw with rfl | rfl
      · exact ⟨"row", ra, rv, rj, rfl, .inl rfl, ar'.imp fun v i g => g.tups s1.tups, hr, two_row _ _, w1.er, lr⟩
      · exact ⟨"column", ca, cv, cj, rfl, .inr rfl, ac'.imp fun v i g => g.tups s1.tups, hc, two_col _ _, w1.ec, lc⟩
    refine ⟨szOk rfl, fun o1 Z2 g2 s2 e2 => ?_⟩
    have w2 := w1.same s2
    refine ⟨_, rfl, _, rfl, dq, .ref sa, rfl, .inl ⟨_, .inr wy, .inl w2.ed, rfl, hget.symm⟩, o1, sa, _, _, rfl, rfl, e2, s2 _ _ esa, big (by show 1 + sv.length ≤ 1000; omega), fun ol Z3 g3 s3 e3 => ?_⟩
    have w3 := w2.same s3
    obtain ⟨m3, hp3⟩ := w3.pl
    have nol : ol ≠ p := fun z => by
      obtain ⟨m, e⟩ := w2.pl
      rw [z, e] at g3
      cases g3
    have hol : ([V.non] ++ sv).length = sv.length + 1 := by rw [List.length_append, List.length_singleton]; omega
    refine ⟨_, rfl, _, rfl, _, rfl, ol, _, rfl, .inl (SqL.of e3), p, m3, (([V.non] ++ sv).length : Int), rfl, hp3, by omega, by omega, fun r m4 r0 r1 => ?_⟩
    have w4 := w3.take dp npd npr npc m4
    have t14 : Tups Z1 (upd Z3 p (.lst [.int m4])) := (s2.trans s3).tups.trans (Tups.wl hp3)
    have eol : (upd Z3 p (.lst [.int m4])) ol = _ := (upd_ne nol).trans e3
    generalize upd Z3 p (.lst [.int m4]) = Z4 at w4 t14 eol
    refine ⟨ol, _, r, rfl, rfl, SqL.of eol, r0, r1, fun vb hvb => ?_⟩
    obtain ⟨bh, gvb, hbh⟩ : ∃ bh : Option Nat, GK Z4 (kd (nkL L) bh) vb ∧ ∀ j, bh = some j → j < n ∧ (L j).pt = pt ∧ (L j).wy = wy := by
      rcases List.mem_append.mp hvb with z | z
      · rw [List.mem_singleton.mp z]
        exact ⟨none, rfl, fun j e => by cases e⟩
      · obtain ⟨i, hi, nm⟩ := asj.mem z
        exact ⟨some i, nm.tups t14, fun j e => by cases e; exact hsj i hi⟩
    refine ⟨_, rfl, _, _, rfl, rfl, szOk rfl, fun n1 Z5 g5 s5 e5 => ?_⟩
    refine ⟨_, rfl, _, _, rfl, rfl, szOk rfl, fun n2 Z6 g6 s6 e6 => ?_⟩
    refine ⟨_, rfl, _, _, rfl, rfl, szOk rfl, fun n3 Z7 g7 s7 e7 => ?_⟩
    refine ⟨szOk rfl, fun nl Z8 g8 s8 e8 => ?_⟩
    have s48 := ((s5.trans s6).trans s7).trans s8
    have w8 := w4.same s48
    have ekq8 := w8.tp _ _ ekq
    refine ⟨_, rfl, kq, _, 1, _, rfl, rfl, SqT.of ekq8, rfl, nl, _, kb, rfl, rfl, SqL.of e8, kb0, (by show kb < 3; omega), fun vn hvn => ?_⟩
    obtain ⟨nk, gvn, hnm, hln⟩ : ∃ nk, GK Z8 (.tup nk) vn ∧ Nmd k nk ∧ Lay nk := by
      simp only [List.mem_cons, List.not_mem_nil, or_false] at hvn
      rcases hvn with rfl | rfl | rfl
      · exact ⟨nmA k, ⟨n1, rfl, s8 _ _ (s7 _ _ (s6 _ _ e5))⟩, .inl rfl, lay_two ok_zoe _⟩
      · exact ⟨nmB k, ⟨n2, rfl, s8 _ _ (s7 _ _ e6)⟩, .inr (.inl rfl), lay_two ok_ann _⟩
      · exact ⟨nmC k, ⟨n3, rfl, s8 _ _ e7⟩, .inr (.inr rfl), lay_two ok_bo _⟩
    have fp8 := fpD.same w8.sd
    obtain ⟨m8, hp8⟩ := w8.pl
    refine ⟨_, rfl, fa, .ref (F 6), rfl, .inl ⟨fkv F 9, .inr "lines", fp8.fa.dk, rfl, (fkv_at F 6 (by decide)).symm⟩, .inl ⟨rfl, _, SqL.of fp8.li⟩, _, rfl, _, rfl, _, rfl, _, rfl, _, rfl, _, rfl, p, m8, 4, rfl, hp8, by decide, by decide, fun r9 m9 r90 r91 => ?_⟩
    have w9 := w8.take dp npd npr npc m9
    have t89 : Tups Z8 (upd Z8 p (.lst [.int m9])) := Tups.wl hp8
    generalize upd Z8 p (.lst [.int m9]) = Z9 at w9 t89
    refine ⟨_, _, rfl, rfl, szOk rfl, fun tq Za ga' sa' ea' => ?_⟩
    have wa := w9.same sa'
    have fpa := fpD.same wa.sd
    have t8a := t89.trans sa'.tups
    refine ⟨F 6, _, _, rfl, rfl, fpa.li, small1000 (by omega), ?_⟩
    exact kk _ _ _ _ _ _ _ (fpa.line hk (r := ⟨pt, wy, nk, bh, ka, kb, _⟩) ea' (gvp.tups wa.tp) (gvn.tups t8a) ((gvb.tups s48.tups).tups t8a) (wa.tp _ _ ekq) up hnm hbh hln hlay kb0 kb2 hwy) (.line _ _ hnm) (rest1 wa.sd (.inl rfl))
theorem ok_f_law_line_right (T : Txt K mg d tk) (gf_law_without : FnOk P w K mg base CX0 1 d.f_law_without d.f_law_withoutd ["_law_table", "_law_row", "_law_column"] (sp_f_law_without K)) : FnOk P w K mg base CX0 2 d.f_law_line_right d.f_law_line_rightd ["_law_ahead", "_law_behind", "_law_told"] (sp_f_law_line_right K) := by
  refine T.F_f_law_line_right.ok sc_f_law_line_right (fun vs H Q E h => len_f_law_line_right h) (fun cdv A outer s H vs Q E hr h => ?_)
  have hu : (A.deeper (envOfC "_law_line_right" (defScope s_f_law_line_right) s.heap.objs.size d.f_law_line_right cdv)).units < cLine := hr.units0
  refine ⟨_, (@pss_cons _ _ _ _ _ (@ps_asg _ _ _ _ _ _ (@pv _ 2 _ _ rfl (Or.inl rfl) rfl rfl) (@pg_tup _ _ _ _ _ _ rfl (@pgs_cons _ _ _ _ _ (@pg_name _ _ (3) _ sc_f_law_line_right.nd rfl (Or.inl rfl) (by first | exact .inl rfl | exact .inr rfl)) (@pgs_cons _ _ _ _ _ (@pg_name _ _ (4) _ sc_f_law_line_right.nd rfl (Or.inl rfl) (by first | exact .inl rfl | exact .inr rfl)) (@pgs_cons _ _ _ _ _ (@pg_name _ _ (5) _ sc_f_law_line_right.nd rfl (Or.inl rfl) (by first | exact .inl rfl | exact .inr rfl)) (@pgs_cons _ _ _ _ _ (@pg_name _ _ (6) _ sc_f_law_line_right.nd rfl (Or.inl rfl) (by first | exact .inl rfl | exact .inr rfl)) (@pgs_cons _ _ _ _ _ (@pg_name _ _ (7) _ sc_f_law_line_right.nd rfl (Or.inl rfl) (by first | exact .inl rfl | exact .inr rfl)) (@pgs_cons _ _ _ _ _ (@pg_name _ _ (8) _ sc_f_law_line_right.nd rfl (Or.inl rfl) (by first | exact .inl rfl | exact .inr rfl)) (@pgs_nil _) (by rfl)) (by rfl)) (by rfl)) (by rfl)) (by rfl)) (by rfl)) (by rfl) (by rfl)) (by rfl) (by rfl) (by rfl)) (@pss_cut _ _ _ _ _ (@ps_if _ _ _ _ _ _ _ _ (@pt_not _ _ _ _ (@pt_val _ _ _ (@pv _ 8 _ _ rfl (Or.inl rfl) rfl rfl) (by intro _; rfl))) (@pss_one _ _ _ (@ps_ret _ _ _ _ (@pe_cmpR _ _ _ _ _ _ _ _ (op_eqD (hu64 hr)) (@pv _ 1 _ _ rfl (Or.inl rfl) rfl rfl) (@pv _ 0 _ _ rfl (Or.inl rfl) rfl rfl) (nomark _)))) (@pss_nil _)) (@pss_cons _ _ _ _ _ (@ps_set _ _ (9) _ _ _ _ sc_f_law_line_right.nd rfl (Or.inl rfl) (@pe_ix _ _ _ _ _ _ _ ix_tup (@pv _ 1 _ _ rfl (Or.inl rfl) rfl rfl) (@pe_callTy _ _ _ _ _ _ _ _ _ call_int1 (by rfl) T.b_int boot_int (@pa_cons _ _ _ _ _ (@pe_cmpR _ _ _ _ _ _ _ _ op_eq (@pv _ 4 _ _ rfl (Or.inl rfl) rfl rfl) (@pe_str _ _ _ _) (nomark _)) (@pa_nil _) (by rfl)) (by decide) (by decide) (by rfl) (by rfl)) (fun _ _ => rfl)) (by rfl) (by first | exact .inl rfl | exact .inr rfl)) (@pss_cut _ _ _ _ _ (@ps_if _ _ _ _ _ _ _ _ (@pt_cmpR _ _ _ _ _ _ _ _ op_ne (@pe_bm _ _ _ _ _ _ _ _ _ _ _ _ PySem.F.plainAttrs_list PySem.F.slot_list_count PySem.F.type_list_count (mt_countD (hu61 hr)) (@pv _ 9 _ _ rfl (Or.inl rfl) rfl rfl) (@pa_cons _ _ _ _ _ (@pv _ 5 _ _ rfl (Or.inl rfl) rfl rfl) (@pa_nil _) (by rfl)) (by rfl) (by rfl) (by rfl) (by rfl) (by rfl)) (@pe_int _ _ _ _) (nomark _)) (@pss_one _ _ _ (@ps_ret _ _ _ _ (@pe_bl _ _ _ _))) (@pss_nil _)) (@pss_cons _ _ _ _ _ (@ps_set _ _ (10) _ _ _ _ sc_f_law_line_right.nd rfl (Or.inr rfl) (@pe_bm _ _ _ _ _ _ _ _ _ _ _ _ PySem.F.plainAttrs_list PySem.F.slot_list_index PySem.F.type_list_index (mt_indexD (hu61 hr)) (@pv _ 9 _ _ rfl (Or.inl rfl) rfl rfl) (@pa_cons _ _ _ _ _ (@pv _ 5 _ _ rfl (Or.inl rfl) rfl rfl) (@pa_nil _) (by rfl)) (by rfl) (by rfl) (by rfl) (by rfl) (by rfl)) (by rfl) (by first | exact .inl rfl | exact .inr rfl)) (@pss_cut _ _ _ _ _ (@ps_if _ _ _ _ _ _ _ _ (@pt_post _ _ _ (@PW.pt _ _ _ (@pw_or _ _ _ _ _ _ _ (@PW.pt _ _ _ (@pw_and _ _ _ _ _ _ _ (@pt_cmpR _ _ _ _ _ _ _ _ op_isN (@pv _ 6 _ _ rfl (Or.inl rfl) rfl rfl) (@pe_non _ _ _) (nomark _)) (@pw_and1 _ _ _ _ (@pt_cmpR _ _ _ _ _ _ _ _ op_ne (@pv _ 10 _ _ rfl (Or.inr (Or.inl rfl)) rfl rfl) (@pe_int _ _ _ _) (nomark _))))) (@pw_or1 _ _ _ _ (@PW.pt _ _ _ (@pw_and _ _ _ _ _ _ _ (@pt_cmpR _ _ _ _ _ _ _ _ (op_inD (hu63 hr)) (@pv _ 6 _ _ rfl (Or.inl rfl) rfl rfl) (@pv _ 9 _ _ rfl (Or.inl rfl) rfl rfl) rfl) (@pw_and1 _ _ _ _ (@pt_cmpR _ _ _ _ _ _ _ _ op_ne (@pe_bm _ _ _ _ _ _ _ _ _ _ _ _ PySem.F.plainAttrs_list PySem.F.slot_list_index PySem.F.type_list_index (mt_indexD (hu61 hr)) (@pv _ 9 _ _ rfl (Or.inl rfl) rfl rfl) (@pa_cons _ _ _ _ _ (@pv _ 6 _ _ rfl (Or.inl rfl) rfl rfl) (@pa_nil _) (by rfl)) (by rfl) (by rfl) (by rfl) (by rfl) (by rfl)) (@pe_op _ _ _ _ _ _ _ _ op_sub (@pv _ 10 _ _ rfl (Or.inr (Or.inl rfl)) rfl rfl) (@pe_int _ _ _ _)) (nomark _))))))))) (@pss_one _ _ _ (@ps_ret _ _ _ _ (@pe_bl _ _ _ _))) (@pss_nil _)) (@pss_cons _ _ _ _ _ (@ps_set _ _ (11) _ _ _ _ sc_f_law_line_right.nd rfl (Or.inl rfl) (@pe_lstA _ _ _ _ (@pa_nil _)) (by rfl) (by first | exact .inl rfl | exact .inr rfl)) (@pss_cut _ _ _ _ _ (@ps_if _ _ _ _ _ _ _ _ (@pt_cmpR _ _ _ _ _ _ _ _ op_eq (@pv _ 4 _ _ rfl (Or.inl rfl) rfl rfl) (@pe_str _ _ _ _) (nomark _)) (@pss_one _ _ _ (@ps_set _ _ (11) _ _ _ _ sc_f_law_line_right.nd rfl (Or.inl rfl) (@pe_ix _ _ _ _ _ _ _ ix_list (@pe_ix _ _ _ _ _ _ _ ix_tup (@pv _ 1 _ _ rfl (Or.inl rfl) rfl rfl) (@pe_int _ _ _ _) (fun _ _ => rfl)) (@pv _ 10 _ _ rfl (Or.inr (Or.inl rfl)) rfl rfl) (fun _ _ => rfl)) (by rfl) (by first | exact .inl rfl | exact .inr rfl))) (@pss_one _ _ _ (@ps_setC _ (11) _ _ _ _ _ _ _ _ _ (["_law_words"]) ([("_law_at", 10)]) _ _ _ _ _ sc_f_law_line_right.nd rfl (Or.inl rfl) rfl (@pi_list _ _ _ _ (@pe_ix _ _ _ _ _ _ _ ix_tup (@pv _ 1 _ _ rfl (Or.inl rfl) rfl rfl) (@pe_int _ _ _ _) (fun _ _ => rfl))) ⟨rfl, by decide +kernel, by decide +kernel⟩ (caps_def (defScope s_f_law_line_right) ["_law_ahead", "_law_behind", "_law_told", "_law_part", "_law_way", "_law_line", "_law_before", "_law_key", "_law_lives", "_law_lines", "_law_at", "_law_some"] rfl rfl (fun _ h => cell_has h) (by decide +kernel) (by decide +kernel) (by decide +kernel)) (fun _ _ _ => (@pg_name _ _ (0) _ (by show List.Nodup (["_law_words", "_law_at"] : List Str); decide +kernel) rfl (Or.inl rfl) (by first | exact .inl rfl | exact .inr rfl))) (fun _ => fresh_name rfl) (fun _ _ _ => (@pts_nil _)) (fun _ _ _ => (@pe_ix _ _ _ _ _ _ _ (ix_listK (K := K) rfl) (@pv _ 0 _ _ rfl (Or.inl rfl) rfl rfl) (@pv _ 1 _ _ rfl (Or.inr (Or.inl rfl)) rfl rfl) (fun _ _ => rfl))) (by intro _; rfl) (by rfl) (by first | exact .inl rfl | exact .inr rfl)))) (@pss_cut _ _ _ _ _ (@ps_if _ _ _ _ _ _ _ _ (@pt_cmpR _ _ _ _ _ _ _ _ (op_neD (hu64 hr)) (@pe_lcomp _ _ _ _ _ _ _ (["_law_word"]) ([]) _ _ _ _ _ rfl (@pi_list _ _ _ _ (@pv _ 11 _ _ rfl (Or.inl rfl) rfl rfl)) ⟨rfl, by decide +kernel, by decide +kernel⟩ (caps0 (by decide +kernel)) (fun _ _ _ => (@pg_name _ _ (0) _ (by show List.Nodup (["_law_word"] : List Str); decide +kernel) rfl (Or.inl rfl) (by first | exact .inl rfl | exact .inr rfl))) (fun _ => fresh_name rfl) (fun _ _ _ => (@pts_one _ _ _ (@pt_cmpR _ _ _ _ _ _ _ _ op_ne (@pv _ 0 _ _ rfl (Or.inl rfl) rfl rfl) (@pe_str _ _ _ _) (nomark _)))) (fun _ _ _ => (@pv _ 0 _ _ rfl (Or.inl rfl) rfl rfl)) (by intro _; rfl)) (@pe_lstA _ _ _ _ (@pa_nil _)) (nomark _)) (@pss_one _ _ _ (@ps_ret _ _ _ _ (@pe_bl _ _ _ _))) (@pss_nil _)) (@pss_cut _ _ _ _ _ (@ps_if _ _ _ _ _ _ _ _ (@pt_cmpR _ _ _ _ _ _ _ _ op_eq (@pv _ 4 _ _ rfl (Or.inl rfl) rfl rfl) (@pe_str _ _ _ _) (nomark _)) (@pss_one _ _ _ (@ps_ret _ _ _ _ (@pe_cmpR _ _ _ _ _ _ _ _ (op_eqD (hu64 hr)) (@pe_call _ _ _ _ _ _ _ _ _ _ _ _ _ _ _ _ gf_law_without (hr.mono (by decide)) (by rfl) T.m_f_law_without T.k_f_law_without T.d_f_law_without .nil pass0 (@pa_cons _ _ _ _ _ (@pv _ 1 _ _ rfl (Or.inl rfl) rfl rfl) (@pa_cons _ _ _ _ _ (@pv _ 5 _ _ rfl (Or.inl rfl) rfl rfl) (@pa_cons _ _ _ _ _ (@pe_non _ _ _) (@pa_nil _) (by rfl)) (by rfl)) (by rfl)) (by decide) (by rfl) (by rfl)) (@pv _ 0 _ _ rfl (Or.inl rfl) rfl rfl) (nomark _)))) (@pss_nil _)) (@pss_one _ _ _ (@ps_ret _ _ _ _ (@pe_cmpR _ _ _ _ _ _ _ _ (op_eqD (hu64 hr)) (@pe_call _ _ _ _ _ _ _ _ _ _ _ _ _ _ _ _ gf_law_without (hr.mono (by decide)) (by rfl) T.m_f_law_without T.k_f_law_without T.d_f_law_without .nil pass0 (@pa_cons _ _ _ _ _ (@pv _ 1 _ _ rfl (Or.inl rfl) rfl rfl) (@pa_cons _ _ _ _ _ (@pe_non _ _ _) (@pa_cons _ _ _ _ _ (@pv _ 5 _ _ rfl (Or.inl rfl) rfl rfl) (@pa_nil _) (by rfl)) (by rfl)) (by rfl)) (by decide) (by rfl) (by rfl)) (@pv _ 0 _ _ rfl (Or.inl rfl) rfl rfl) (nomark _)))))))))))))), ?_⟩
  obtain ⟨va, vb, vt, L, n, r, C, m, k, pt, S, S', rfl, W, W', WC', cm, hnm, hpt, hwy, ta, tb, ln, kk⟩ := h
  obtain ⟨lb, vp, vn, vbh, kq, rfl, l1, l2, l3, l4, l5⟩ := ln
  rw [show bhL (ext L n r) n = r.bh by unfold bhL; rw [ext_at]] at l4
  rw [ext_at] at l1
  have WJ' := W'.wj
  obtain ⟨k1, k2, k3⟩ := tab_ok W.wj WC'.wm pt
  have dep : min (tabD L (List.range n) C (List.range m) pt).depth (tabD L (List.range n) C (List.range m) pt).depth ≤ 64 := Nat.le_trans (Nat.min_le_left _ _) (Nat.le_trans k3 (by decide))
  refine ⟨_, rfl, lb, _, rfl, SqT.of l1, rfl, _, _, rfl, _, _, rfl, _, _, rfl, _, _, rfl, _, _, rfl, _, _, rfl, rfl, ?_⟩
  refine ⟨fun σ' X => r.lv = true ∧ σ' = [some va, some vb, some (.ref lb), some vp, some (.str r.wy), some vn, some vbh, some (.ref kq), some (.bl r.lv), none, none, none] ∧ X = H, ⟨_, rfl, r.lv, rfl, ?_⟩, ?_⟩
  · by_cases hl : r.lv = true
    · exact itF (by rw [hl]; rfl) ⟨hl, rfl, rfl⟩
    · have hl : r.lv = false := Bool.eq_false_iff.mpr hl
      refine itT (by rw [hl]; rfl) ?_
      have db := tb.dv (K := K)
      rw [tab_same W (lived_dead W W' hl) (lived_dead W W' hl)] at db
      refine ⟨_, rfl, _, rfl, _, _, db, ta.dv, k1, k1, dep, ?_⟩
      rw [show (if false = true then !PyData.eqv (tabD L (List.range n) C (List.range m) pt) (tabD L (List.range n) C (List.range m) pt) else PyData.eqv (tabD L (List.range n) C (List.range m) pt) (tabD L (List.range n) C (List.range m) pt)) = true from k2]
      exact kk H (Same.refl _)
  rintro σ' X ⟨hl, rfl, rfl⟩
  obtain ⟨A, B, eA, _, eL, hA1, hA2⟩ := lived_split (pt := pt) (wy := r.wy) W W' (mine_iff.mpr (by rw [ext_at]; exact ⟨hpt, rfl⟩))
  have eL := eL hl
  have ltAB : ∀ i ∈ A ++ B, i < n := fun i hi => lived_lt (pt := pt) (wy := r.wy) W (by rw [eA]; exact hi)
  have neAB : ∀ i ∈ A ++ B, nkL (ext L n r) i ≠ nkL (ext L n r) n := fun i hi z => by
    have := W'.inj i (by have := ltAB i hi; omega) n (Nat.lt_succ_self n) z
    have := ltAB i hi
    omega
  have lays : ∀ i, i < n + 1 → Lay (nkL (ext L n r) i) := fun i hi => (W'.lay i hi).1
  have ta0 := ta
  have tb0 := tb
  obtain ⟨q, rp, cp, wp, zr, zc, ws, rfl, h1, _, h3, h4, h5, h6, h7, h8⟩ := tb
  have hrl : zr.length ≤ 1300 := by rw [h6.1]; exact lived_len WJ'
  have hcl : zc.length ≤ 1300 := by rw [h7.1]; exact lived_len WJ'
  have hwl : ws.length = zr.length := by rw [h8.1, h6.1]
  obtain ⟨la, zl, hix, ela, al⟩ : ∃ la zl, atI [V.ref rp, .ref cp, .ref wp] (if decide (V.str r.wy = V.str "column") = true then 1 else 0) = some (.ref la) ∧ X la = some (.lst zl) ∧ AN (NM (nkL (ext L n r)) X) zl (A ++ n :: B) := by
    rcases hwy with z | z
    · rw [z] at eL ⊢
      rw [eL] at h6
      exact ⟨rp, zr, by rw [if_neg (by decide +kernel)]; exact atI_nat (j := 0) rfl, h3, h6⟩
    · rw [z] at eL ⊢
      rw [eL] at h7
      exact ⟨cp, zc, by rw [if_pos (by decide +kernel)]; exact atI_nat (j := 1) rfl, h4, h7⟩
  have dvl : DVs K X zl ((A ++ n :: B).map (dN (nkL (ext L n r)))) := (AN.dts (fun v i g => NM.dt g) al).dv
  have layl : PyData.canLayAll0 ((A ++ n :: B).map (dN (nkL (ext L n r)))) = true := lays_all fun d hd => by
    obtain ⟨i, hi, rfl⟩ := List.mem_map.mp hd
    refine lays i ?_
    rcases List.mem_append.mp hi with z | z
    · have := ltAB i (List.mem_append_left _ z); omega
    · rcases List.mem_cons.mp z with z | z
      · omega
      · have := ltAB i (List.mem_append_right _ z); omega
  have dvn : DV K X vn (tD (nkL (ext L n r) n)) := (gk_td l3).dv
  have dp1 : ∀ {u : Nat} {ks : List Key}, 1 ≤ u → (tD ks).depth ≤ u := fun h => Nat.le_trans (deep_tD _) h
  refine ⟨_, rfl, _, rfl, rfl, .inr ⟨_, rfl, q, _, _, .ref la, rfl, rfl, SqT.of h1, hix, ?_⟩⟩
  refine ⟨fun σ' Y => σ' = [some va, some (.ref q), some (.ref lb), some vp, some (.str r.wy), some vn, some vbh, some (.ref kq), some (.bl r.lv), some (.ref la), none, none] ∧ Y = X, ?_, ?_⟩
  · refine ⟨_, rfl, .inl ⟨rfl, _, SqL.of ela⟩, _, rfl, vn, _, la, _, zl, rfl, rfl, dvn, SqL.of ela, dvl, lays n (Nat.lt_succ_self n), layl, dp1 (by decide), rfl, _, rfl, itF ?_ ⟨rfl, rfl⟩⟩
    rw [cnt_one neAB]
    rfl
  rintro σ' Y ⟨rfl, rfl⟩
  obtain ⟨ix1, ix2⟩ := idx_split (nk := nkL (ext L n r)) (A := A) (B := B) (x := n) fun i hi => neAB i (List.mem_append_left _ hi)
  refine ⟨_, rfl, .inl ⟨rfl, _, SqL.of ela⟩, _, rfl, vn, _, la, _, zl, A.length, rfl, rfl, dvn, SqL.of ela, dvl, lays n (Nat.lt_succ_self n), layl, dp1 (by decide), ix1, ix2, ?_⟩
  refine ⟨fun σ' Z => σ' = [some va, some (.ref q), some (.ref lb), some vp, some (.str r.wy), some vn, some vbh, some (.ref kq), some (.bl r.lv), some (.ref la), some (.int (A.length : Int)), none] ∧ Z = Y, ⟨fun b Z => b = false ∧ Z = Y, ?_, ?_⟩, ?_⟩
  · cases hb : r.bh with
    | none =>
      rw [hb] at l4
      have l4 : vbh = .non := l4
      subst l4
      have := hA1 hb
      subst this
      refine ⟨_, rfl, rfl, _, rfl, itT (decide_eq_true rfl) ⟨_, rfl, rfl, _, rfl, itF rfl ⟨_, rfl, _, rfl, opD (nkL (ext L n r)) none, la, _, zl, .non, rfl, .inl (SqL.of ela), dvl, rfl, layl, Nat.zero_le _, _, rfl, itF ?_ ⟨rfl, rfl⟩⟩⟩⟩
      rw [if_neg (by decide), any_op (fun b z => by cases z)]
      exact decide_eq_false (by rintro ⟨b, z, _⟩; cases z)
    | some b =>
      rw [hb] at l4
      have hbn : b < n := (W'.back n (Nat.lt_succ_self n) b (by rw [ext_at]; exact hb)).1
      have dvb : DV K Y vbh (opD (nkL (ext L n r)) (some b)) := (opD_dt l4).dv
      have hne : ¬ vbh = .non := fun z => by
        obtain ⟨bb, e, _⟩ := l4
        rw [e] at z
        cases z
      refine ⟨_, rfl, rfl, _, rfl, itF (decide_eq_false hne) (itF rfl ⟨_, rfl, _, rfl, opD (nkL (ext L n r)) (some b), la, _, zl, dvb, rfl, .inl (SqL.of ela), dvl, lays b (by omega), layl, dp1 (by decide), _, rfl, ?_⟩)⟩
      have ea : (if false = true then !((A ++ n :: B).map (dN (nkL (ext L n r)))).any (fun d => PyData.eqv d (opD (nkL (ext L n r)) (some b))) else ((A ++ n :: B).map (dN (nkL (ext L n r)))).any (fun d => PyData.eqv d (opD (nkL (ext L n r)) (some b)))) = decide (∃ c, some b = some c ∧ c ∈ A ++ n :: B) := any_op fun c z i hi e => by
        cases z
        refine W'.inj i ?_ b (by omega) e
        rcases List.mem_append.mp hi with z | z
        · have := ltAB i (List.mem_append_left _ z); omega
        · rcases List.mem_cons.mp z with z | z
          · omega
          · have := ltAB i (List.mem_append_right _ z); omega
      by_cases hm : b ∈ A ++ n :: B
      · refine itT (ea.trans (decide_eq_true ⟨b, rfl, hm⟩)) ?_
        have hm' : b ∈ A ++ B := by
          rcases List.mem_append.mp hm with z | z
          · exact List.mem_append_left _ z
          · rcases List.mem_cons.mp z with z | z
            · omega
            · exact List.mem_append_right _ z
        obtain ⟨A0, rfl⟩ := hA2 b hb hm'
        have nd := lived_nodup (pt := pt) (wy := r.wy) W.wj
        rw [eA] at nd
        have neb : ∀ i ∈ A0, nkL (ext L n r) i ≠ nkL (ext L n r) b := fun i hi z => by
          have hin := ltAB i (List.mem_append_left _ (List.mem_append_left _ hi))
          have := W'.inj i (by omega) b (by omega) z
          subst this
          have nd2 := (List.nodup_append.mp (List.nodup_append.mp nd).1).2.2
          exact nd2 i hi i (List.mem_singleton.mpr rfl) rfl
        have ix := idx_split (nk := nkL (ext L n r)) (A := A0) (B := n :: B) (x := b) neb
        rw [show A0 ++ b :: n :: B = A0 ++ [b] ++ n :: B by rw [List.append_assoc]; rfl] at ix
        refine ⟨_, rfl, .inl ⟨rfl, _, SqL.of ela⟩, _, rfl, vbh, _, la, _, zl, A0.length, rfl, rfl, dvb, SqL.of ela, dvl, lays b (by omega), layl, dp1 (by decide), ix.1, ix.2, _, rfl, _, _, rfl, rfl, rfl, _, rfl, ?_, rfl⟩
        show (!decide (V.int (A0.length : Int) = V.int (((A0 ++ [b]).length : Int) - 1))) = false
        rw [show (((A0 ++ [b]).length : Int) - 1) = (A0.length : Int) by rw [List.length_append, List.length_singleton]; omega, decide_eq_true rfl]
        rfl
      · refine itF (ea.trans (decide_eq_false (by rintro ⟨c, z, hc⟩; cases z; exact hm hc))) ⟨rfl, rfl⟩
  · rintro bb Z ⟨rfl, rfl⟩
    exact itF rfl ⟨rfl, rfl⟩
  rintro σ' Z ⟨rfl, rfl⟩
  refine ⟨szOk rfl, fun ep Z1 g1 s1 e1 => ?_⟩
  have hno : ∀ i ∈ List.range m, (C i).rw ≠ nkL (ext L n r) n ∧ (C i).cl ≠ nkL (ext L n r) n := fun i hi => by
    have e : nkL (ext L n r) n = r.nk := by unfold nkL; rw [ext_at]
    rw [e]
    obtain ⟨⟨t, h1, h2⟩, u, h3, h4⟩ := cm i (List.mem_range.mp hi)
    refine ⟨fun z => ?_, fun z => ?_⟩
    · have := h2.inj (by rw [z]; exact hnm)
      omega
    · have := h4.inj (by rw [z]; exact hnm)
      omega
  refine ⟨fun σ' X => ∃ sp zs, σ' = [some va, some (.ref q), some (.ref lb), some vp, some (.str r.wy), some vn, some vbh, some (.ref kq), some (.bl r.lv), some (.ref la), some (.int (A.length : Int)), some (.ref sp)] ∧ Same Z X ∧ X sp = some (.lst zs) ∧ (∀ z ∈ zs, z = .str "") ∧ zs.length ≤ 1300, ?_, ?_⟩
  · rcases hwy with hw | hw
    · refine ⟨_, rfl, rfl, _, rfl, itT (decide_eq_true (by rw [hw])) ?_⟩
      rw [hw] at eL
      have hr : (lived (ext L n r) (List.range (n + 1)) pt "row")[A.length]? = some n := by rw [eL, List.getElem?_append_right (Nat.le_refl _), Nat.sub_self]; rfl
      obtain ⟨wv, hwv⟩ : ∃ wv, ws[A.length]? = some wv := ⟨ws[A.length]'(by rw [hwl, h6.1]; exact (List.getElem?_eq_some_iff.mp hr).1), List.getElem?_eq_getElem _⟩
      obtain ⟨a0, rfl, _, ea0⟩ := h8.2 A.length wv n hwv hr
      refine ⟨_, rfl, q, _, _, _, rfl, rfl, SqT.of (s1 _ _ h1), atI_nat (j := 2) rfl, _, rfl, wp, ws, _, _, rfl, rfl, SqL.of (s1 _ _ h5), atI_nat hwv, ?_⟩
      refine ⟨a0, _, rfl, s1, s1 _ _ ea0, fun z hz => ?_, ?_⟩
      · obtain ⟨c, _, rfl⟩ := List.mem_map.mp hz
        rw [wAt_no fun i hi z => (hno i hi).1 z.1]
      · unfold rowW
        rw [List.length_map]
        exact lived_len WJ'
    · refine ⟨_, rfl, rfl, _, rfl, itF (decide_eq_false (by rw [hw]; decide +kernel)) ?_⟩
      rw [hw] at eL
      have hc : (lived (ext L n r) (List.range (n + 1)) pt "column")[A.length]? = some n := by rw [eL, List.getElem?_append_right (Nat.le_refl _), Nat.sub_self]; rfl
      refine ⟨_, rfl, q, _, _, _, rfl, rfl, SqT.of (s1 _ _ h1), atI_nat (j := 2) rfl, wp, rfl, ⟨_, SqL.of (s1 _ _ h5)⟩, lc_any (xs := ws) (big2 (by omega)) (fun j us X => X = Z1 ∧ us.length ≤ j ∧ ∀ z ∈ us, z = V.str "") ⟨rfl, Nat.le_refl _, fun z hz => nomatch hz⟩ (fun _ _ X s' => by rw [s'.1]; exact SqL.of (s1 _ _ h5)) (fun j x us X K1 K0 hx s' k1 k0 => ?_) fun Z2 np us s' hu hqu => ?_⟩
      · obtain ⟨rfl, hul, hus⟩ := s'
        obtain ⟨rr, er, a0, rfl, _, ea0⟩ := h8.at hx
        refine iteT (B := K0 X) ?_
        refine ⟨_, rfl, _, rfl, a0, _, _, V.str (wAt C (List.range m) pt (nkL (ext L n r) rr) (nkL (ext L n r) n)), rfl, rfl, SqL.of (s1 _ _ ea0), atI_nat ?_, k1 _ _ ⟨rfl, by rw [List.length_append, List.length_singleton]; omega, fun z hz => ?_⟩⟩
        · unfold rowW
          rw [List.getElem?_map, hc]
          rfl
        · rcases List.mem_append.mp hz with z' | z'
          · exact hus z z'
          · rw [List.mem_singleton.mp z', wAt_no fun i hi z => (hno i hi).2 z.2]
      · obtain ⟨rfl, hul, hus⟩ := s'
        have n2 : Same Z2 (upd Z2 np (.lst us)) := Same.new hqu
        exact ⟨np, us, rfl, s1.trans n2, upd_same, hus, by omega⟩
  rintro σ' Z2 ⟨ep2, zs, rfl, s2, e2, hzs, hzl⟩
  refine ⟨fun σ' X => σ' = [some va, some (.ref q), some (.ref lb), some vp, some (.str r.wy), some vn, some vbh, some (.ref kq), some (.bl r.lv), some (.ref la), some (.int (A.length : Int)), some (.ref ep2)] ∧ Same Z X, ?_, ?_⟩
  · refine ⟨_, rfl, ep2, rfl, ⟨_, SqL.of e2⟩, lc_any (xs := zs) (big2 (by omega)) (fun j us X => X = Z2 ∧ us = []) ⟨rfl, rfl⟩ (fun _ _ X s' => by rw [s'.1]; exact SqL.of e2) (fun j x us X K1 K0 hx s' k1 k0 => ?_) fun Z3 np us s' hu hqu => ?_⟩
    · obtain ⟨rfl, rfl⟩ := s'
      have := hzs x (List.mem_of_getElem? hx)
      subst this
      exact ⟨_, rfl, rfl, _, rfl, itF (by decide +kernel) (k0 _ ⟨rfl, rfl⟩)⟩
    · obtain ⟨rfl, rfl⟩ := s'
      have n3 : Same Z3 (upd Z3 np (.lst [])) := Same.new hqu
      have f3 : (upd Z3 np (.lst [])) np = some (.lst []) := upd_same
      generalize upd Z3 np (.lst []) = Z4 at n3 f3
      refine ⟨szOk rfl, fun l5 Z5 g5 s5 e5 => ?_⟩
      exact ⟨.list [], .list [], .lst (SqL.of (s5 _ _ f3)) .nil, .lst (SqL.of e5) .nil, rfl, rfl, by decide, _, rfl, itF rfl ⟨rfl, (s2.trans n3).trans s5⟩⟩
  rintro σ' Z5 ⟨rfl, s5⟩
  have fin : ∀ {R Q' : List Nat} {H' : Hp} {tq : Addr}, R = lived L (List.range n) pt "row" → Q' = lived L (List.range n) pt "column" → Same Z H' → DV K H' (.ref tq) (tabX (nkL (ext L n r)) C (List.range m) pt R Q') → rEqD K 64 false (.ref tq) va H' Q := fun {R Q' H' tq} e1 e2 s d => by
    rw [tab_back W e1 e2] at d
    refine ⟨_, _, d, (ta0.same s).dv, k1, k1, dep, ?_⟩
    rw [show (if false = true then !PyData.eqv (tabD L (List.range n) C (List.range m) pt) (tabD L (List.range n) C (List.range m) pt) else PyData.eqv (tabD L (List.range n) C (List.range m) pt) (tabD L (List.range n) C (List.range m) pt)) = true from k2]
    exact kk H' s
  rcases hwy with hw | hw
  · refine ⟨fun _ _ => False, ⟨_, rfl, rfl, _, rfl, itT (decide_eq_true (by rw [hw])) ?_⟩, fun _ _ z => z.elim⟩
    rw [hw] at eL eA
    refine ⟨_, rfl, _, rfl, .ref q, vn, .non, ext L n r, List.range (n + 1), C, List.range m, pt, S', some n, none, rfl, tb0.same s5, WJ', l3.tups s5.tups, rfl, (fun i z => by cases z; exact List.mem_range.mpr (Nat.lt_succ_self n)), (fun i z => by cases z), fun H' tq s' d => ⟨_, rfl, fin ?_ ?_ (s5.trans s') d⟩⟩
    · rw [eL, nq_split ltAB, eA]
    · rw [nq_none]
      exact lived_skip W (fun z => by have := (mine_iff.mp z).2; rw [ext_at, hw] at this; exact absurd this (by decide +kernel))
  · refine ⟨fun σ' X => σ' = [some va, some (.ref q), some (.ref lb), some vp, some (.str r.wy), some vn, some vbh, some (.ref kq), some (.bl r.lv), some (.ref la), some (.int (A.length : Int)), some (.ref ep2)] ∧ X = Z5, ⟨_, rfl, rfl, _, rfl, itF (decide_eq_false (by rw [hw]; decide +kernel)) ⟨rfl, rfl⟩⟩, ?_⟩
    rintro σ' X ⟨rfl, rfl⟩
    rw [hw] at eL eA
    refine ⟨_, rfl, _, rfl, .ref q, .non, vn, ext L n r, List.range (n + 1), C, List.range m, pt, S', none, some n, rfl, tb0.same s5, WJ', rfl, l3.tups s5.tups, (fun i z => by cases z), (fun i z => by cases z; exact List.mem_range.mpr (Nat.lt_succ_self n)), fun H' tq s' d => ⟨_, rfl, fin ?_ ?_ (s5.trans s') d⟩⟩
    · rw [nq_none]
      exact lived_skip W (fun z => by have := (mine_iff.mp z).2; rw [ext_at, hw] at this; exact absurd this (by decide +kernel))
    · rw [eL, nq_split ltAB, eA]
theorem ok_ffollowers_of (T : Txt K mg d tk) (gfkey_of_place : FnOk P w K mg base CX0 1 d.fkey_of_place d.fkey_of_placed ["place"] (sp_fkey_of_place K)) : FnOk P w K mg base CX0 3 d.ffollowers_of d.ffollowers_ofd ["places"] (sp_ffollowers_of K) := by
  refine T.F_ffollowers_of.ok sc_ffollowers_of (fun vs H Q E h => len_ffollowers_of h) (fun cdv A outer s H vs Q E hr h => ?_)
  have hu : (A.deeper (envOfC "followers_of" (defScope s_ffollowers_of) s.heap.objs.size d.ffollowers_of cdv)).units < cLine := hr.units0
  refine ⟨_, (@pss_cons _ _ _ _ _ (@ps_set _ _ (1) _ _ _ _ sc_ffollowers_of.nd rfl (Or.inl rfl) (@pe_dctG _ _) (by rfl) (by first | exact .inl rfl | exact .inr rfl)) (@pss_cons _ _ _ _ _ (@ps_for _ _ _ _ _ _ _ _ PassesOwn.never rfl (@pi_list _ _ _ _ (@pe_sortK _ _ _ _ _ _ _ _ _ _ _ _ _ _ gfkey_of_place (hr.mono (by decide)) (by rfl) T.b_sorted boot_sorted (by rfl) T.m_fkey_of_place T.d_fkey_of_place rfl (@pa_cons _ _ _ _ _ (@pv _ 0 _ _ rfl (Or.inl rfl) rfl rfl) (@pa_nil _) (by rfl)) (by decide) (by decide) (by rfl) (by rfl))) (@pg_name _ _ (2) _ sc_ffollowers_of.nd rfl (Or.inl rfl) (by first | exact .inl rfl | exact .inr rfl)) (@pss_one _ _ _ (@ps_expr _ _ _ _ (@pe_bm _ _ _ _ _ _ _ _ _ _ _ _ PySem.F.plainAttrs_list PySem.F.slot_list_append PySem.F.type_list_append mt_append (@pe_bm _ _ _ _ _ _ _ _ _ _ _ _ PySem.F.plainAttrs_dict PySem.F.slot_dict_setdefault PySem.F.type_dict_setdefault (mt_setdefG (hu2 hr)) (@pv _ 1 _ _ rfl (Or.inl rfl) rfl rfl) (@pa_cons _ _ _ _ _ (@pe_ix _ _ _ _ _ _ _ ix_tup (@pv _ 2 _ _ rfl (Or.inl rfl) rfl rfl) (@pe_int _ _ _ _) (fun _ _ => rfl)) (@pa_cons _ _ _ _ _ (@pe_lstA _ _ _ _ (@pa_nil _)) (@pa_nil _) (by rfl)) (by rfl)) (by rfl) (by rfl) (by rfl) (by rfl) (by rfl)) (@pa_cons _ _ _ _ _ (@pe_ix _ _ _ _ _ _ _ ix_tup (@pv _ 2 _ _ rfl (Or.inl rfl) rfl rfl) (@pe_int _ _ _ _) (fun _ _ => rfl)) (@pa_nil _) (by rfl)) (by rfl) (by rfl) (by rfl) (by rfl) (by rfl)) (by rfl))) (by intro _; rfl)) (@pss_one _ _ _ (@ps_ret _ _ _ _ (@pv _ 1 _ _ rfl (Or.inl rfl) rfl rfl))))), ?_⟩
  obtain ⟨p, ys, nk, bh, D, ms, js, t, rfl, hp, an, perm, W, kk⟩ := h
  intro dq H1 g1 s1 e1
  have hyl : ys.length = ms.length := by rw [an.1, perm.length_eq]
  have few := W.few
  refine ⟨_, rfl, p, ys, js.map D, t, rfl, hp.same s1, by rw [List.length_map, an.1], W.keys.perm (perm.map D), by omega, fun m y d H' Q' q1 q2 s q => ?_, fun q H2 ix g2 s2 six e2 => ?_⟩
  · obtain ⟨k, ek, pl⟩ := an.at q1
    rw [List.getElem?_map, ek] at q2
    cases Option.some.inj q2
    exact ⟨y, nk, bh, D, k, rfl, pl.tups (s1.trans s).tups, fun kv hk => q H' _ (Same.refl _) hk.dv⟩
  have hix : ∀ i ∈ ix, i < ys.length := fun i hi => by
    have := (six.1.mem_iff).mp hi
    rw [List.mem_range, List.length_map] at this
    rw [an.1]
    exact this
  have a2 := an.ix ix hix
  rw [sort_by perm W.up six] at a2
  generalize ix.map (fun i => ys.getD i .non) = zs at e2 a2
  have hzl : zs.length = ms.length := a2.1
  have s02 := s1.trans s2
  have fq : H q = none := s1.free g2
  refine ⟨q, rfl, ⟨_, SqL.of e2⟩, for_list (xs := zs) (fun j σ H3 => ∃ kvs u2, σ = [some (.ref p), some (.ref dq), u2] ∧ Same H H3 ∧ H3 q = some (.lst zs) ∧ FD nk bh ms (ms.take j) H H3 dq kvs ∧ kvs.length ≤ j ∧ ∀ k, vG kvs k ≠ some (.ref q)) ⟨[], none, rfl, s02, e2, ⟨s2 _ _ e1, g1, fun k _ => .inl ⟨rfl, rfl⟩, fun k k' q z => (by cases z), fun k q z => (by cases z)⟩, Nat.le_refl _, fun k z => (by cases z)⟩ (fun j σ H3 _ ⟨_, _, _, _, e, _⟩ => SqL.of e) ?_ ?_⟩
  · rintro j x σ H3 hx ⟨kvs, u2, rfl, s3, eq, fd, hkl, nq⟩
    obtain ⟨m, em, pl⟩ := a2.at hx
    have hmm : m ∈ ms := List.mem_of_getElem? em
    have hj : j < ms.length := (List.getElem?_eq_some_iff.mp em).1
    have htk : ms.take (j + 1) = ms.take j ++ [m] := by rw [List.take_add_one, em]; rfl
    have hb : ∀ i, bh m = some i → i ∈ ms := fun i e => Rga.bh_in W.wf hmm e
    obtain ⟨b, vn, vb, vk, rfl, eb, hn, hbk, hd⟩ := pl.tups s3.tups
    refine ⟨_, rfl, .inr (.inr (.inl ⟨rfl, .inr (.inr ⟨kvs, fd.has⟩)⟩)), _, rfl, b, _, 1, _, rfl, rfl, SqT.of eb, rfl, szOk rfl, fun z0 H4 g4 s4 e4 => ?_⟩
    have fd4 := fd.same s4
    have t4 := s3.trans s4
    have f0 : H z0 = none := s3.free g4
    refine ⟨dq, kvs, kd nk (bh m), vb, .ref z0, rfl, rfl, fd4.has, hbk.tups s4.tups, small2000 (by omega), fun u hu => ?_, fun hu => ?_⟩
    · rcases fd4.each (bh m) hb with ⟨h1, _⟩ | ⟨q', vs, h1, h2, h3, h4⟩
      · rw [h1] at hu; cases hu
      · rw [h1] at hu
        cases hu
        have vl : vs.length ≤ 2000 := by
          rw [h3.1]
          unfold kids
          exact Nat.le_trans (List.length_filter_le _ _) (by rw [List.length_take]; omega)
        refine ⟨.inl ⟨rfl, _, SqL.of h2⟩, _, rfl, b, _, 0, _, rfl, rfl, SqT.of (s4 _ _ eb), rfl, q', _, _, rfl, rfl, h2, small2000 (by omega), ?_⟩
        refine ⟨kvs, _, rfl, t4.wr h4, ?_, ?_, by omega, nq⟩
        · rw [upd_ne (fun z => nq _ (by rw [z]; exact h1))]
          exact s4 _ _ eq
        · rw [htk]
          exact fd4.old W.inj hb h1 h2 (hn.tups s4.tups)
    · have nz : z0 ≠ dq := fun z => by rw [z, fd.has] at g4; cases g4
      refine ⟨.inl ⟨rfl, _, SqL.of (by rw [upd_ne nz]; exact e4)⟩, _, rfl, b, _, 0, _, rfl, rfl, SqT.of (Tups.wd fd4.has _ _ (s4 _ _ eb)), rfl, z0, _, _, rfl, rfl, (by rw [upd_ne nz]; exact e4), small2000 (by show 0 ≤ _; omega), ?_⟩
      have hqn : ∀ k, vG kvs k ≠ some (.ref z0) := fun k z => by
        obtain ⟨xs, y⟩ := fd.live k z0 z
        rw [y] at g4
        cases g4
      refine ⟨pG kvs (kd nk (bh m)) vb (.ref z0), _, rfl, (t4.wr g1).wr f0, ?_, ?_, Nat.le_trans (pG_len kvs _ _ _) (Nat.succ_le_succ hkl), fun k z => ?_⟩
      · have n1 : q ≠ z0 := fun z => by rw [← z, eq] at g4; cases g4
        have n2 : q ≠ dq := fun z => by rw [z, fd.has] at eq; cases eq
        rw [upd_ne n1, upd_ne n2]
        exact s4 _ _ eq
      · rw [htk]
        exact fd4.first W.inj hb hu f0 e4 hqn (hn.tups s4.tups)
      · rw [vG_put] at z
        by_cases ek : k = kd nk (bh m)
        · rw [if_pos ek] at z
          cases z
          rw [eq] at g4
          cases g4
        · rw [if_neg ek] at z
          exact nq k z
  · rintro σ H3 ⟨kvs, u2, rfl, s3, eq, fd, hkl, nq⟩
    rw [hzl, List.take_length] at fd
    exact ⟨_, rfl, kk H3 dq kvs s3 fd⟩
theorem ok_fwords_told (T : Txt K mg d tk) (gfkey_of_cell : FnOk P w K mg base CX0 1 d.fkey_of_cell d.fkey_of_celld ["cell"] (sp_fkey_of_cell K)) : FnOk P w K mg base CX0 3 d.fwords_told d.fwords_toldd ["facts", "part"] (sp_fwords_told K) := by
  refine T.F_fwords_told.ok sc_fwords_told (fun vs H Q E h => len_fwords_told h) (fun cdv A outer s H vs Q E hr h => ?_)
  have hu : (A.deeper (envOfC "words_told" (defScope s_fwords_told) s.heap.objs.size d.fwords_told cdv)).units < cLine := hr.units0
  have hu1 : (A.deeper (envOfC "words_told" (defScope s_fwords_told) s.heap.objs.size d.fwords_told cdv)).units + 1 < cLine := hu_of hr
  refine ⟨_, (@pss_cons _ _ _ _ _ (@ps_set _ _ (2) _ _ _ _ sc_fwords_told.nd rfl (Or.inl rfl) (@pe_sortK _ _ _ _ _ _ _ _ _ _ _ _ _ _ gfkey_of_cell (hr.mono (by decide)) (by rfl) T.b_sorted boot_sorted (by rfl) T.m_fkey_of_cell T.d_fkey_of_cell rfl (@pa_cons _ _ _ _ _ (@pe_lcomp _ _ _ _ _ _ _ (["cell"]) ([("part", 1)]) _ _ _ _ _ rfl (@pi_list _ _ _ _ (@pe_dget _ _ _ _ _ _ hu1 (@pv _ 0 _ _ rfl (Or.inl rfl) rfl rfl) (@pe_str _ _ _ _) (fun _ _ => rfl))) ⟨rfl, by decide +kernel, by decide +kernel⟩ (caps_def (defScope s_fwords_told) ["facts", "part", "cells"] rfl rfl (fun _ h => cell_has h) (by decide +kernel) (by decide +kernel) (by decide +kernel)) (fun _ _ _ => (@pg_name _ _ (0) _ (by show List.Nodup (["cell", "part"] : List Str); decide +kernel) rfl (Or.inl rfl) (by first | exact .inl rfl | exact .inr rfl))) (fun _ => fresh_name rfl) (fun _ _ _ => (@pts_one _ _ _ (@pt_cmpR _ _ _ _ _ _ _ _ (op_eqDK (K := K) rfl (hu64 hr)) (@pe_ix _ _ _ _ _ _ _ (ix_tupK (K := K) rfl) (@pv _ 0 _ _ rfl (Or.inl rfl) rfl rfl) (@pe_int _ _ _ _) (fun _ _ => rfl)) (@pv _ 1 _ _ rfl (Or.inr (Or.inl rfl)) rfl rfl) (nomark _)))) (fun _ _ _ => (@pv _ 0 _ _ rfl (Or.inl rfl) rfl rfl)) (by intro _; rfl)) (@pa_nil _) (by rfl)) (by decide) (by decide) (by rfl) (by rfl)) (by rfl) (by first | exact .inl rfl | exact .inr rfl)) (@pss_one _ _ _ (@ps_ret _ _ _ _ (@pe_callTy _ _ _ _ _ _ _ _ _ (call_dictG hr.hd (hu4 hr)) (by rfl) T.b_dict boot_dict (@pa_cons _ _ _ _ _ (@pe_lcomp _ _ _ _ _ _ _ (["cell"]) ([]) _ _ _ _ _ rfl (@pi_list _ _ _ _ (@pv _ 2 _ _ rfl (Or.inl rfl) rfl rfl)) ⟨rfl, by decide +kernel, by decide +kernel⟩ (caps0 (by decide +kernel)) (fun _ _ _ => (@pg_name _ _ (0) _ (by show List.Nodup (["cell"] : List Str); decide +kernel) rfl (Or.inl rfl) (by first | exact .inl rfl | exact .inr rfl))) (fun _ => fresh_name rfl) (fun _ _ _ => (@pts_nil _)) (fun _ _ _ => (@pe_tupA _ _ _ _ _ (@pa_cons _ _ _ _ _ (@pe_tupA _ _ _ _ _ (@pa_cons _ _ _ _ _ (@pe_ix _ _ _ _ _ _ _ (ix_tupK (K := K) rfl) (@pv _ 0 _ _ rfl (Or.inl rfl) rfl rfl) (@pe_int _ _ _ _) (fun _ _ => rfl)) (@pa_cons _ _ _ _ _ (@pe_ix _ _ _ _ _ _ _ (ix_tupK (K := K) rfl) (@pv _ 0 _ _ rfl (Or.inl rfl) rfl rfl) (@pe_int _ _ _ _) (fun _ _ => rfl)) (@pa_nil _) (by rfl)) (by rfl))) (@pa_cons _ _ _ _ _ (@pe_ix _ _ _ _ _ _ _ (ix_tupK (K := K) rfl) (@pv _ 0 _ _ rfl (Or.inl rfl) rfl rfl) (@pe_int _ _ _ _) (fun _ _ => rfl)) (@pa_nil _) (by rfl)) (by rfl)))) (by intro _; rfl)) (@pa_nil _) (by rfl)) (by decide) (by decide) (by rfl) (by rfl))))), ?_⟩
  obtain ⟨fa, vp, pt, L, js, C, mc, rfl, ⟨kvs0, la, vs, ca, cs, rd, _, _, _, _, hval, hca, an, W⟩, hvp, hlay, kk⟩ := h
  have hcl : cs.length = mc.length := an.1
  have few := W.few
  refine ⟨_, rfl, fa, .ref ca, rfl, .inl ⟨kvs0, .inr "cells", rd, rfl, hval.symm⟩, ca, rfl, ⟨_, SqL.of hca⟩, lc_any (xs := cs) (big2 (by omega)) (fun j ys H' => H' = H ∧ AN (CE C H) ys ((mc.take j).filter fun i => decide ((C i).pt = pt))) ⟨rfl, .nil⟩ (fun _ _ H' s' => by rw [s'.1]; exact SqL.of hca) (fun j x ys H' K1 K0 hx s' k1 k0 => ?_) fun H1 lp ys s' hy hq => ?_⟩
  · obtain ⟨rfl, ay⟩ := s'
    obtain ⟨i, ei, ce⟩ := an.at hx
    have hin : i ∈ mc := List.mem_of_getElem? ei
    have ce' := ce
    obtain ⟨b, vq, vr, vc, kq, rfl, h1, h2, h3, h4, h5⟩ := ce
    have tk : mc.take (j + 1) = mc.take j ++ [i] := by rw [List.take_add_one, ei]; rfl
    refine ⟨_, rfl, b, _, 0, _, rfl, rfl, SqT.of h1, rfl, _, rfl, tD (C i).pt, tD pt, (gk_td h2).dv, (gk_td hvp).dv, (W.lay i hin).1, hlay, Nat.le_trans (Nat.min_le_left _ _) (Nat.le_trans (deep_tD _) (by decide)), _, rfl, ?_⟩
    have eqp : (if false = true then !PyData.eqv (tD (C i).pt) (tD pt) else PyData.eqv (tD (C i).pt) (tD pt)) = decide ((C i).pt = pt) := tD_eqv _ _
    by_cases hp : (C i).pt = pt
    · refine itT (by rw [eqp]; exact decide_eq_true hp) ?_
      refine ⟨_, rfl, k1 _ _ ⟨rfl, ?_⟩⟩
      rw [tk]
      exact AN.pick (vs := cs) ay ce' (decide_eq_true hp)
    · refine itF (by rw [eqp]; exact decide_eq_false hp) ?_
      refine k0 _ ⟨rfl, ?_⟩
      rw [tk]
      exact ay.skip (by simpa using hp)
  obtain ⟨rfl, ay⟩ := s'
  rw [hcl, List.take_length] at ay
  have hyl : ys.length ≤ 100 := by rw [hcl] at hy; omega
  have n1 : Same H1 (upd H1 lp (.lst ys)) := Same.new hq
  have e1 : (upd H1 lp (.lst ys)) lp = some (.lst ys) := upd_same
  have ay1 := ay.imp fun v i g => CE.tups g n1.tups
  generalize upd H1 lp (.lst ys) = H2 at n1 e1 ay1
  have mup : (mc.filter fun i => decide ((C i).pt = pt)).Pairwise fun a b => ltD (.tuple [.int (C a).ka, .int (C a).kb]) (.tuple [.int (C b).ka, .int (C b).kb]) = true :=
    W.up.filter _
  have keys : KeysAre ((mc.filter fun i => decide ((C i).pt = pt)).map fun i => .tuple [.int (C i).ka, .int (C i).kb]) 2 := rk_keys fun d hd => by
    obtain ⟨i, _, rfl⟩ := List.mem_map.mp hd
    exact .inl ⟨_, _, rfl⟩
  refine ⟨lp, ys, (mc.filter fun i => decide ((C i).pt = pt)).map fun i => .tuple [.int (C i).ka, .int (C i).kb], 2, rfl, SqL.of e1, by rw [List.length_map, ay1.1], keys, by omega, fun mm y d H' Q' q1 q2 s q => ?_, fun q H3 ix g3 s3 six e3 => ?_⟩
  · obtain ⟨k, ek, ce⟩ := ay1.at q1
    rw [List.getElem?_map, ek] at q2
    cases Option.some.inj q2
    exact ⟨y, C, k, rfl, ce.tups s.tups, fun kv hk => q H' _ (Same.refl _) hk.dv⟩
  have hix : ∀ i ∈ ix, i < ys.length := fun i hi => by
    have := (six.1.mem_iff).mp hi
    rw [List.mem_range, List.length_map] at this
    rw [ay1.1]
    exact this
  have a2 := ay1.ix ix hix
  rw [sort_by (.refl _) mup six] at a2
  generalize ix.map (fun i => ys.getD i .non) = zs at e3 a2
  generalize hms : (mc.filter fun i => decide ((C i).pt = pt)) = ms at a2
  have hzl : zs.length ≤ 100 := by rw [a2.1, ← hms]; exact Nat.le_trans (List.length_filter_le _ _) (by omega)
  have a3 := a2.imp fun v i g => CE.tups g s3.tups
  refine ⟨_, rfl, q, rfl, ⟨_, SqL.of e3⟩, lc_any (xs := zs) (big2 (by omega)) (fun j us H' => Same H3 H' ∧ ∃ kvs, PrsV H' us kvs ∧ kvs.map (fun e => (e.1, e.2.2)) = (ms.take j).map (fun i => (KD.two (C i).rw (C i).cl, V.str (C i).wd))) ⟨Same.refl _, [], trivial, rfl⟩ (fun _ _ H' s' => SqL.of (s'.1 _ _ e3)) (fun j x us H' K1 K0 hx s' k1 k0 => ?_) fun H4 up us s' hu4' huq => ?_⟩
  · obtain ⟨s', kvs, pr, pk⟩ := s'
    obtain ⟨i, ei, ce⟩ := a3.at hx
    obtain ⟨b, vq, vr, vc, kq, rfl, h1, h2, h3, h4, h5⟩ := ce.tups s'.tups
    obtain ⟨c, rfl, hc⟩ := h3
    obtain ⟨d', rfl, hd⟩ := h4
    have tk : ms.take (j + 1) = ms.take j ++ [i] := by rw [List.take_add_one, ei]; rfl
    refine iteT (B := K0 H') ?_
    refine ⟨_, rfl, b, _, 1, _, rfl, rfl, SqT.of h1, rfl, _, rfl, b, _, 2, _, rfl, rfl, SqT.of h1, rfl, szOk rfl, fun tq H5 g5 s5 e5 => ?_⟩
    refine ⟨_, rfl, b, _, 3, _, rfl, rfl, SqT.of (s5 _ _ h1), rfl, szOk rfl, fun pq H6 g6 s6 e6 => k1 _ _ ⟨(s'.trans s5).trans s6, kvs ++ [(.two (C i).rw (C i).cl, .ref tq, .str (C i).wd)], PrsV.snoc (e := (.two (C i).rw (C i).cl, .ref tq, .str (C i).wd)) ⟨pq, rfl, e6, tq, c, d', rfl, s6 _ _ e5, s6 _ _ (s5 _ _ hc), s6 _ _ (s5 _ _ hd)⟩ (pr.tups (s5.trans s6).tups), ?_⟩⟩
    rw [tk, List.map_append, List.map_append, pk]
    rfl
  obtain ⟨s4, kvs, pr, pk⟩ := s'
  have n4 : Same H4 (upd H4 up (.lst us)) := Same.new huq
  have s14 := ((n1.trans s3).trans s4).trans n4
  refine ⟨up, us, kvs, rfl, SqL.of upd_same, pr.tups n4.tups, by omega, fun dq H7 g7 s7 e7 => kk H7 dq _ (s14.trans s7) (s14.free g7) e7 fun r c => ?_⟩
  rw [show zs.length = ms.length from a2.1, List.take_length] at pk
  rw [putAll_val]
  show List.foldl _ (V.str "") kvs = _
  have e : kvs.foldl (fun a e => if e.1 = KD.two r c then e.2.2 else a) (V.str "") = (kvs.map (fun e => (e.1, e.2.2))).foldl (fun a (e : KD × V) => if e.1 = KD.two r c then e.2 else a) (V.str "") := by rw [List.foldl_map]
  rw [e, pk, List.foldl_map, ← hms]
  exact told_fold C pt r c mc ""
theorem ok_fordered (T : Txt K mg d tk) (gffollowers_of : FnOk P w K mg base CX0 3 d.ffollowers_of d.ffollowers_ofd ["places"] (sp_ffollowers_of K)) : FnOk P w K mg base CX0 4 d.fordered d.forderedd ["places"] (sp_fordered K) := by
  refine T.F_fordered.ok sc_fordered (fun vs H Q E h => len_fordered h) (fun cdv A outer s H vs Q E hr h => ?_)
  have hu : (A.deeper (envOfC "ordered" (defScope s_fordered) s.heap.objs.size d.fordered cdv)).units < cLine := hr.units0
  refine ⟨_, (@pss_cons _ _ _ _ _ (@ps_set _ _ (1) _ _ _ _ sc_fordered.nd rfl (Or.inl rfl) (@pe_call _ _ _ _ _ _ _ _ _ _ _ _ _ _ _ _ gffollowers_of (hr.mono (by decide)) (by rfl) T.m_ffollowers_of T.k_ffollowers_of T.d_ffollowers_of .nil pass0 (@pa_cons _ _ _ _ _ (@pv _ 0 _ _ rfl (Or.inl rfl) rfl rfl) (@pa_nil _) (by rfl)) (by decide) (by rfl) (by rfl)) (by rfl) (by first | exact .inl rfl | exact .inr rfl)) (@pss_cons _ _ _ _ _ (@ps_set _ _ (2) _ _ _ _ sc_fordered.nd rfl (Or.inl rfl) (@pe_lstA _ _ _ _ (@pa_nil _)) (by rfl) (by first | exact .inl rfl | exact .inr rfl)) (@pss_cons _ _ _ _ _ (@ps_set _ _ (3) _ _ _ _ sc_fordered.nd rfl (Or.inl rfl) (@pe_callTy _ _ _ _ _ _ _ _ _ call_lstA (by rfl) T.b_list boot_list (@pa_cons _ _ _ _ _ (@pe_bm _ _ _ _ _ _ _ _ _ _ _ _ PySem.F.plainAttrs_dict PySem.F.slot_dict_get PySem.F.type_dict_get (mt_get2G (hu2 hr)) (@pv _ 1 _ _ rfl (Or.inl rfl) rfl rfl) (@pa_cons _ _ _ _ _ (@pe_non _ _ _) (@pa_cons _ _ _ _ _ (@pe_lstA _ _ _ _ (@pa_nil _)) (@pa_nil _) (by rfl)) (by rfl)) (by rfl) (by rfl) (by rfl) (by rfl) (by rfl)) (@pa_nil _) (by rfl)) (by decide) (by decide) (by rfl) (by rfl)) (by rfl) (by first | exact .inl rfl | exact .inr rfl)) (@pss_cons _ _ _ _ _ (@ps_while _ _ _ _ _ _ PassesOwn.never (@pt_cmpR _ _ _ _ _ _ _ _ op_gt (@pe_callB _ _ _ _ _ _ _ _ _ call_len_seq (by rfl) T.b_len boot_len (@pa_cons _ _ _ _ _ (@pv _ 3 _ _ rfl (Or.inl rfl) rfl rfl) (@pa_nil _) (by rfl)) (by decide) (by decide) (by rfl) (by rfl)) (@pe_int _ _ _ _) (nomark _)) (@pss_cons _ _ _ _ _ (@ps_set _ _ (4) _ _ _ _ sc_fordered.nd rfl (Or.inl rfl) (@pe_bm0 _ _ _ _ _ _ _ _ _ PySem.F.plainAttrs_list PySem.F.slot_list_pop PySem.F.type_list_pop mt_pop (@pv _ 3 _ _ rfl (Or.inl rfl) rfl rfl) (by rfl) (by rfl)) (by rfl) (by first | exact .inl rfl | exact .inr rfl)) (@pss_cons _ _ _ _ _ (@ps_expr _ _ _ _ (@pe_bm _ _ _ _ _ _ _ _ _ _ _ _ PySem.F.plainAttrs_list PySem.F.slot_list_append PySem.F.type_list_append mt_append (@pv _ 2 _ _ rfl (Or.inl rfl) rfl rfl) (@pa_cons _ _ _ _ _ (@pv _ 4 _ _ rfl (Or.inl rfl) rfl rfl) (@pa_nil _) (by rfl)) (by rfl) (by rfl) (by rfl) (by rfl) (by rfl)) (by rfl)) (@pss_one _ _ _ (@ps_expr _ _ _ _ (@pe_bm _ _ _ _ _ _ _ _ _ _ _ _ PySem.F.plainAttrs_list PySem.F.slot_list_extend PySem.F.type_list_extend mt_extend (@pv _ 3 _ _ rfl (Or.inl rfl) rfl rfl) (@pa_cons _ _ _ _ _ (@pe_bm _ _ _ _ _ _ _ _ _ _ _ _ PySem.F.plainAttrs_dict PySem.F.slot_dict_get PySem.F.type_dict_get (mt_get2G (hu2 hr)) (@pv _ 1 _ _ rfl (Or.inl rfl) rfl rfl) (@pa_cons _ _ _ _ _ (@pv _ 4 _ _ rfl (Or.inl rfl) rfl rfl) (@pa_cons _ _ _ _ _ (@pe_lstA _ _ _ _ (@pa_nil _)) (@pa_nil _) (by rfl)) (by rfl)) (by rfl) (by rfl) (by rfl) (by rfl) (by rfl)) (@pa_nil _) (by rfl)) (by rfl) (by rfl) (by rfl) (by rfl) (by rfl)) (by rfl)))))) (@pss_one _ _ _ (@ps_ret _ _ _ _ (@pv _ 2 _ _ rfl (Or.inl rfl) rfl rfl))))))), ?_⟩
  obtain ⟨p, ys, nk, bh, D, ms, js, t, rfl, hp, an, perm, W, kk⟩ := h
  have few := W.few
  refine ⟨_, rfl, p, ys, nk, bh, D, ms, js, t, rfl, hp, an, perm, W, fun H1 dq kvs s1 fd => ?_⟩
  refine ⟨szOk rfl, fun rp H2 g2 s2 e2 => ?_⟩
  have fd2 := fd.same s2
  refine ⟨_, rfl, .inr (.inr (.inl ⟨rfl, .inr (.inr ⟨kvs, fd2.has⟩)⟩)), szOk rfl, fun z0 H3 g3 s3 e3 => ?_⟩
  have fd3 := fd2.same s3
  obtain ⟨a, vs, ea, eva, ava⟩ := fd3.get e3 none (fun i z => by cases z)
  refine ⟨dq, kvs, .non, .non, .ref z0, rfl, rfl, fd3.has, rfl, ?_⟩
  rw [show (vG kvs KD.non).getD (V.ref z0) = .ref a from ea]
  refine ⟨a, vs, rfl, .inl (SqL.of eva), fun tp H4 g4 s4 e4 => ?_⟩
  have w : Rga.WF (Rga.qsOf bh ms) := W.wf
  have rl := Rga.row_len w
  have nrt : rp ≠ tp := fun z => by rw [← z, s3 _ _ e2] at g4; cases g4
  have frp : H1 rp = none := g2
  have ftp : H1 tp = none := (s2.trans s3).free g4
  have s14 := (s2.trans s3).trans s4
  have d0 := Rga.dfs_row w
  rw [show Rga.rk (Rga.qsOf bh ms) none = (kids bh ms none).reverse from kids_rk bh ms none] at d0
  refine ⟨fun mm σ H5 => ∃ (out done st : List Nat) (rv tv : List V) (u4 : Option V), σ = [some (.ref p), some (.ref dq), some (.ref rp), some (.ref tp), u4] ∧ Same H1 H5 ∧ H5 rp = some (.lst rv) ∧ AN (NM nk H5) rv done ∧ H5 tp = some (.lst tv) ∧ AN (NM nk H5) tv st ∧ Rga.Dfs (Rga.rk (Rga.qsOf bh ms)) st.reverse out ∧ done ++ out = Rga.rowR (Rga.qsOf bh ms) ∧ mm = out.length,
    ⟨_, _, [], kids bh ms none, [], vs, none, rfl, s14, s4 _ _ (s3 _ _ e2), .nil, e4, ava.imp fun v i g => g.tups s4.tups, d0, rfl, rfl⟩, ?_⟩
  rintro mm σ H5 ⟨out, done, st, rv, tv, u4, rfl, s5, er, ar, et, at', dfs, hR, rfl⟩
  have hlen : done.length + out.length = ms.length := by rw [← rl, ← hR, List.length_append]
  have hst := Rga.dfs_len dfs
  rw [List.length_reverse] at hst
  refine ⟨_, rfl, tp, _, rfl, .inl (SqL.of et), _, _, rfl, rfl, _, rfl, ?_⟩
  rcases List.eq_nil_or_concat st with z | ⟨st', x, z⟩
  · subst z
    have h0 : tv = [] := List.length_eq_zero_iff.mp at'.1
    subst h0
    refine itF rfl ?_
    have := dfs.nil_inv
    subst this
    rw [List.append_nil] at hR
    subst hR
    exact ⟨_, rfl, kk H5 rp rv (s1.trans s5) (s1.free frp) er ar⟩
  rw [List.concat_eq_append] at z
  subst z
  obtain ⟨us, vx, rfl, au, hx⟩ := at'.last
  rw [List.reverse_append, List.reverse_cons, List.reverse_nil, List.nil_append, List.singleton_append] at dfs
  obtain ⟨out', rfl, dfs'⟩ := dfs.cons_inv
  have hxm : x ∈ ms := Rga.row_mem w (by rw [← hR]; exact List.mem_append_right _ List.mem_cons_self)
  rw [show Rga.rk (Rga.qsOf bh ms) (some x) = (kids bh ms (some x)).reverse from kids_rk bh ms (some x)] at dfs'
  have hl2 := Rga.dfs_len dfs'
  rw [List.length_append, List.length_reverse, List.length_reverse] at hl2
  rw [List.length_cons] at hlen
  refine itT (decide_eq_true (by show (0 : Int) < ((us ++ [vx]).length : Nat); rw [List.length_append, List.length_singleton]; omega)) ?_
  refine ⟨fun σ' H' => ∃ (rv tv : List V) (u4 : Option V), σ' = [some (.ref p), some (.ref dq), some (.ref rp), some (.ref tp), u4] ∧ Same H1 H' ∧ H' rp = some (.lst rv) ∧ AN (NM nk H') rv (done ++ [x]) ∧ H' tp = some (.lst tv) ∧ AN (NM nk H') tv (st' ++ kids bh ms (some x)), fun σ' H' ⟨rv', tv', u4', b1, b2, b3, b4, b5, b6⟩ => ⟨out'.length, by rw [List.length_cons]; omega, out', done ++ [x], _, rv', tv', u4', b1, b2, b3, b4, b5, b6, ?_, ?_, rfl⟩, ?_⟩
  · rw [List.reverse_append]
    exact dfs'
  · rw [List.append_assoc]
    exact hR
  refine ⟨_, rfl, .inl ⟨rfl, _, SqL.of et⟩, tp, _, vx, rfl, rfl, et, (by simp), ?_⟩
  rw [List.dropLast_concat]
  have t6 : Tups H5 (upd H5 tp (.lst us)) := Tups.wl et
  have er6 : (upd H5 tp (.lst us)) rp = some (.lst rv) := by rw [upd_ne nrt]; exact er
  refine ⟨_, rfl, .inl ⟨rfl, _, SqL.of er6⟩, _, rfl, rp, _, _, rfl, rfl, er6, (by rw [ar.1]; exact small2000 (by omega)), ?_⟩
  have t7 : Tups (upd H5 tp (.lst us)) (upd (upd H5 tp (.lst us)) rp (.lst (rv ++ [vx]))) := Tups.wl er6
  have et7 : (upd (upd H5 tp (.lst us)) rp (.lst (rv ++ [vx]))) tp = some (.lst us) := by rw [upd_ne nrt.symm, upd_same]
  have s7 : Same H1 (upd (upd H5 tp (.lst us)) rp (.lst (rv ++ [vx]))) := (s5.wr ftp).wr frp
  have fd7 := fd.same s7
  refine ⟨_, rfl, .inl ⟨rfl, _, SqL.of et7⟩, _, rfl, .inr (.inr (.inl ⟨rfl, .inr (.inr ⟨kvs, fd7.has⟩)⟩)), _, rfl, szOk rfl, fun z1 H8 g8 s8 e8 => ?_⟩
  have fd8 := fd7.same s8
  have t8 := (t6.trans t7).trans s8.tups
  obtain ⟨a8, vs8, ea8, ev8, av8⟩ := fd8.get e8 (some x) (fun i z => by cases z; exact hxm)
  refine ⟨dq, kvs, .tup (nk x), vx, .ref z1, rfl, rfl, fd8.has, hx.tups t8, ?_⟩
  rw [show (vG kvs (KD.tup (nk x))).getD (V.ref z1) = .ref a8 from ea8]
  have et8 := s8 _ _ et7
  refine ⟨tp, a8, us, vs8, rfl, rfl, et8, ev8, big2 (by rw [au.1, av8.1]; omega), ?_⟩
  have t9 : Tups H8 (upd H8 tp (.lst (us ++ vs8))) := Tups.wl et8
  refine ⟨rv ++ [vx], us ++ vs8, _, rfl, (s7.trans s8).wr ftp, ?_, ?_, upd_same, ?_⟩
  · rw [upd_ne nrt]
    exact s8 _ _ upd_same
  · exact ((ar.snoc hx).imp fun v i g => g.tups (t8.trans t9))
  · exact (au.imp fun v i g => g.tups (t8.trans t9)).app (av8.imp fun v i g => g.tups t9)
theorem ok_flines_of (T : Txt K mg d tk) (gfordered : FnOk P w K mg base CX0 4 d.fordered d.forderedd ["places"] (sp_fordered K)) : FnOk P w K mg base CX0 5 d.flines_of d.flines_ofd ["facts", "part", "way"] (sp_flines_of K) := by
  refine T.F_flines_of.ok sc_flines_of (fun vs H Q E h => len_flines_of h) (fun cdv A outer s H vs Q E hr h => ?_)
  have hu : (A.deeper (envOfC "lines_of" (defScope s_flines_of) s.heap.objs.size d.flines_of cdv)).units < cLine := hr.units0
  have hu1 : (A.deeper (envOfC "lines_of" (defScope s_flines_of) s.heap.objs.size d.flines_of cdv)).units + 1 < cLine := hu_of hr
  refine ⟨_, (@pss_cons _ _ _ _ _ (@ps_setC _ (3) _ _ _ _ _ _ _ _ _ (["fact"]) ([("part", 1), ("way", 2)]) _ _ _ _ _ sc_flines_of.nd rfl (Or.inl rfl) rfl (@pi_list _ _ _ _ (@pe_dget _ _ _ _ _ _ hu1 (@pv _ 0 _ _ rfl (Or.inl rfl) rfl rfl) (@pe_str _ _ _ _) (fun _ _ => rfl))) ⟨rfl, by decide +kernel, by decide +kernel⟩ (caps_def (defScope s_flines_of) ["facts", "part", "way", "lines", "lives"] rfl rfl (fun _ h => cell_has h) (by decide +kernel) (by decide +kernel) (by decide +kernel)) (fun _ _ _ => (@pg_name _ _ (0) _ (by show List.Nodup (["fact", "part", "way"] : List Str); decide +kernel) rfl (Or.inl rfl) (by first | exact .inl rfl | exact .inr rfl))) (fun _ => fresh_name rfl) (fun _ _ _ => (@pts_one _ _ _ (@PW.pt _ _ _ (@pw_and _ _ _ _ _ _ _ (@pt_cmpR _ _ _ _ _ _ _ _ (op_eqDK (K := K) rfl (hu64 hr)) (@pe_ix _ _ _ _ _ _ _ (ix_tupK (K := K) rfl) (@pv _ 0 _ _ rfl (Or.inl rfl) rfl rfl) (@pe_int _ _ _ _) (fun _ _ => rfl)) (@pv _ 1 _ _ rfl (Or.inr (Or.inl rfl)) rfl rfl) (nomark _)) (@pw_and1 _ _ _ _ (@pt_cmpR _ _ _ _ _ _ _ _ op_eq (@pe_ix _ _ _ _ _ _ _ (ix_tupK (K := K) rfl) (@pv _ 0 _ _ rfl (Or.inl rfl) rfl rfl) (@pe_int _ _ _ _) (fun _ _ => rfl)) (@pv _ 2 _ _ rfl (Or.inr (Or.inl rfl)) rfl rfl) (nomark _))))))) (fun _ _ _ => (@pv _ 0 _ _ rfl (Or.inl rfl) rfl rfl)) (by intro _; rfl) (by rfl) (by first | exact .inl rfl | exact .inr rfl)) (@pss_cons _ _ _ _ _ (@ps_set _ _ (4) _ _ _ _ sc_flines_of.nd rfl (Or.inr rfl) (@pe_callTy _ _ _ _ _ _ _ _ _ (call_dictG hr.hd (hu4 hr)) (by rfl) T.b_dict boot_dict (@pa_cons _ _ _ _ _ (@pe_lcomp _ _ _ _ _ _ _ (["fact"]) ([]) _ _ _ _ _ rfl (@pi_list _ _ _ _ (@pv _ 3 _ _ rfl (Or.inl rfl) rfl rfl)) ⟨rfl, by decide +kernel, by decide +kernel⟩ (caps0 (by decide +kernel)) (fun _ _ _ => (@pg_name _ _ (0) _ (by show List.Nodup (["fact"] : List Str); decide +kernel) rfl (Or.inl rfl) (by first | exact .inl rfl | exact .inr rfl))) (fun _ => fresh_name rfl) (fun _ _ _ => (@pts_nil _)) (fun _ _ _ => (@pe_tupA _ _ _ _ _ (@pa_cons _ _ _ _ _ (@pe_ix _ _ _ _ _ _ _ (ix_tupK (K := K) rfl) (@pv _ 0 _ _ rfl (Or.inl rfl) rfl rfl) (@pe_int _ _ _ _) (fun _ _ => rfl)) (@pa_cons _ _ _ _ _ (@pe_ix _ _ _ _ _ _ _ (ix_tupK (K := K) rfl) (@pv _ 0 _ _ rfl (Or.inl rfl) rfl rfl) (@pe_int _ _ _ _) (fun _ _ => rfl)) (@pa_nil _) (by rfl)) (by rfl)))) (by intro _; rfl)) (@pa_nil _) (by rfl)) (by decide) (by decide) (by rfl) (by rfl)) (by rfl) (by first | exact .inl rfl | exact .inr rfl)) (@pss_one _ _ _ (@ps_ret _ _ _ _ (@pe_lcomp _ _ _ _ _ _ _ (["name"]) ([("lives", 4)]) _ _ _ _ _ rfl (@pi_list _ _ _ _ (@pe_call _ _ _ _ _ _ _ _ _ _ _ _ _ _ _ _ gfordered (hr.mono (by decide)) (by rfl) T.m_fordered T.k_fordered T.d_fordered .nil pass0 (@pa_cons _ _ _ _ _ (@pe_lcomp _ _ _ _ _ _ _ (["fact"]) ([]) _ _ _ _ _ rfl (@pi_list _ _ _ _ (@pv _ 3 _ _ rfl (Or.inl rfl) rfl rfl)) ⟨rfl, by decide +kernel, by decide +kernel⟩ (caps0 (by decide +kernel)) (fun _ _ _ => (@pg_name _ _ (0) _ (by show List.Nodup (["fact"] : List Str); decide +kernel) rfl (Or.inl rfl) (by first | exact .inl rfl | exact .inr rfl))) (fun _ => fresh_name rfl) (fun _ _ _ => (@pts_nil _)) (fun _ _ _ => (@pe_slice _ _ _ _ _ _ _ _ _ _ (sl_tupAK (K := K) rfl) (@pv _ 0 _ _ rfl (Or.inl rfl) rfl rfl) (@po_some _ _ _ (@pe_int _ _ _ _)) (@po_some _ _ _ (@pe_int _ _ _ _)))) (by intro _; rfl)) (@pa_nil _) (by rfl)) (by decide) (by rfl) (by rfl))) ⟨rfl, by decide +kernel, by decide +kernel⟩ (caps_def (defScope s_flines_of) ["facts", "part", "way", "lines", "lives"] rfl rfl (fun _ h => cell_has h) (by decide +kernel) (by decide +kernel) (by decide +kernel)) (fun _ _ _ => (@pg_name _ _ (0) _ (by show List.Nodup (["name", "lives"] : List Str); decide +kernel) rfl (Or.inl rfl) (by first | exact .inl rfl | exact .inr rfl))) (fun _ => fresh_name rfl) (fun _ _ _ => (@pts_one _ _ _ (@pt_val _ _ _ (@pe_dgetG _ _ _ _ _ _ (hu2 hr) (@pv _ 1 _ _ rfl (Or.inr (Or.inl rfl)) rfl rfl) (@pv _ 0 _ _ rfl (Or.inl rfl) rfl rfl) (fun _ _ => rfl)) (by intro _; rfl)))) (fun _ _ _ => (@pv _ 0 _ _ rfl (Or.inl rfl) rfl rfl)) (by intro _; rfl)))))), ?_⟩
  obtain ⟨fa, vp, pt, wy, L, js, rfl, ⟨kvs0, la, vs, rd, hval, hla, an, W⟩, hvp, hlay, kk⟩ := h
  have hvl : vs.length = js.length := an.1
  have few := W.few
  have PW0 := W.plw pt wy
  refine ⟨_, rfl, fa, .ref la, rfl, .inl ⟨kvs0, .inr "lines", rd, rfl, hval.symm⟩, la, rfl, ⟨_, SqL.of hla⟩, lc_any (xs := vs) (big2 (by omega)) (fun j ys H' => H' = H ∧ AN (LN L H) ys ((js.take j).filter (mine L pt wy))) ⟨rfl, .nil⟩ (fun _ _ H' s' => by rw [s'.1]; exact SqL.of hla) (fun j x ys H' K1 K0 hx s' k1 k0 => ?_) fun H1 lp ys s' hy hq => ?_⟩
  · obtain ⟨rfl, ay⟩ := s'
    obtain ⟨i, ei, ln⟩ := an.at hx
    have hin : i ∈ js := List.mem_of_getElem? ei
    have ln' := ln
    obtain ⟨b, vq, vn, vb, kq, rfl, h1, h2, h3, h4, h5⟩ := ln
    have tk : js.take (j + 1) = js.take j ++ [i] := by rw [List.take_add_one, ei]; rfl
    refine ⟨_, rfl, b, _, 0, _, rfl, rfl, SqT.of h1, rfl, _, rfl, tD (L i).pt, tD pt, (gk_td h2).dv, (gk_td hvp).dv, (W.lay i hin).2, hlay, Nat.le_trans (Nat.min_le_left _ _) (Nat.le_trans (deep_tD _) (by decide)), _, rfl, ?_⟩
    have eqp : (if false = true then !PyData.eqv (tD (L i).pt) (tD pt) else PyData.eqv (tD (L i).pt) (tD pt)) = decide ((L i).pt = pt) := tD_eqv _ _
    by_cases hp : (L i).pt = pt
    · refine itT (by rw [eqp]; exact decide_eq_true hp) ?_
      refine ⟨_, rfl, b, _, 1, _, rfl, rfl, SqT.of h1, rfl, _, rfl, rfl, _, rfl, ?_⟩
      by_cases hw : (L i).wy = wy
      · refine itT (decide_eq_true (by rw [hw])) ?_
        refine ⟨_, rfl, k1 _ _ ⟨rfl, ?_⟩⟩
        rw [tk]
        exact AN.pick (vs := vs) ay ln' (mine_iff.mpr ⟨hp, hw⟩)
      · refine itF (decide_eq_false (fun z => hw (V.str.inj z))) ?_
        refine k0 _ ⟨rfl, ?_⟩
        rw [tk]
        exact ay.skip fun z => hw (mine_iff.mp z).2
    · refine itF (by rw [eqp]; exact decide_eq_false hp) (itF rfl ?_)
      refine k0 _ ⟨rfl, ?_⟩
      rw [tk]
      exact ay.skip fun z => hp (mine_iff.mp z).1
  obtain ⟨rfl, ay⟩ := s'
  rw [hvl, List.take_length] at ay
  have ay : AN (LN L H1) ys (mines L js pt wy) := ay
  have hyl : ys.length ≤ 1300 := by rw [hvl] at hy; omega
  have n1 : Same H1 (upd H1 lp (.lst ys)) := Same.new hq
  have e1 : (upd H1 lp (.lst ys)) lp = some (.lst ys) := upd_same
  have ay1 := ay.imp fun v i g => g.tups n1.tups
  generalize upd H1 lp (.lst ys) = H2 at n1 e1 ay1
  refine ⟨_, rfl, lp, rfl, ⟨_, SqL.of e1⟩, lc_any (xs := ys) (big2 (by omega)) (fun j zs H' => Same H2 H' ∧ ∃ kvs, PrsV H' zs kvs ∧ PKs (nkL L) (fun v i => v = .bl (L i).lv) kvs ((mines L js pt wy).take j)) ⟨Same.refl _, [], trivial, trivial⟩ (fun _ _ H' s' => SqL.of (s'.1 _ _ e1)) (fun j x zs H' K1 K0 hx s' k1 k0 => ?_) fun H3 zp zs s' hz hzq => ?_⟩
  · obtain ⟨s', kvs, pr, pk⟩ := s'
    obtain ⟨i, ei, ln⟩ := ay1.at hx
    obtain ⟨b, vq, vn, vb, kq, rfl, h1, h2, h3, h4, h5⟩ := ln.tups s'.tups
    have tk : (mines L js pt wy).take (j + 1) = (mines L js pt wy).take j ++ [i] := by rw [List.take_add_one, ei]; rfl
    refine iteT (B := K0 H') ?_
    refine ⟨_, rfl, b, _, 2, _, rfl, rfl, SqT.of h1, rfl, _, rfl, b, _, 5, _, rfl, rfl, SqT.of h1, rfl, szOk rfl, fun tq H4 g4 s4 e4 => k1 _ _ ⟨s'.trans s4, kvs ++ [(.tup (nkL L i), vn, .bl (L i).lv)], PrsV.snoc (e := (.tup (nkL L i), vn, .bl (L i).lv)) ⟨tq, rfl, e4, h3.tups s4.tups⟩ (pr.tups s4.tups), ?_⟩⟩
    rw [tk]
    exact pk.snoc rfl rfl
  obtain ⟨s3, kvs, pr, pk⟩ := s'
  have n3 : Same H3 (upd H3 zp (.lst zs)) := Same.new hzq
  have pkF : PKs (nkL L) (fun v i => v = .bl (L i).lv) kvs (mines L js pt wy) := by
    rw [show ys.length = (mines L js pt wy).length from ay1.1, List.take_length] at pk
    exact pk
  refine ⟨zp, zs, kvs, rfl, SqL.of upd_same, pr.tups n3.tups, by omega, fun dq H5 g5 s5 e5 => ?_⟩
  have s25 := (s3.trans n3).trans s5
  have get : ∀ i ∈ mines L js pt wy, vG (putAll [] kvs) (.tup (nkL L i)) = some (.bl (L i).lv) := fun i hi => by
    obtain ⟨v, h1, rfl⟩ := PKs.get (all := mines L js pt wy) PW0.inj (done := []) (acc := []) pkF (fun i z => nomatch z) (fun i h => h) (fun i z => nomatch z) i (.inr hi)
    exact h1
  refine ⟨_, rfl, lp, rfl, ⟨_, SqL.of (s25 _ _ e1)⟩, lc_any (xs := ys) (big2 (by omega)) (fun j us H' => Same H5 H' ∧ AN (PL (nkL L) (bhL L) (DL L) H') us ((mines L js pt wy).take j)) ⟨Same.refl _, .nil⟩ (fun _ _ H' s' => SqL.of ((s25.trans s'.1) _ _ e1)) (fun j x us H' K1 K0 hx s' k1 k0 => ?_) fun H6 up us s' hu6 huq => ?_⟩
  · obtain ⟨s', au⟩ := s'
    obtain ⟨i, ei, ln⟩ := ay1.at hx
    obtain ⟨b, vq, vn, vb, kq, rfl, h1, h2, h3, h4, h5⟩ := ln.tups (s25.trans s').tups
    have tk : (mines L js pt wy).take (j + 1) = (mines L js pt wy).take j ++ [i] := by rw [List.take_add_one, ei]; rfl
    refine iteT (B := K0 H') ?_
    refine ⟨_, rfl, 2, rfl, 5, rfl, b, _, rfl, SqT.of h1, (by show ¬ (HT.sIx 6 0 (some 2) = 0 ∧ HT.sIx 6 6 (some 5) = 6); decide), fun tq H7 g7 s7 e7 => k1 _ _ ⟨s'.trans s7, ?_⟩⟩
    rw [tk]
    have t7 := s7.tups
    exact (au.imp fun v i g => g.tups t7).snoc ⟨tq, vn, vb, .ref kq, rfl, e7, h3.tups t7, h4.tups t7, .tup (s7 _ _ h5) (.cons (.int _) (.cons (.int _) .nil))⟩
  obtain ⟨s6, au⟩ := s'
  have n6 : Same H6 (upd H6 up (.lst us)) := Same.new huq
  rw [show ys.length = (mines L js pt wy).length from ay1.1, List.take_length] at au
  refine ⟨up, us, nkL L, bhL L, DL L, mines L js pt wy, mines L js pt wy, 2, rfl, SqL.of upd_same, au.imp fun v i g => g.tups n6.tups, .refl _, PW0, fun H8 q8 ws s8 g8 e8 aw => ?_⟩
  have wl : ws.length = (mines L js pt wy).length := by rw [aw.1]; exact Rga.row_len PW0.wf
  have s58 := (s6.trans n6).trans s8
  refine ⟨q8, rfl, ⟨_, SqL.of e8⟩, lc_any (xs := ws) (big2 (by rw [wl, ← ay1.1]; omega)) (fun j us H' => H' = H8 ∧ AN (NM (nkL L) H8) us (((rowL L js pt wy).take j).filter fun i => (L i).lv)) ⟨rfl, .nil⟩ (fun _ _ H' s' => by rw [s'.1]; exact SqL.of e8) (fun j x us H' K1 K0 hx s' k1 k0 => ?_) fun H9 rp rs s' hr9 hrq => ?_⟩
  · obtain ⟨rfl, au⟩ := s'
    obtain ⟨i, ei, nm⟩ := aw.at hx
    have him : i ∈ mines L js pt wy := Rga.row_mem PW0.wf (List.mem_of_getElem? ei)
    have tk : (rowL L js pt wy).take (j + 1) = (rowL L js pt wy).take j ++ [i] := by rw [List.take_add_one, show (rowL L js pt wy)[j]? = some i from ei]; rfl
    refine ⟨_, rfl, _, rfl, dq, _, .tup (nkL L i), .bl (L i).lv, rfl, .inl (s58 _ _ e5), nm, get i him, _, rfl, ?_⟩
    by_cases hl : (L i).lv = true
    · refine itT hl ⟨_, rfl, k1 _ _ ⟨rfl, ?_⟩⟩
      rw [tk]
      exact AN.pick (vs := ws) au nm hl
    · refine itF (by simpa using hl) (k0 _ ⟨rfl, ?_⟩)
      rw [tk]
      exact au.skip hl
  obtain ⟨rfl, ar⟩ := s'
  have n9 : Same H9 (upd H9 rp (.lst rs)) := Same.new hrq
  have s1 := (n1.trans s25).trans s58
  rw [show ws.length = (rowL L js pt wy).length from aw.1, List.take_length] at ar
  exact kk _ rp rs (s1.trans n9) (s1.free hrq) upd_same (ar.imp fun v i g => g.tups n9.tups)
theorem ok_ftable_of (T : Txt K mg d tk) (gflines_of : FnOk P w K mg base CX0 5 d.flines_of d.flines_ofd ["facts", "part", "way"] (sp_flines_of K)) (gfwords_told : FnOk P w K mg base CX0 3 d.fwords_told d.fwords_toldd ["facts", "part"] (sp_fwords_told K)) : FnOk P w K mg base CX0 6 d.ftable_of d.ftable_ofd ["facts", "part"] (sp_ftable_of K) := by
  refine T.F_ftable_of.ok sc_ftable_of (fun vs H Q E h => len_ftable_of h) (fun cdv A outer s H vs Q E hr h => ?_)
  have hu : (A.deeper (envOfC "table_of" (defScope s_ftable_of) s.heap.objs.size d.ftable_of cdv)).units < cLine := hr.units0
  refine ⟨_, (@pss_cons _ _ _ _ _ (@ps_set _ _ (2) _ _ _ _ sc_ftable_of.nd rfl (Or.inl rfl) (@pe_call _ _ _ _ _ _ _ _ _ _ _ _ _ _ _ _ gflines_of (hr.mono (by decide)) (by rfl) T.m_flines_of T.k_flines_of T.d_flines_of .nil pass0 (@pa_cons _ _ _ _ _ (@pv _ 0 _ _ rfl (Or.inl rfl) rfl rfl) (@pa_cons _ _ _ _ _ (@pv _ 1 _ _ rfl (Or.inl rfl) rfl rfl) (@pa_cons _ _ _ _ _ (@pe_str _ _ _ _) (@pa_nil _) (by rfl)) (by rfl)) (by rfl)) (by decide) (by rfl) (by rfl)) (by rfl) (by first | exact .inl rfl | exact .inr rfl)) (@pss_cons _ _ _ _ _ (@ps_set _ _ (3) _ _ _ _ sc_ftable_of.nd rfl (Or.inl rfl) (@pe_call _ _ _ _ _ _ _ _ _ _ _ _ _ _ _ _ gflines_of (hr.mono (by decide)) (by rfl) T.m_flines_of T.k_flines_of T.d_flines_of .nil pass0 (@pa_cons _ _ _ _ _ (@pv _ 0 _ _ rfl (Or.inl rfl) rfl rfl) (@pa_cons _ _ _ _ _ (@pv _ 1 _ _ rfl (Or.inl rfl) rfl rfl) (@pa_cons _ _ _ _ _ (@pe_str _ _ _ _) (@pa_nil _) (by rfl)) (by rfl)) (by rfl)) (by decide) (by rfl) (by rfl)) (by rfl) (by first | exact .inl rfl | exact .inr rfl)) (@pss_cons _ _ _ _ _ (@ps_set _ _ (4) _ _ _ _ sc_ftable_of.nd rfl (Or.inr rfl) (@pe_call _ _ _ _ _ _ _ _ _ _ _ _ _ _ _ _ gfwords_told (hr.mono (by decide)) (by rfl) T.m_fwords_told T.k_fwords_told T.d_fwords_told .nil pass0 (@pa_cons _ _ _ _ _ (@pv _ 0 _ _ rfl (Or.inl rfl) rfl rfl) (@pa_cons _ _ _ _ _ (@pv _ 1 _ _ rfl (Or.inl rfl) rfl rfl) (@pa_nil _) (by rfl)) (by rfl)) (by decide) (by rfl) (by rfl)) (by rfl) (by first | exact .inl rfl | exact .inr rfl)) (@pss_cons _ _ _ _ _ (@ps_set _ _ (5) _ _ _ _ sc_ftable_of.nd rfl (Or.inl rfl) (@pe_lstA _ _ _ _ (@pa_nil _)) (by rfl) (by first | exact .inl rfl | exact .inr rfl)) (@pss_cons _ _ _ _ _ (@ps_for _ _ _ _ _ _ _ _ PassesOwn.never rfl (@pi_list _ _ _ _ (@pv _ 2 _ _ rfl (Or.inl rfl) rfl rfl)) (@pg_name _ _ (6) _ sc_ftable_of.nd rfl (Or.inr rfl) (by first | exact .inl rfl | exact .inr rfl)) (@pss_one _ _ _ (@ps_expr _ _ _ _ (@pe_bm _ _ _ _ _ _ _ _ _ _ _ _ PySem.F.plainAttrs_list PySem.F.slot_list_append PySem.F.type_list_append mt_append (@pv _ 5 _ _ rfl (Or.inl rfl) rfl rfl) (@pa_cons _ _ _ _ _ (@pe_lcomp _ _ _ _ _ _ _ (["column"]) ([("told", 4), ("row", 6)]) _ _ _ _ _ rfl (@pi_list _ _ _ _ (@pv _ 3 _ _ rfl (Or.inl rfl) rfl rfl)) ⟨rfl, by decide +kernel, by decide +kernel⟩ (caps_def (defScope s_ftable_of) ["facts", "part", "rows", "columns", "told", "words", "row"] rfl rfl (fun _ h => cell_has h) (by decide +kernel) (by decide +kernel) (by decide +kernel)) (fun _ _ _ => (@pg_name _ _ (0) _ (by show List.Nodup (["column", "told", "row"] : List Str); decide +kernel) rfl (Or.inl rfl) (by first | exact .inl rfl | exact .inr rfl))) (fun _ => fresh_name rfl) (fun _ _ _ => (@pts_nil _)) (fun _ _ _ => (@pe_bmK _ (K) _ _ _ _ _ _ _ _ _ _ _ rfl PySem.F.plainAttrs_dict PySem.F.slot_dict_get PySem.F.type_dict_get (mt_get2G (hu2 hr)) (@pv _ 1 _ _ rfl (Or.inr (Or.inl rfl)) rfl rfl) (@pa_cons _ _ _ _ _ (@pe_tupA _ _ _ _ _ (@pa_cons _ _ _ _ _ (@pv _ 2 _ _ rfl (Or.inr (Or.inl rfl)) rfl rfl) (@pa_cons _ _ _ _ _ (@pv _ 0 _ _ rfl (Or.inl rfl) rfl rfl) (@pa_nil _) (by rfl)) (by rfl))) (@pa_cons _ _ _ _ _ (@pe_str _ _ _ _) (@pa_nil _) (by rfl)) (by rfl)) (by rfl) (by rfl) (by rfl) (by rfl) (by rfl))) (by intro _; rfl)) (@pa_nil _) (by rfl)) (by rfl) (by rfl) (by rfl) (by rfl) (by rfl)) (by rfl))) (by intro _; rfl)) (@pss_one _ _ _ (@ps_ret _ _ _ _ (@pe_tupA _ _ _ _ _ (@pa_cons _ _ _ _ _ (@pv _ 2 _ _ rfl (Or.inl rfl) rfl rfl) (@pa_cons _ _ _ _ _ (@pv _ 3 _ _ rfl (Or.inl rfl) rfl rfl) (@pa_cons _ _ _ _ _ (@pv _ 5 _ _ rfl (Or.inl rfl) rfl rfl) (@pa_nil _) (by rfl)) (by rfl)) (by rfl)))))))))), ?_⟩
  obtain ⟨fa, vp, pt, L, js, C, ms, rfl, tb, gvp, hlay, kk⟩ := h
  have WLn := (show WJ L js by obtain ⟨_, _, _, _, _, _, _, _, _, h, _⟩ := tb; exact h)
  refine ⟨_, rfl, _, rfl, fa, vp, pt, "row", L, js, rfl, tb.fl, gvp, hlay, fun H1 rp zr s1 g1 e1 ar => ?_⟩
  refine ⟨_, rfl, _, rfl, fa, vp, pt, "column", L, js, rfl, (tb.same s1).fl, gvp.tups s1.tups, hlay, fun H2 cp zc s2 g2 e2 ac => ?_⟩
  have s02 := s1.trans s2
  refine ⟨_, rfl, _, rfl, fa, vp, pt, L, js, C, ms, rfl, tb.same s02, gvp.tups s02.tups, hlay, fun H3 dq kvs s3 g3 e3 tell => ?_⟩
  have s03 := s02.trans s3
  have er3 := s3 _ _ (s2 _ _ e1)
  have ec3 := s3 _ _ e2
  have ar3 : AN (NM (nkL L) H3) zr (lived L js pt "row") := ar.imp fun v i g => g.tups (s2.trans s3).tups
  have ac3 : AN (NM (nkL L) H3) zc (lived L js pt "column") := ac.imp fun v i g => g.tups s3.tups
  have nrc : rp ≠ cp := ne_of_none e1 g2
  have hrl : zr.length ≤ 1300 := by rw [ar.1]; exact lived_len WLn
  have hcl : zc.length ≤ 1300 := by rw [ac.1]; exact lived_len WLn
  refine ⟨szOk rfl, fun wp H4 g4 s4 e4 => ?_⟩
  have nrw : rp ≠ wp := ne_of_none er3 g4
  have ncw : cp ≠ wp := ne_of_none ec3 g4
  refine ⟨_, rfl, rp, rfl, ⟨_, SqL.of (s4 _ _ er3)⟩, for_list (xs := zr) (fun j σ Z => ∃ (ws : List V) (u6 : Option V), σ = [some (.ref fa), some vp, some (.ref rp), some (.ref cp), some (.ref dq), some (.ref wp), u6] ∧ Same H3 Z ∧ Z wp = some (.lst ws) ∧ AN (WR L C ms pt (lived L js pt "column") H Z) ws ((lived L js pt "row").take j) ∧ ws.Nodup ∧ ∀ a, V.ref a ∈ ws → a ≠ rp ∧ a ≠ cp ∧ a ≠ wp)
    ⟨[], none, rfl, s4, e4, .nil, List.nodup_nil, fun a z => nomatch z⟩ (fun j σ Z _ ⟨_, _, _, sZ, _⟩ => SqL.of (sZ _ _ er3)) ?_ ?_⟩
  · rintro j x σ Z hx ⟨ws, u6, rfl, sZ, ew, aw, nd, ne⟩
    obtain ⟨r, er, nmr⟩ := ar3.at hx
    have hj : j < 1300 := by have := (List.getElem?_eq_some_iff.mp hx).1; omega
    have hwl : ws.length ≤ j := by rw [aw.1, List.length_take]; omega
    have tk : (lived L js pt "row").take (j + 1) = (lived L js pt "row").take j ++ [r] := by rw [List.take_add_one, er]; rfl
    refine ⟨_, rfl, .inl ⟨rfl, _, SqL.of ew⟩, _, rfl, cp, rfl, ⟨_, SqL.of (sZ _ _ ec3)⟩, lc_any (xs := zc) (big2 (by omega)) (fun j' ys Z' => Same Z Z' ∧ ys = ((lived L js pt "column").take j').map fun c => V.str (wAt C ms pt (nkL L r) (nkL L c))) ⟨Same.refl _, rfl⟩ (fun _ _ Z' s' => SqL.of (s'.1 _ _ (sZ _ _ ec3))) (fun j' y ys Z' K1 K0 hy s' k1 k0 => ?_) fun Z1 a ys s' hyl hqa => ?_⟩
    · obtain ⟨s', rfl⟩ := s'
      obtain ⟨c, ec, nmc⟩ := ac3.at hy
      have sZ' := sZ.trans s'
      obtain ⟨c1, rfl, hc1⟩ := nmr.tups sZ'.tups
      obtain ⟨c2, rfl, hc2⟩ := nmc.tups sZ'.tups
      refine iteT (B := K0 Z') ?_
      refine ⟨_, rfl, .inr (.inr (.inl ⟨rfl, .inr (.inr ⟨kvs, sZ' _ _ e3⟩)⟩)), _, rfl, _, rfl, szOk rfl, fun tq Z2 g2' s2' e2' => ?_⟩
      refine ⟨dq, kvs, .two (nkL L r) (nkL L c), .ref tq, .str "", rfl, rfl, s2' _ _ (sZ' _ _ e3), ⟨tq, c1, c2, rfl, e2', s2' _ _ hc1, s2' _ _ hc2⟩, ?_⟩
      rw [show (vG kvs (.two (nkL L r) (nkL L c))).getD (V.str "") = .str (wAt C ms pt (nkL L r) (nkL L c)) from tell _ _]
      refine k1 _ _ ⟨s'.trans s2', ?_⟩
      rw [List.take_add_one, ec, List.map_append]
      rfl
    obtain ⟨s', rfl⟩ := s'
    rw [show zc.length = (lived L js pt "column").length from ac.1, List.take_length]
    have nZ : Same Z1 (upd Z1 a (.lst ((lived L js pt "column").map fun c => V.str (wAt C ms pt (nkL L r) (nkL L c))))) := Same.new hqa
    have ea : (upd Z1 a (.lst ((lived L js pt "column").map fun c => V.str (wAt C ms pt (nkL L r) (nkL L c))))) a = some (.lst (rowW L C ms pt (lived L js pt "column") r)) := upd_same
    have s'' := s'.trans nZ
    have fa' : Z a = none := s'.free hqa
    generalize upd Z1 a (.lst ((lived L js pt "column").map fun c => V.str (wAt C ms pt (nkL L r) (nkL L c)))) = Z2 at nZ ea s''
    refine ⟨wp, _, _, rfl, rfl, s'' _ _ ew, small2000 (by omega), ?_⟩
    have naw : a ≠ wp := (ne_of_none ew fa').symm
    refine ⟨ws ++ [.ref a], _, rfl, (sZ.trans s'').wr g4, upd_same, ?_, ?_, fun b hb => ?_⟩
    · rw [tk]
      refine AN.snoc (an_impM2 aw fun v i hv g => ?_) ⟨a, rfl, (s03.trans sZ).free fa', by rw [upd_ne naw]; exact ea⟩
      obtain ⟨b, rfl, h1, h2⟩ := g
      exact ⟨b, rfl, h1, by rw [upd_ne (ne b hv).2.2]; exact s'' _ _ h2⟩
    · refine List.nodup_append.mpr ⟨nd, by simp, fun x hx y hy z => ?_⟩
      rw [List.mem_singleton.mp hy] at z
      subst z
      obtain ⟨i, _, b, e, _, h2⟩ := aw.mem hx
      cases e
      rw [fa'] at h2
      cases h2
    · rcases List.mem_append.mp hb with z | z
      · exact ne b z
      · cases List.mem_singleton.mp z
        exact ⟨(ne_of_none (sZ _ _ er3) fa').symm, (ne_of_none (sZ _ _ ec3) fa').symm, naw⟩
  · rintro σ Z ⟨ws, u6, rfl, sZ, ew, aw, nd, ne⟩
    rw [show zr.length = (lived L js pt "row").length from ar.1, List.take_length] at aw
    refine ⟨_, rfl, _, rfl, _, rfl, szOk rfl, fun q H9 g9 s9 e9 => ?_⟩
    have s39 := sZ.trans s9
    exact kk H9 q (s03.trans s39) ((s03.trans sZ).free g9) ⟨q, rp, cp, wp, zr, zc, ws, rfl, e9, ⟨g1, s1.free g2, s03.free g4⟩, s39 _ _ er3, s39 _ _ ec3, s9 _ _ ew, ar3.imp (fun v i g => g.tups s39.tups), ac3.imp (fun v i g => g.tups s39.tups), aw.imp fun v i g => g.same s9⟩
theorem ok_flaw (T : Txt K mg d tk) (gf_law_bare : FnOk P w K mg base CX0 1 d.f_law_bare d.f_law_bared [] (sp_f_law_bare K)) (gf_law_cell_at : FnOk P w K mg base CX0 1 d.f_law_cell_at d.f_law_cell_atd ["_law_script", "_law_k"] (sp_f_law_cell_at K)) (gf_law_cell_right : FnOk P w K mg base CX0 1 d.f_law_cell_right d.f_law_cell_rightd ["_law_ahead", "_law_behind", "_law_told"] (sp_f_law_cell_right K)) (gf_law_line_right : FnOk P w K mg base CX0 2 d.f_law_line_right d.f_law_line_rightd ["_law_ahead", "_law_behind", "_law_told"] (sp_f_law_line_right K)) (gf_law_pool : FnOk P w K mg base CX0 1 d.f_law_pool d.f_law_poold ["_law_cell"] (sp_f_law_pool K)) (gf_law_put : FnOk P w K mg base CX0 2 d.f_law_put d.f_law_putd ["_law_facts", "_law_pool_here", "_law_k"] (sp_f_law_put K)) (gftable_of : FnOk P w K mg base CX0 6 d.ftable_of d.ftable_ofd ["facts", "part"] (sp_ftable_of K)) : FnOk P w K mg base CX0 7 d.flaw d.flawd ["_law_script"] (sp_flaw K) := by
  refine T.F_flaw.ok sc_flaw (fun vs H Q E h => len_flaw h) (fun cdv A outer s H vs Q E hr h => ?_)
  have hu : (A.deeper (envOfC "law" (defScope s_flaw) s.heap.objs.size d.flaw cdv)).units < cLine := hr.units0
  have hu1 : (A.deeper (envOfC "law" (defScope s_flaw) s.heap.objs.size d.flaw cdv)).units + 1 < cLine := hu_of hr
  refine ⟨_, (@pss_cons _ _ _ _ _ (@ps_set _ _ (1) _ _ _ _ sc_flaw.nd rfl (Or.inr rfl) (@pe_call0 _ _ _ _ _ _ _ _ _ _ _ _ _ gf_law_bare (hr.mono (by decide)) (by rfl) T.m_f_law_bare T.k_f_law_bare T.d_f_law_bare .nil pass0 (by decide)) (by rfl) (by first | exact .inl rfl | exact .inr rfl)) (@pss_cons _ _ _ _ _ (@ps_set _ _ (2) _ _ _ _ sc_flaw.nd rfl (Or.inl rfl) (@pe_lstA _ _ _ _ (@pa_cons _ _ _ _ _ (@pe_tupA _ _ _ _ _ (@pa_cons _ _ _ _ _ (@pe_str _ _ _ _) (@pa_cons _ _ _ _ _ (@pe_int _ _ _ _) (@pa_nil _) (by rfl)) (by rfl))) (@pa_cons _ _ _ _ _ (@pe_tupA _ _ _ _ _ (@pa_cons _ _ _ _ _ (@pe_str _ _ _ _) (@pa_cons _ _ _ _ _ (@pe_int _ _ _ _) (@pa_nil _) (by rfl)) (by rfl))) (@pa_cons _ _ _ _ _ (@pe_tupA _ _ _ _ _ (@pa_cons _ _ _ _ _ (@pe_str _ _ _ _) (@pa_cons _ _ _ _ _ (@pe_int _ _ _ _) (@pa_nil _) (by rfl)) (by rfl))) (@pa_cons _ _ _ _ _ (@pe_tupA _ _ _ _ _ (@pa_cons _ _ _ _ _ (@pe_str _ _ _ _) (@pa_cons _ _ _ _ _ (@pe_int _ _ _ _) (@pa_nil _) (by rfl)) (by rfl))) (@pa_nil _) (by rfl)) (by rfl)) (by rfl)) (by rfl))) (by rfl) (by first | exact .inl rfl | exact .inr rfl)) (@pss_cons _ _ _ _ _ (@ps_setC _ (3) _ _ _ _ _ _ _ _ _ (["_law_part"]) ([("_law_facts", 1)]) _ _ _ _ _ sc_flaw.nd rfl (Or.inl rfl) rfl (@pi_list _ _ _ _ (@pv _ 2 _ _ rfl (Or.inl rfl) rfl rfl)) ⟨rfl, by decide +kernel, by decide +kernel⟩ (caps_def (defScope s_flaw) ["_law_script", "_law_facts", "_law_parts", "_law_tables", "_law_k", "_law_many", "_law_told", "_law_behind", "_law_place"] rfl rfl (fun _ h => cell_has h) (by decide +kernel) (by decide +kernel) (by decide +kernel)) (fun _ _ _ => (@pg_name _ _ (0) _ (by show List.Nodup (["_law_part", "_law_facts"] : List Str); decide +kernel) rfl (Or.inl rfl) (by first | exact .inl rfl | exact .inr rfl))) (fun _ => fresh_name rfl) (fun _ _ _ => (@pts_nil _)) (fun _ _ _ => (@pe_call _ _ _ _ _ _ _ _ _ _ _ _ _ _ _ _ gftable_of (hr.mono (by decide)) (by rfl) T.m_ftable_of T.k_ftable_of T.d_ftable_of .nil pass0 (@pa_cons _ _ _ _ _ (@pv _ 1 _ _ rfl (Or.inr (Or.inl rfl)) rfl rfl) (@pa_cons _ _ _ _ _ (@pv _ 0 _ _ rfl (Or.inl rfl) rfl rfl) (@pa_nil _) (by rfl)) (by rfl)) (by decide) (by rfl) (by rfl))) (by intro _; rfl) (by rfl) (by first | exact .inl rfl | exact .inr rfl)) (@pss_cut _ _ _ _ _ (@ps_if _ _ _ _ _ _ _ _ (@pt_cmpR _ _ _ _ _ _ _ _ (op_neD (hu64 hr)) (@pv _ 3 _ _ rfl (Or.inl rfl) rfl rfl) (@pe_op _ _ _ _ _ _ _ _ op_repA (@pe_lstA _ _ _ _ (@pa_cons _ _ _ _ _ (@pe_tupA _ _ _ _ _ (@pa_cons _ _ _ _ _ (@pe_lstA _ _ _ _ (@pa_nil _)) (@pa_cons _ _ _ _ _ (@pe_lstA _ _ _ _ (@pa_nil _)) (@pa_cons _ _ _ _ _ (@pe_lstA _ _ _ _ (@pa_nil _)) (@pa_nil _) (by rfl)) (by rfl)) (by rfl))) (@pa_nil _) (by rfl))) (@pe_int _ _ _ _)) (nomark _)) (@pss_one _ _ _ (@ps_ret _ _ _ _ (@pe_bl _ _ _ _))) (@pss_nil _)) (@pss_cons _ _ _ _ _ (@ps_for _ _ _ _ _ _ _ _ PassesOwn.never rfl (@pi_range2 _ _ _ _ _ _ _ (by rfl) T.b_range (@pa_cons _ _ _ _ _ (@pe_int _ _ _ _) (@pa_cons _ _ _ _ _ (@pe_callB _ _ _ _ _ _ _ _ _ (call_max2 rfl) (by rfl) T.b_max boot_max (@pa_cons _ _ _ _ _ (@pe_int _ _ _ _) (@pa_cons _ _ _ _ _ (@pe_callB _ _ _ _ _ _ _ _ _ (call_min2 rfl) (by rfl) T.b_min boot_min (@pa_cons _ _ _ _ _ (@pe_callB _ _ _ _ _ _ _ _ _ call_len_seq (by rfl) T.b_len boot_len (@pa_cons _ _ _ _ _ (@pv _ 0 _ _ rfl (Or.inl rfl) rfl rfl) (@pa_nil _) (by rfl)) (by decide) (by decide) (by rfl) (by rfl)) (@pa_cons _ _ _ _ _ (@pe_int _ _ _ _) (@pa_nil _) (by rfl)) (by rfl)) (by decide) (by decide) (by rfl) (by rfl)) (@pa_nil _) (by rfl)) (by rfl)) (by decide) (by decide) (by rfl) (by rfl)) (@pa_nil _) (by rfl)) (by rfl)) (by rfl) (by rfl)) (@pg_name _ _ (4) _ sc_flaw.nd rfl (Or.inl rfl) (by first | exact .inl rfl | exact .inr rfl)) (@pss_cons _ _ _ _ _ (@ps_set _ _ (5) _ _ _ _ sc_flaw.nd rfl (Or.inl rfl) (@pe_callB _ _ _ _ _ _ _ _ _ call_len_seq (by rfl) T.b_len boot_len (@pa_cons _ _ _ _ _ (@pe_dget _ _ _ _ _ _ hu1 (@pv _ 1 _ _ rfl (Or.inr (Or.inl rfl)) rfl rfl) (@pe_str _ _ _ _) (fun _ _ => rfl)) (@pa_nil _) (by rfl)) (by decide) (by decide) (by rfl) (by rfl)) (by rfl) (by first | exact .inl rfl | exact .inr rfl)) (@pss_cons _ _ _ _ _ (@ps_expr _ _ _ _ (@pe_call _ _ _ _ _ _ _ _ _ _ _ _ _ _ _ _ gf_law_put (hr.mono (by decide)) (by rfl) T.m_f_law_put T.k_f_law_put T.d_f_law_put .nil pass0 (@pa_cons _ _ _ _ _ (@pv _ 1 _ _ rfl (Or.inr (Or.inl rfl)) rfl rfl) (@pa_cons _ _ _ _ _ (@pe_call _ _ _ _ _ _ _ _ _ _ _ _ _ _ _ _ gf_law_pool (hr.mono (by decide)) (by rfl) T.m_f_law_pool T.k_f_law_pool T.d_f_law_pool .nil pass0 (@pa_cons _ _ _ _ _ (@pe_call _ _ _ _ _ _ _ _ _ _ _ _ _ _ _ _ gf_law_cell_at (hr.mono (by decide)) (by rfl) T.m_f_law_cell_at T.k_f_law_cell_at T.d_f_law_cell_at .nil pass0 (@pa_cons _ _ _ _ _ (@pv _ 0 _ _ rfl (Or.inl rfl) rfl rfl) (@pa_cons _ _ _ _ _ (@pv _ 4 _ _ rfl (Or.inl rfl) rfl rfl) (@pa_nil _) (by rfl)) (by rfl)) (by decide) (by rfl) (by rfl)) (@pa_nil _) (by rfl)) (by decide) (by rfl) (by rfl)) (@pa_cons _ _ _ _ _ (@pv _ 4 _ _ rfl (Or.inl rfl) rfl rfl) (@pa_nil _) (by rfl)) (by rfl)) (by rfl)) (by decide) (by rfl) (by rfl)) (by rfl)) (@pss_cons _ _ _ _ _ (@ps_set _ _ (6) _ _ _ _ sc_flaw.nd rfl (Or.inl rfl) (@pe_slice _ _ _ _ _ _ _ _ _ _ sl_listA (@pe_dget _ _ _ _ _ _ hu1 (@pv _ 1 _ _ rfl (Or.inr (Or.inl rfl)) rfl rfl) (@pe_str _ _ _ _) (fun _ _ => rfl)) (@po_some _ _ _ (@pe_un _ _ _ _ _ _ un_neg (@pe_int _ _ _ _))) (@po_none _)) (by rfl) (by first | exact .inl rfl | exact .inr rfl)) (@pss_cut _ _ _ _ _ (@ps_if _ _ _ _ _ _ _ _ (@pt_cmpR _ _ _ _ _ _ _ _ op_gt (@pe_callB _ _ _ _ _ _ _ _ _ call_len_seq (by rfl) T.b_len boot_len (@pa_cons _ _ _ _ _ (@pe_dget _ _ _ _ _ _ hu1 (@pv _ 1 _ _ rfl (Or.inr (Or.inl rfl)) rfl rfl) (@pe_str _ _ _ _) (fun _ _ => rfl)) (@pa_nil _) (by rfl)) (by decide) (by decide) (by rfl) (by rfl)) (@pv _ 5 _ _ rfl (Or.inl rfl) rfl rfl) (nomark _)) (@pss_one _ _ _ (@ps_set _ _ (6) _ _ _ _ sc_flaw.nd rfl (Or.inl rfl) (@pe_slice _ _ _ _ _ _ _ _ _ _ sl_listA (@pe_dget _ _ _ _ _ _ hu1 (@pv _ 1 _ _ rfl (Or.inr (Or.inl rfl)) rfl rfl) (@pe_str _ _ _ _) (fun _ _ => rfl)) (@po_some _ _ _ (@pe_un _ _ _ _ _ _ un_neg (@pe_int _ _ _ _))) (@po_none _)) (by rfl) (by first | exact .inl rfl | exact .inr rfl))) (@pss_nil _)) (@pss_cons _ _ _ _ _ (@ps_setC _ (7) _ _ _ _ _ _ _ _ _ (["_law_part"]) ([("_law_facts", 1)]) _ _ _ _ _ sc_flaw.nd rfl (Or.inl rfl) rfl (@pi_list _ _ _ _ (@pv _ 2 _ _ rfl (Or.inl rfl) rfl rfl)) ⟨rfl, by decide +kernel, by decide +kernel⟩ (caps_def (defScope s_flaw) ["_law_script", "_law_facts", "_law_parts", "_law_tables", "_law_k", "_law_many", "_law_told", "_law_behind", "_law_place"] rfl rfl (fun _ h => cell_has h) (by decide +kernel) (by decide +kernel) (by decide +kernel)) (fun _ _ _ => (@pg_name _ _ (0) _ (by show List.Nodup (["_law_part", "_law_facts"] : List Str); decide +kernel) rfl (Or.inl rfl) (by first | exact .inl rfl | exact .inr rfl))) (fun _ => fresh_name rfl) (fun _ _ _ => (@pts_nil _)) (fun _ _ _ => (@pe_call _ _ _ _ _ _ _ _ _ _ _ _ _ _ _ _ gftable_of (hr.mono (by decide)) (by rfl) T.m_ftable_of T.k_ftable_of T.d_ftable_of .nil pass0 (@pa_cons _ _ _ _ _ (@pv _ 1 _ _ rfl (Or.inr (Or.inl rfl)) rfl rfl) (@pa_cons _ _ _ _ _ (@pv _ 0 _ _ rfl (Or.inl rfl) rfl rfl) (@pa_nil _) (by rfl)) (by rfl)) (by decide) (by rfl) (by rfl))) (by intro _; rfl) (by rfl) (by first | exact .inl rfl | exact .inr rfl)) (@pss_cons _ _ _ _ _ (@ps_for _ _ _ _ _ _ _ _ PassesOwn.never rfl (@pi_range1 _ _ _ _ _ _ (by rfl) T.b_range (@pa_cons _ _ _ _ _ (@pe_int _ _ _ _) (@pa_nil _) (by rfl)) (by rfl)) (@pg_name _ _ (8) _ sc_flaw.nd rfl (Or.inl rfl) (by first | exact .inl rfl | exact .inr rfl)) (@pss_one _ _ _ (@ps_if _ _ _ _ _ _ _ _ (@pt_cmpR _ _ _ _ _ _ _ _ (op_neD (hu64 hr)) (@pe_ix _ _ _ _ _ _ _ ix_list (@pv _ 2 _ _ rfl (Or.inl rfl) rfl rfl) (@pv _ 8 _ _ rfl (Or.inl rfl) rfl rfl) (fun _ _ => rfl)) (@pe_ix _ _ _ _ _ _ _ ix_tup (@pe_ix _ _ _ _ _ _ _ ix_list (@pv _ 6 _ _ rfl (Or.inl rfl) rfl rfl) (@pe_int _ _ _ _) (fun _ _ => rfl)) (@pe_int _ _ _ _) (fun _ _ => rfl)) (nomark _)) (@pss_one _ _ _ (@ps_if _ _ _ _ _ _ _ _ (@pt_cmpR _ _ _ _ _ _ _ _ (op_neD (hu64 hr)) (@pe_ix _ _ _ _ _ _ _ ix_list (@pv _ 7 _ _ rfl (Or.inl rfl) rfl rfl) (@pv _ 8 _ _ rfl (Or.inl rfl) rfl rfl) (fun _ _ => rfl)) (@pe_ix _ _ _ _ _ _ _ ix_list (@pv _ 3 _ _ rfl (Or.inl rfl) rfl rfl) (@pv _ 8 _ _ rfl (Or.inl rfl) rfl rfl) (fun _ _ => rfl)) (nomark _)) (@pss_one _ _ _ (@ps_ret _ _ _ _ (@pe_bl _ _ _ _))) (@pss_nil _))) (@pss_one _ _ _ (@ps_if _ _ _ _ _ _ _ _ (@pt_post _ _ _ (@PW.pt _ _ _ (@pw_and _ _ _ _ _ _ _ (@pt_cmpR _ _ _ _ _ _ _ _ op_eq (@pe_callB _ _ _ _ _ _ _ _ _ call_len_seq (by rfl) T.b_len boot_len (@pa_cons _ _ _ _ _ (@pe_ix _ _ _ _ _ _ _ ix_list (@pv _ 6 _ _ rfl (Or.inl rfl) rfl rfl) (@pe_int _ _ _ _) (fun _ _ => rfl)) (@pa_nil _) (by rfl)) (by decide) (by decide) (by rfl) (by rfl)) (@pe_int _ _ _ _) (nomark _)) (@pw_and1 _ _ _ _ (@pt_not _ _ _ _ (@pt_val _ _ _ (@pe_call _ _ _ _ _ _ _ _ _ _ _ _ _ _ _ _ gf_law_line_right (hr.mono (by decide)) (by rfl) T.m_f_law_line_right T.k_f_law_line_right T.d_f_law_line_right .nil pass0 (@pa_cons _ _ _ _ _ (@pe_ix _ _ _ _ _ _ _ ix_list (@pv _ 3 _ _ rfl (Or.inl rfl) rfl rfl) (@pv _ 8 _ _ rfl (Or.inl rfl) rfl rfl) (fun _ _ => rfl)) (@pa_cons _ _ _ _ _ (@pe_ix _ _ _ _ _ _ _ ix_list (@pv _ 7 _ _ rfl (Or.inl rfl) rfl rfl) (@pv _ 8 _ _ rfl (Or.inl rfl) rfl rfl) (fun _ _ => rfl)) (@pa_cons _ _ _ _ _ (@pe_ix _ _ _ _ _ _ _ ix_list (@pv _ 6 _ _ rfl (Or.inl rfl) rfl rfl) (@pe_int _ _ _ _) (fun _ _ => rfl)) (@pa_nil _) (by rfl)) (by rfl)) (by rfl)) (by decide) (by rfl) (by rfl)) (by intro _; rfl))))))) (@pss_one _ _ _ (@ps_ret _ _ _ _ (@pe_bl _ _ _ _))) (@pss_one _ _ _ (@ps_if _ _ _ _ _ _ _ _ (@pt_post _ _ _ (@PW.pt _ _ _ (@pw_and _ _ _ _ _ _ _ (@pt_cmpR _ _ _ _ _ _ _ _ op_eq (@pe_callB _ _ _ _ _ _ _ _ _ call_len_seq (by rfl) T.b_len boot_len (@pa_cons _ _ _ _ _ (@pe_ix _ _ _ _ _ _ _ ix_list (@pv _ 6 _ _ rfl (Or.inl rfl) rfl rfl) (@pe_int _ _ _ _) (fun _ _ => rfl)) (@pa_nil _) (by rfl)) (by decide) (by decide) (by rfl) (by rfl)) (@pe_int _ _ _ _) (nomark _)) (@pw_and1 _ _ _ _ (@pt_not _ _ _ _ (@pt_val _ _ _ (@pe_call _ _ _ _ _ _ _ _ _ _ _ _ _ _ _ _ gf_law_cell_right (hr.mono (by decide)) (by rfl) T.m_f_law_cell_right T.k_f_law_cell_right T.d_f_law_cell_right .nil pass0 (@pa_cons _ _ _ _ _ (@pe_ix _ _ _ _ _ _ _ ix_list (@pv _ 3 _ _ rfl (Or.inl rfl) rfl rfl) (@pv _ 8 _ _ rfl (Or.inl rfl) rfl rfl) (fun _ _ => rfl)) (@pa_cons _ _ _ _ _ (@pe_ix _ _ _ _ _ _ _ ix_list (@pv _ 7 _ _ rfl (Or.inl rfl) rfl rfl) (@pv _ 8 _ _ rfl (Or.inl rfl) rfl rfl) (fun _ _ => rfl)) (@pa_cons _ _ _ _ _ (@pe_ix _ _ _ _ _ _ _ ix_list (@pv _ 6 _ _ rfl (Or.inl rfl) rfl rfl) (@pe_int _ _ _ _) (fun _ _ => rfl)) (@pa_nil _) (by rfl)) (by rfl)) (by rfl)) (by decide) (by rfl) (by rfl)) (by intro _; rfl))))))) (@pss_one _ _ _ (@ps_ret _ _ _ _ (@pe_bl _ _ _ _))) (@pss_nil _))))))) (by intro _; rfl)) (@pss_one _ _ _ (@ps_set _ _ (3) _ _ _ _ sc_flaw.nd rfl (Or.inl rfl) (@pv _ 7 _ _ rfl (Or.inl rfl) rfl rfl) (by rfl) (by first | exact .inl rfl | exact .inr rfl))))))))) (by intro _; rfl)) (@pss_one _ _ _ (@ps_ret _ _ _ _ (@pe_bl _ _ _ _)))))))), ?_⟩
  obtain ⟨sp, ns, rfl, hs, hl, kk⟩ := h
  refine ⟨rfl, fun H1 fa F s1 g1 gF e1 inj eF => ?_⟩
  have ffa : H fa = none := g1
  have fF : ∀ i, i < 9 → H (F i) = none := gF
  have fp1 : FP H1 fa F (fun _ => ⟨[], "row", [], none, 0, 0, true⟩) 0 (fun _ => ⟨[], [], [], "", 0, 0⟩) 0 1 [] [] :=
    ⟨⟨.inl e1, inj, fun i hi _ _ => eF i hi⟩, eF 6 (by decide), .nil, ⟨by decide, fun i j _ z => absurd z (Nat.not_lt_zero j), fun i z => absurd z (Nat.not_lt_zero i), fun i z => absurd z (Nat.not_lt_zero i), fun i z => absurd z (Nat.not_lt_zero i)⟩, eF 7 (by decide), .nil, ⟨by decide, fun i j _ z => absurd z (Nat.not_lt_zero j), fun i z => absurd z (Nat.not_lt_zero i), fun i z => absurd z (Nat.not_lt_zero i)⟩, fun i z => absurd z (Nat.not_lt_zero i), fun i z => absurd z (Nat.not_lt_zero i), fun i z => absurd z (Nat.not_lt_zero i), fun i z => absurd z (Nat.not_lt_zero i), fun i z => absurd z (Nat.not_lt_zero i), Nat.lt_succ_self 0, Nat.lt_succ_self 0⟩
  have hsl : (List.map V.int ns).length ≤ 63 := by rw [List.length_map]; exact hl
  refine ⟨szOk rfl, fun t1 Ha ga sa ea => ?_⟩
  refine ⟨szOk rfl, fun t2 Hb gb sb eb => ?_⟩
  refine ⟨szOk rfl, fun t3 Hc gc sc ec => ?_⟩
  refine ⟨szOk rfl, fun t4 Hd gd sd ed => ?_⟩
  refine ⟨szOk rfl, fun lp Hq gp sp' elp => ?_⟩
  have s1q : Same H1 Hq := (((sa.trans sb).trans sc).trans sd).trans sp'
  have parts : ∀ (c : Nat) v pt, [V.ref t1, .ref t2, .ref t3, .ref t4][c]? = some v → ptL[c]? = some pt → GK Hq (.tup pt) v := fun c v pt q1 q2 => by
    match c, q1, q2 with
    | 0, q1, q2 => cases q1; cases q2; exact ⟨t1, rfl, sp' _ _ (sd _ _ (sc _ _ (sb _ _ ea)))⟩
    | 1, q1, q2 => cases q1; cases q2; exact ⟨t2, rfl, sp' _ _ (sd _ _ (sc _ _ eb))⟩
    | 2, q1, q2 => cases q1; cases q2; exact ⟨t3, rfl, sp' _ _ (sd _ _ ec)⟩
    | 3, q1, q2 => cases q1; cases q2; exact ⟨t4, rfl, sp' _ _ ed⟩
  have fpq := fp1.same s1q
  have efq := s1q _ _ e1
  have sHq := s1.trans s1q
  have n6 : lp ≠ F 6 := (ne_of_none (((((sa.trans sb).trans sc).trans sd)) _ _ fp1.li) gp).symm
  have n7 : lp ≠ F 7 := (ne_of_none (((((sa.trans sb).trans sc).trans sd)) _ _ fp1.ce) gp).symm
  clear fp1 e1 s1q sa sb sc sd sp' ea eb ec ed ga gb gc gd s1
  have sfw : ∀ {Z X : Hp} {L : Nat → Ln} {n : Nat} {C : Nat → Ce} {m k : Nat} {vs cs : List V} {a : Addr}, FP Z fa F L n C m k vs cs → Z a = none → a ≠ F 6 ∧ a ≠ F 7 := fun f g => ⟨(ne_of_none f.li g).symm, (ne_of_none f.ce g).symm⟩
  refine ⟨_, rfl, lp, rfl, ⟨_, SqL.of elp⟩, lc_any (xs := [V.ref t1, .ref t2, .ref t3, .ref t4]) (szOk rfl) (fun j us X => Same Hq X ∧ us.length = j ∧ ∀ (c : Nat) v pt, us[c]? = some v → ptL[c]? = some pt → TW (fun _ => ⟨[], "row", [], none, 0, 0, true⟩) (List.range 0) (fun _ => ⟨[], [], [], "", 0, 0⟩) (List.range 0) pt (fun a => a ≠ F 6 ∧ a ≠ F 7) X v) ⟨Same.refl _, rfl, fun c v pt z => by cases z⟩ (fun _ _ X s' => SqL.of (s'.1 _ _ elp)) (fun j x us X K1 K0 hx s' k1 k0 => ?_) fun X tq us s' hu hqu => ?_⟩
  · obtain ⟨sX, hul, hus⟩ := s'
    have hj : j < 4 := (List.getElem?_eq_some_iff.mp hx).1
    obtain ⟨pt, hpt⟩ : ∃ pt, ptL[j]? = some pt := ⟨ptL[j]'hj, List.getElem?_eq_getElem _⟩
    refine iteT (B := K0 X) ?_
    refine ⟨_, rfl, _, rfl, fa, x, pt, _, List.range 0, _, List.range 0, rfl, (fpq.same sX).tb, (parts j x pt hx hpt).tups sX.tups, ptL_lay hpt, fun X1 q s1 g1 tw => k1 _ _ ⟨sX.trans s1, by rw [List.length_append, hul]; rfl, fun c v pt' q1 q2 => ?_⟩⟩
    by_cases hc : c < us.length
    · rw [List.getElem?_append_left hc] at q1
      exact (hus c v pt' q1 q2).same s1
    · have hcj : c = j := by
        have := (List.getElem?_eq_some_iff.mp q1).1
        rw [List.length_append, List.length_singleton] at this
        omega
      subst hcj
      rw [List.getElem?_append_right (by omega), hul, Nat.sub_self] at q1
      cases q1
      rw [hpt] at q2
      cases q2
      exact tw.to (fun _ _ e => e) (fun _ _ _ e => e) fun a o z _ => sfw (Z := X) (X := X) (fpq.same sX) z
  obtain ⟨sX, hul, hus⟩ := s'
  have n1 : Same X (upd X tq (.lst us)) := Same.new hqu
  have eT : (upd X tq (.lst us)) tq = some (.lst us) := upd_same
  have sq1 := sX.trans n1
  have tq0 : TQ _ 0 _ 0 (fun a => a ≠ F 6 ∧ a ≠ F 7) (upd X tq (.lst us)) us := ⟨hul, fun c v pt e1 e2 => (hus c v pt e1 e2).same n1⟩
  have ntq := sfw (Z := X) (X := X) (fpq.same sX) hqu
  generalize upd X tq (.lst us) = X1 at eT sq1 tq0
  clear n1 hus hqu sX
  refine ⟨fun σ' Y => σ' = [some (.ref sp), some (.ref fa), some (.ref lp), some (.ref tq), none, none, none, none, none] ∧ Same X1 Y, ?_, ?_⟩
  · refine ⟨_, rfl, szOk rfl, fun a1 Y1 g1 s1 e1 => ⟨szOk rfl, fun a2 Y2 g2 s2 e2 => ⟨szOk rfl, fun a3 Y3 g3 s3 e3 => ⟨szOk rfl, fun a4 Y4 g4 s4 e4 => ⟨szOk rfl, fun a5 Y5 g5 s5 e5 => ⟨a5, 4, _, rfl, rfl, e5, by decide, by decide, szOk rfl, fun a6 Y6 g6 s6 e6 => ?_⟩⟩⟩⟩⟩⟩
    have s56 := s5.trans s6
    have s46 := s4.trans s56
    have s36 := s3.trans s46
    have s26 := s2.trans s36
    have s16 := s1.trans s26
    have dE : DV K Y6 (.ref a4) (.tuple [.list [], .list [], .list []]) := .tup (SqT.of (s56 _ _ e4)) (.cons (.lst (SqL.of (s26 _ _ e1)) .nil) (.cons (.lst (SqL.of (s36 _ _ e2)) .nil) (.cons (.lst (SqL.of (s46 _ _ e3)) .nil) .nil)))
    obtain ⟨v0, v1, v2, v3, rfl⟩ := four tq0.len
    have tq6 := tq0.same s16
    refine ⟨.list (List.replicate 4 (.tuple [.list [], .list [], .list []])), .list (List.replicate 4 (.tuple [.list [], .list [], .list []])), .lst (SqL.of (s16 _ _ eT)) (.cons (tq6.all 0 v0 _ rfl rfl).dv (.cons (tq6.all 1 v1 _ rfl rfl).dv (.cons (tq6.all 2 v2 _ rfl rfl).dv (.cons (tq6.all 3 v3 _ rfl rfl).dv .nil)))), .lst (SqL.of e6) (.cons dE (.cons dE (.cons dE (.cons dE .nil)))), rfl, rfl, by decide, _, rfl, itF rfl ⟨rfl, s16⟩⟩
  rintro σ' Y ⟨rfl, sY⟩
  have sqY := sq1.trans sY
  have eTY := sY _ _ eT
  have tqY := tq0.same sY
  have fpY := fpq.same sqY
  have sHY := sHq.trans sqY
  have efY := sqY _ _ efq
  have elY := sqY _ _ elp
  have partsY : ∀ (c : Nat) v pt, [V.ref t1, .ref t2, .ref t3, .ref t4][c]? = some v → ptL[c]? = some pt → GK Y (.tup pt) v := fun c v pt q1 q2 => (parts c v pt q1 q2).tups sqY.tups
  clear parts elp efq sHq fpq tq0 eT sq1 sqY sY
  refine ⟨_, rfl, sp, _, rfl, .inl (hs.same sHY), _, _, rfl, _, _, rfl, _, _, rfl, ?_, ?_⟩
  · split <;> (try split) <;> omega
  have hN : ((if (if (41 : Int) < ((List.map V.int ns).length : Nat) then (41 : Int) else ((List.map V.int ns).length : Nat)) > 2 then (if (41 : Int) < ((List.map V.int ns).length : Nat) then (41 : Int) else ((List.map V.int ns).length : Nat)) else 2) - 1 : Int).toNat ≤ 40 := by
    split <;> (try split) <;> omega
  refine for_range (lo := 1) (fun j σ Z => ∃ (L : Nat → Ln) (n : Nat) (C : Nat → Ce) (mc : Nat) (vs cs us : List V) (tq : Addr) (u4 u5 u6 u7 u8 : Option V), σ = [some (.ref sp), some (.ref fa), some (.ref lp), some (.ref tq), u4, u5, u6, u7, u8] ∧ Same H Z ∧ Tups Y Z ∧ Z fa = some (.dK (fkv F 9)) ∧ Z lp = some (.lst [V.ref t1, .ref t2, .ref t3, .ref t4]) ∧ FP Z fa F L n C mc (j + 1) vs cs ∧ Z tq = some (.lst us) ∧ (tq ≠ F 6 ∧ tq ≠ F 7) ∧ TQ L n C mc (fun a => a ≠ F 6 ∧ a ≠ F 7) Z us) ⟨_, 0, _, 0, [], [], us, tq, none, none, none, none, none, rfl, sHY, (fun _ _ e => e), efY, elY, fpY, eTY, ntq, tqY⟩ ?_ ?_
  · rintro j σ Z hj ⟨L, n, C, mc, vs, cs, us, tq, u4, u5, u6, u7, u8, rfl, sZ, tZ, efa, elp, fp, etq, ntq, tqs⟩
    have hj : j < 40 := Nat.lt_of_lt_of_le hj hN
    refine ⟨_, rfl, fa, .ref (F 7), rfl, .inl ⟨fkv F 9, .inr "cells", fp.fa.dk, rfl, (fkv_at F 7 (by decide)).symm⟩, F 7, cs, rfl, .inl (SqL.of fp.ce), ?_⟩
    refine ⟨_, rfl, _, rfl, _, rfl, sp, ns, 1 + (j : Int), rfl, hs.same sZ, by omega, by omega, fun c1 => ?_⟩
    refine ⟨c1, rfl, fun Z1 p m sp1 gp ep => ?_⟩
    have fpZ := fp.same sp1
    have np6 : p ≠ F 6 := (ne_of_none fp.li gp).symm
    have np7 : p ≠ F 7 := (ne_of_none fp.ce gp).symm
    have npf : p ≠ fa := (ne_of_none efa gp).symm
    refine ⟨_, rfl, fa, p, F, L, n, C, mc, cs, vs, m, j + 1, by rw [show (1 + (j : Int)) = ((j + 1 : Nat) : Int) by omega]; rfl, fpZ, ep, np6, np7, by omega, fun H' L' n' C' mc' vs' cs' fp' stp rest => ?_⟩
    have keep : ∀ b o, Z b = some o → b ≠ F 6 → b ≠ F 7 → H' b = some o := fun b o e h6 h7 => rest b o (sp1 _ _ e) (by
      rintro (z | z | z)
      · exact ne_of_none e gp z
      · exact h6 z
      · exact h7 z)
    have tZ' : Tups Z H' := fun a ys e => keep a _ e (fun z => by rw [z, fp.li] at e; cases e) (fun z => by rw [z, fp.ce] at e; cases e)
    have sH' : Same H H' := fun b o e => keep b o (sZ _ _ e) (ne_of_none e (fF 6 (by decide))) (ne_of_none e (fF 7 (by decide)))
    have efa' := keep fa _ efa (rd_ne fp.fa.dk fp.li) (rd_ne fp.fa.dk fp.ce)
    have elp' := keep lp _ elp n6 n7
    have etq' := keep tq _ etq ntq.1 ntq.2
    have tqs' := tqs.to tZ' fun a o z e => keep a o e z.1 z.2
    have W := fp.wl
    have tY' := tZ.trans tZ'
    clear keep rest
    have Wj' := fp'.wl.wj
    have Wm' := fp'.wc.wm
    refine ⟨_, rfl, fa, .ref (F 6), rfl, .inl ⟨fkv F 9, .inr "lines", fp'.fa.dk, rfl, (fkv_at F 6 (by decide)).symm⟩, 1, rfl, _, rfl, F 6, vs', rfl, SqL.of fp'.li, fun tp X1 g1 s1 e1 => ?_⟩
    have fpX := fp'.same s1
    obtain ⟨tv, hstp⟩ : ∃ tv : V, ((∃ r, L' = ext L n r ∧ n' = n + 1 ∧ C' = C ∧ mc' = mc ∧ Nmd (j + 1) r.nk ∧ vs' = vs ++ [tv] ∧ cs' = cs) ∨ ∃ r, L' = L ∧ n' = n ∧ C' = extC C mc r ∧ mc' = mc + 1 ∧ vs' = vs ∧ cs' = cs ++ [tv]) := by
      cases stp with
      | line r v h => exact ⟨v, .inl ⟨r, rfl, rfl, rfl, rfl, h, rfl, rfl⟩⟩
      | cell r v => exact ⟨v, .inr ⟨r, rfl, rfl, rfl, rfl, rfl, rfl⟩⟩
    refine ⟨fun σ' X => ∃ tp, σ' = [some (.ref sp), some (.ref fa), some (.ref lp), some (.ref tq), some (.int (1 + (j : Int))), some (.int (cs.length : Int)), some (.ref tp), u7, u8] ∧ Same H' X ∧ X tp = some (.lst [tv]), ?_, ?_⟩
    · refine ⟨_, rfl, fa, .ref (F 7), rfl, .inl ⟨fkv F 9, .inr "cells", fpX.fa.dk, rfl, (fkv_at F 7 (by decide)).symm⟩, F 7, cs', rfl, .inl (SqL.of fpX.ce), _, rfl, _, _, rfl, rfl, _, rfl, ?_⟩
      rcases hstp with ⟨r, _, _, _, _, _, rfl, rfl⟩ | ⟨r, _, _, _, _, rfl, rfl⟩
      · refine itF (decide_eq_false (Int.lt_irrefl _)) ⟨tp, rfl, s1, ?_⟩
        rw [e1]
        show some (HO.lst (cutV (vs ++ [tv]) (some (-1)) none)) = _
        rw [cut_last]
      · refine itT (decide_eq_true (by rw [List.length_append, List.length_singleton]; omega)) ?_
        refine ⟨_, rfl, fa, .ref (F 7), rfl, .inl ⟨fkv F 9, .inr "cells", fpX.fa.dk, rfl, (fkv_at F 7 (by decide)).symm⟩, 1, rfl, _, rfl, F 7, _, rfl, SqL.of fpX.ce, fun tp2 X2 g2 s2 e2 => ⟨tp2, rfl, s1.trans s2, ?_⟩⟩
        rw [e2]
        show some (HO.lst (cutV (cs ++ [tv]) (some (-1)) none)) = _
        rw [cut_last]
    clear g1 s1 e1 fpX tp
    rintro σ' X ⟨tp, rfl, s1, etp⟩
    have fpX := fp'.same s1
    have elX := s1 _ _ elp'
    have gpX : ∀ (c : Nat) v pt, [V.ref t1, .ref t2, .ref t3, .ref t4][c]? = some v → ptL[c]? = some pt → GK X (.tup pt) v := fun c v pt q1 q2 => (partsY c v pt q1 q2).tups (tY'.trans s1.tups)
    refine ⟨_, rfl, lp, rfl, ⟨_, SqL.of elX⟩, lc_any (xs := [V.ref t1, .ref t2, .ref t3, .ref t4]) (szOk rfl) (fun j us X' => Same X X' ∧ us.length = j ∧ ∀ (c : Nat) v pt, us[c]? = some v → ptL[c]? = some pt → TW L' (List.range n') C' (List.range mc') pt (fun a => a ≠ F 6 ∧ a ≠ F 7) X' v) ⟨Same.refl _, rfl, fun c v pt z => by cases z⟩ (fun _ _ X' s' => SqL.of (s'.1 _ _ elX)) (fun j x us X' K1 K0 hx s' k1 k0 => ?_) fun X' bq ub s' hu hqu => ?_⟩
    · obtain ⟨sX, hul, hus⟩ := s'
      have hj : j < 4 := (List.getElem?_eq_some_iff.mp hx).1
      obtain ⟨pt, hpt⟩ : ∃ pt, ptL[j]? = some pt := ⟨ptL[j]'hj, List.getElem?_eq_getElem _⟩
      refine iteT (B := K0 X') ?_
      refine ⟨_, rfl, _, rfl, fa, x, pt, L', List.range n', C', List.range mc', rfl, (fpX.same sX).tb, (gpX j x pt hx hpt).tups sX.tups, ptL_lay hpt, fun X1 q s1 g1 tw => k1 _ _ ⟨sX.trans s1, by rw [List.length_append, hul]; rfl, fun c v pt' q1 q2 => ?_⟩⟩
      by_cases hc : c < us.length
      · rw [List.getElem?_append_left hc] at q1
        exact (hus c v pt' q1 q2).same s1
      · have hcj : c = j := by
          have := (List.getElem?_eq_some_iff.mp q1).1
          rw [List.length_append, List.length_singleton] at this
          omega
        subst hcj
        rw [List.getElem?_append_right (by omega), hul, Nat.sub_self] at q1
        cases q1
        rw [hpt] at q2
        cases q2
        exact tw.to (fun _ _ e => e) (fun _ _ _ e => e) fun a o z _ => sfw (Z := X') (X := X') (fpX.same sX) z
    obtain ⟨sX, hul, hus⟩ := s'
    have n1 : Same X' (upd X' bq (.lst ub)) := Same.new hqu
    have eB : (upd X' bq (.lst ub)) bq = some (.lst ub) := upd_same
    have sx1 := sX.trans n1
    have tqB : TQ L' n' C' mc' (fun a => a ≠ F 6 ∧ a ≠ F 7) (upd X' bq (.lst ub)) ub := ⟨hul, fun c v pt e1 e2 => (hus c v pt e1 e2).same n1⟩
    have nbq := sfw (Z := X') (X := X') (fpX.same sX) hqu
    generalize upd X' bq (.lst ub) = X1 at eB sx1 tqB
    clear n1 hus hqu sX
    have fpB := fpX.same sx1
    have sB := s1.trans sx1
    have etB := sx1 _ _ etp
    have elB := sx1 _ _ elX
    have tqA := tqs'.same sB
    have eA := sB _ _ etq'
    refine ⟨_, rfl, by omega, by omega, for_range (lo := 0) (n := 4) (fun i σ W => ∃ (u8 : Option V), σ = [some (.ref sp), some (.ref fa), some (.ref lp), some (.ref tq), some (.int (1 + (j : Int))), some (.int (cs.length : Int)), some (.ref tp), some (.ref bq), u8] ∧ Same X1 W) ⟨u8, rfl, Same.refl _⟩ ?_ ?_⟩
    · rintro i σ W2 hi ⟨w8, rfl, sW⟩
      obtain ⟨pt, hpt⟩ : ∃ pt, ptL[i]? = some pt := ⟨ptL[i]'hi, List.getElem?_eq_getElem _⟩
      obtain ⟨xv, hxv⟩ : ∃ xv, [V.ref t1, .ref t2, .ref t3, .ref t4][i]? = some xv := ⟨[V.ref t1, .ref t2, .ref t3, .ref t4][i]'hi, List.getElem?_eq_getElem _⟩
      obtain ⟨av, hav⟩ : ∃ av, us[i]? = some av := ⟨us[i]'(by rw [tqA.len]; exact hi), List.getElem?_eq_getElem _⟩
      obtain ⟨bv, hbv⟩ : ∃ bv, ub[i]? = some bv := ⟨ub[i]'(by rw [tqB.len]; exact hi), List.getElem?_eq_getElem _⟩
      have ta := (tqA.all i av pt hav hpt).same sW
      have tb := (tqB.all i bv pt hbv hpt).same sW
      have gx := (gpX i xv pt hxv hpt).tups (sx1.trans sW).tups
      have hlay := ptL_lay hpt
      have fpW := fpB.same sW
      have elW := sW _ _ elB
      have etW := sW _ _ etB
      have eBW := sW _ _ eB
      have eAW := sW _ _ eA
      have at0 : ∀ {α : List V} {x : V}, α[i]? = some x → atI α (0 + (i : Int)) = some x := fun e => by rw [Int.zero_add]; exact atI_nat e
      obtain ⟨o1, o2, o3⟩ := tab_ok W.wj fp.wc.wm pt
      have dep : min (tabD L (List.range n) C (List.range mc) pt).depth (tabD L (List.range n) C (List.range mc) pt).depth ≤ 64 := Nat.le_trans (Nat.min_le_left _ _) (Nat.le_trans o3 (by decide))
      rcases hstp with ⟨r, rfl, rfl, rfl, rfl, hnm, rfl, rfl⟩ | ⟨r, rfl, rfl, rfl, rfl, rfl, rfl⟩
      · have ln : LN (ext L n r) W2 tv n := fpW.an.2 n tv n (by rw [List.getElem?_append_right (by rw [fp.an.1, List.length_range]; exact Nat.le_refl _), show n - vs.length = 0 by rw [fp.an.1, List.length_range]; omega]; rfl) (List.getElem?_range (Nat.lt_succ_self n))
        have ln0 := ln
        obtain ⟨lb, vp, vn, vbh, kq, rfl, l1, l2, l3, l4, l5⟩ := ln
        rw [ext_at] at l1 l2
        have layr : Lay r.pt := by have := (fp'.wl.lay n (Nat.lt_succ_self n)).2; rw [ext_at] at this; exact this
        refine ⟨_, rfl, _, rfl, lp, _, _, xv, rfl, rfl, SqL.of elW, at0 hxv, _, rfl, tp, _, _, _, rfl, rfl, SqL.of etW, atI_nat (j := 0) rfl, lb, _, _, vp, rfl, rfl, SqT.of l1, atI_nat (j := 0) rfl, tD pt, tD r.pt, (gk_td gx).dv, (gk_td l2).dv, hlay, layr, Nat.le_trans (Nat.min_le_left _ _) (Nat.le_trans (deep_tD _) (by decide)), _, rfl, ?_⟩
        have eqp : (if true = true then !PyData.eqv (tD pt) (tD r.pt) else PyData.eqv (tD pt) (tD r.pt)) = !decide (pt = r.pt) := by rw [if_pos rfl, tD_eqv]
        by_cases hp : pt = r.pt
        · refine itF (by rw [eqp, decide_eq_true hp]; rfl) ?_
          have hwy := fp'.wy n (Nat.lt_succ_self n)
          rw [ext_at] at hwy
          refine ⟨fun b X => b = false ∧ Same W2 X, ?_, ?_⟩
          · exact ⟨_, rfl, tp, _, _, _, rfl, rfl, SqL.of etW, atI_nat (j := 0) rfl, lb, _, rfl, .inr (SqT.of l1), rfl, _, rfl, itT (decide_eq_true rfl) ⟨_, rfl, _, rfl, tq, us, _, av, rfl, rfl, SqL.of eAW, at0 hav, _, rfl, _, rfl, bq, ub, _, bv, rfl, rfl, SqL.of eBW, at0 hbv, _, rfl, tp, _, _, _, rfl, rfl, SqL.of etW, atI_nat (j := 0) rfl, av, bv, .ref lb, L, n, r, C', mc', j + 1, pt, _, _, rfl, W, fp'.wl, fp.wc, fp.cm, hnm, hp.symm, hwy, ta, tb, ln0, fun X' sX' => ⟨_, rfl, rfl, sX'⟩⟩⟩
          · rintro bb X5 ⟨rfl, sX5⟩
            refine itF rfl ⟨fun b X => b = false ∧ X = X5, ?_, ?_⟩
            · exact ⟨_, rfl, tp, _, _, _, rfl, rfl, SqL.of (sX5 _ _ etW), atI_nat (j := 0) rfl, lb, _, rfl, .inr (SqT.of (sX5 _ _ l1)), rfl, _, rfl, itF (decide_eq_false (fun z => by cases z)) ⟨rfl, rfl⟩⟩
            · rintro bb X6 ⟨rfl, rfl⟩
              exact itF rfl ⟨_, rfl, sW.trans sX5⟩
        · refine itT (by rw [eqp, decide_eq_false hp]; rfl) ?_
          have db := tb.dv (K := K)
          have nm : ∀ wy, ¬ mine (ext L n r) pt wy n = true := fun wy z => hp (by have := (mine_iff.mp z).1; rw [ext_at] at this; exact this.symm)
          rw [tab_same W (lived_skip W (nm _)) (lived_skip W (nm _))] at db
          exact ⟨_, rfl, _, rfl, bq, ub, _, bv, rfl, rfl, SqL.of eBW, at0 hbv, _, rfl, _, rfl, tq, us, _, av, rfl, rfl, SqL.of eAW, at0 hav, _, _, db, ta.dv, o1, o1, dep, _, rfl, itF (by rw [o2]; rfl) ⟨_, rfl, sW⟩⟩
      · have ce : CE (extC C mc r) W2 tv mc := fpW.ca.2 mc tv mc (by rw [List.getElem?_append_right (by rw [fp.ca.1, List.length_range]; exact Nat.le_refl _), show mc - cs.length = 0 by rw [fp.ca.1, List.length_range]; omega]; rfl) (List.getElem?_range (Nat.lt_succ_self mc))
        have ce0 := ce
        obtain ⟨lb, vp, vr, vc, kq, rfl, l1, l2, l3, l4, l5⟩ := ce
        rw [extC_at] at l1 l2
        have layr : Lay r.pt := by have := (fp'.wc.lay mc (Nat.lt_succ_self mc)).1; rw [extC_at] at this; exact this
        refine ⟨_, rfl, _, rfl, lp, _, _, xv, rfl, rfl, SqL.of elW, at0 hxv, _, rfl, tp, _, _, _, rfl, rfl, SqL.of etW, atI_nat (j := 0) rfl, lb, _, _, vp, rfl, rfl, SqT.of l1, atI_nat (j := 0) rfl, tD pt, tD r.pt, (gk_td gx).dv, (gk_td l2).dv, hlay, layr, Nat.le_trans (Nat.min_le_left _ _) (Nat.le_trans (deep_tD _) (by decide)), _, rfl, ?_⟩
        have eqp : (if true = true then !PyData.eqv (tD pt) (tD r.pt) else PyData.eqv (tD pt) (tD r.pt)) = !decide (pt = r.pt) := by rw [if_pos rfl, tD_eqv]
        by_cases hp : pt = r.pt
        · refine itF (by rw [eqp, decide_eq_true hp]; rfl) ?_
          refine ⟨fun b X => b = false ∧ X = W2, ?_, ?_⟩
          · exact ⟨_, rfl, tp, _, _, _, rfl, rfl, SqL.of etW, atI_nat (j := 0) rfl, lb, _, rfl, .inr (SqT.of l1), rfl, _, rfl, itF (decide_eq_false (fun z => by cases z)) ⟨rfl, rfl⟩⟩
          · rintro bb X5 ⟨rfl, rfl⟩
            refine itF rfl ⟨fun b X => b = false ∧ Same X5 X, ?_, ?_⟩
            · exact ⟨_, rfl, tp, _, _, _, rfl, rfl, SqL.of etW, atI_nat (j := 0) rfl, lb, _, rfl, .inr (SqT.of l1), rfl, _, rfl, itT (decide_eq_true rfl) ⟨_, rfl, _, rfl, tq, us, _, av, rfl, rfl, SqL.of eAW, at0 hav, _, rfl, _, rfl, bq, ub, _, bv, rfl, rfl, SqL.of eBW, at0 hbv, _, rfl, tp, _, _, _, rfl, rfl, SqL.of etW, atI_nat (j := 0) rfl, av, bv, .ref lb, _, _, C, mc, r, pt, _, _, rfl, W, fp'.wc, hp.symm, ta, tb, ce0, fun X' sX' => ⟨_, rfl, rfl, sX'⟩⟩⟩
            · rintro bb X6 ⟨rfl, sX6⟩
              exact itF rfl ⟨_, rfl, sW.trans sX6⟩
        · refine itT (by rw [eqp, decide_eq_false hp]; rfl) ?_
          have db := tb.dv (K := K)
          have eD : ∀ {L0 : Nat → Ln} {n0 : Nat}, tabD L0 (List.range n0) (extC C mc r) (List.range (mc + 1)) pt = tabD L0 (List.range n0) C (List.range mc) pt := fun {L0 n0} => tabX_congr (fun _ _ => rfl) (fun _ _ => rfl) fun i _ c _ => by rw [wAt_ext, if_neg fun z => hp z.1.symm]
          rw [eD] at db
          exact ⟨_, rfl, _, rfl, bq, ub, _, bv, rfl, rfl, SqL.of eBW, at0 hbv, _, rfl, _, rfl, tq, us, _, av, rfl, rfl, SqL.of eAW, at0 hav, _, _, db, ta.dv, o1, o1, dep, _, rfl, itF (by rw [o2]; rfl) ⟨_, rfl, sW⟩⟩
    rintro σ W2 ⟨w8, rfl, sW⟩
    have sBW := sB.trans sW
    exact ⟨_, rfl, L', n', C', mc', vs', cs', ub, bq, _, _, _, _, _, rfl, sH'.trans sBW, tY'.trans sBW.tups, sBW _ _ efa', sBW _ _ elp', fp'.same sBW, sW _ _ eB, nbq, tqB.same sW⟩
  rintro σ Z ⟨L, n, C, mc, vs, cs, us, tq, u4, u5, u6, u7, u8, rfl, _⟩
  exact kk _
end
theorem all_mk {l : PySem.W.OpenLaw} {w : World} {K : PySem.W.Frag} {h : Heap} {mg : Str → Option Value} {fa : Addr} (X : K.In h) (G : h.Ns mainGlobals mg) (hfa : mg "law" = some (.ref fa))
    {a_fkey_of_place : Addr} {od_fkey_of_place an_fkey_of_place : Option Addr} {sl_fkey_of_place : Array (Option Value)} {oc_fkey_of_place kV_fkey_of_place dc_fkey_of_place pm_fkey_of_place cd_fkey_of_place ct_fkey_of_place : Value} {a_ffollowers_of : Addr} {od_ffollowers_of an_ffollowers_of : Option Addr} {sl_ffollowers_of : Array (Option Value)} {oc_ffollowers_of kV_ffollowers_of dc_ffollowers_of pm_ffollowers_of cd_ffollowers_of ct_ffollowers_of : Value} {a_fordered : Addr} {od_fordered an_fordered : Option Addr} {sl_fordered : Array (Option Value)} {oc_fordered kV_fordered dc_fordered pm_fordered cd_fordered ct_fordered : Value} {a_flines_of : Addr} {od_flines_of an_flines_of : Option Addr} {sl_flines_of : Array (Option Value)} {oc_flines_of kV_flines_of dc_flines_of pm_flines_of cd_flines_of ct_flines_of : Value} {a_fkey_of_cell : Addr} {od_fkey_of_cell an_fkey_of_cell : Option Addr} {sl_fkey_of_cell : Array (Option Value)} {oc_fkey_of_cell kV_fkey_of_cell dc_fkey_of_cell pm_fkey_of_cell cd_fkey_of_cell ct_fkey_of_cell : Value} {a_fwords_told : Addr} {od_fwords_told an_fwords_told : Option Addr} {sl_fwords_told : Array (Option Value)} {oc_fwords_told kV_fwords_told dc_fwords_told pm_fwords_told cd_fwords_told ct_fwords_told : Value} {a_ftable_of : Addr} {od_ftable_of an_ftable_of : Option Addr} {sl_ftable_of : Array (Option Value)} {oc_ftable_of kV_ftable_of dc_ftable_of pm_ftable_of cd_ftable_of ct_ftable_of : Value} {a_f_law_cell_at : Addr} {od_f_law_cell_at an_f_law_cell_at : Option Addr} {sl_f_law_cell_at : Array (Option Value)} {oc_f_law_cell_at kV_f_law_cell_at dc_f_law_cell_at pm_f_law_cell_at cd_f_law_cell_at ct_f_law_cell_at : Value} {a_f_law_pool : Addr} {od_f_law_pool an_f_law_pool : Option Addr} {sl_f_law_pool : Array (Option Value)} {oc_f_law_pool kV_f_law_pool dc_f_law_pool pm_f_law_pool cd_f_law_pool ct_f_law_pool : Value} {a_f_law_take : Addr} {od_f_law_take an_f_law_take : Option Addr} {sl_f_law_take : Array (Option Value)} {oc_f_law_take kV_f_law_take dc_f_law_take pm_f_law_take cd_f_law_take ct_f_law_take : Value} {a_f_law_bare : Addr} {od_f_law_bare an_f_law_bare : Option Addr} {sl_f_law_bare : Array (Option Value)} {oc_f_law_bare kV_f_law_bare dc_f_law_bare pm_f_law_bare cd_f_law_bare ct_f_law_bare : Value} {a_f_law_put : Addr} {od_f_law_put an_f_law_put : Option Addr} {sl_f_law_put : Array (Option Value)} {oc_f_law_put kV_f_law_put dc_f_law_put pm_f_law_put cd_f_law_put ct_f_law_put : Value} {a_f_law_without : Addr} {od_f_law_without an_f_law_without : Option Addr} {sl_f_law_without : Array (Option Value)} {oc_f_law_without kV_f_law_without dc_f_law_without pm_f_law_without cd_f_law_without ct_f_law_without : Value} {a_f_law_line_right : Addr} {od_f_law_line_right an_f_law_line_right : Option Addr} {sl_f_law_line_right : Array (Option Value)} {oc_f_law_line_right kV_f_law_line_right dc_f_law_line_right pm_f_law_line_right cd_f_law_line_right ct_f_law_line_right : Value} {a_f_law_cell_right : Addr} {od_f_law_cell_right an_f_law_cell_right : Option Addr} {sl_f_law_cell_right : Array (Option Value)} {oc_f_law_cell_right kV_f_law_cell_right dc_f_law_cell_right pm_f_law_cell_right cd_f_law_cell_right ct_f_law_cell_right : Value} {a_flaw : Addr} {od_flaw an_flaw : Option Addr} {sl_flaw : Array (Option Value)} {oc_flaw kV_flaw dc_flaw pm_flaw cd_flaw ct_flaw : Value}
    (zb_dict : PySem.W.nsIn K mainGlobals "dict" = some none)
    (zb_int : PySem.W.nsIn K mainGlobals "int" = some none)
    (zb_len : PySem.W.nsIn K mainGlobals "len" = some none)
    (zb_list : PySem.W.nsIn K mainGlobals "list" = some none)
    (zb_max : PySem.W.nsIn K mainGlobals "max" = some none)
    (zb_min : PySem.W.nsIn K mainGlobals "min" = some none)
    (zb_range : PySem.W.nsIn K mainGlobals "range" = some none)
    (zb_sorted : PySem.W.nsIn K mainGlobals "sorted" = some none)
    (z1_fkey_of_place : PySem.W.nsIn K mainGlobals "key_of_place" = some (some (.ref a_fkey_of_place)))
    (z2_fkey_of_place : K.lookup a_fkey_of_place = some ⟨oc_fkey_of_place, od_fkey_of_place, .func (PySem.W.fnOf "key_of_place" "key_of_place" (defArgs s_fkey_of_place) (defBody s_fkey_of_place) (defScope s_fkey_of_place) .none kV_fkey_of_place dc_fkey_of_place pm_fkey_of_place an_fkey_of_place cd_fkey_of_place ct_fkey_of_place), sl_fkey_of_place⟩)
    (z3_fkey_of_place : PySem.W.codeIn K cd_fkey_of_place "key_of_place" = true) (z4_fkey_of_place : PySem.W.keepIn K (.ref a_fkey_of_place) = true)
    (z1_ffollowers_of : PySem.W.nsIn K mainGlobals "followers_of" = some (some (.ref a_ffollowers_of)))
    (z2_ffollowers_of : K.lookup a_ffollowers_of = some ⟨oc_ffollowers_of, od_ffollowers_of, .func (PySem.W.fnOf "followers_of" "followers_of" (defArgs s_ffollowers_of) (defBody s_ffollowers_of) (defScope s_ffollowers_of) .none kV_ffollowers_of dc_ffollowers_of pm_ffollowers_of an_ffollowers_of cd_ffollowers_of ct_ffollowers_of), sl_ffollowers_of⟩)
    (z3_ffollowers_of : PySem.W.codeIn K cd_ffollowers_of "followers_of" = true) (z4_ffollowers_of : PySem.W.keepIn K (.ref a_ffollowers_of) = true)
    (z1_fordered : PySem.W.nsIn K mainGlobals "ordered" = some (some (.ref a_fordered)))
    (z2_fordered : K.lookup a_fordered = some ⟨oc_fordered, od_fordered, .func (PySem.W.fnOf "ordered" "ordered" (defArgs s_fordered) (defBody s_fordered) (defScope s_fordered) .none kV_fordered dc_fordered pm_fordered an_fordered cd_fordered ct_fordered), sl_fordered⟩)
    (z3_fordered : PySem.W.codeIn K cd_fordered "ordered" = true) (z4_fordered : PySem.W.keepIn K (.ref a_fordered) = true)
    (z1_flines_of : PySem.W.nsIn K mainGlobals "lines_of" = some (some (.ref a_flines_of)))
    (z2_flines_of : K.lookup a_flines_of = some ⟨oc_flines_of, od_flines_of, .func (PySem.W.fnOf "lines_of" "lines_of" (defArgs s_flines_of) (defBody s_flines_of) (defScope s_flines_of) .none kV_flines_of dc_flines_of pm_flines_of an_flines_of cd_flines_of ct_flines_of), sl_flines_of⟩)
    (z3_flines_of : PySem.W.codeIn K cd_flines_of "lines_of" = true) (z4_flines_of : PySem.W.keepIn K (.ref a_flines_of) = true)
    (z1_fkey_of_cell : PySem.W.nsIn K mainGlobals "key_of_cell" = some (some (.ref a_fkey_of_cell)))
    (z2_fkey_of_cell : K.lookup a_fkey_of_cell = some ⟨oc_fkey_of_cell, od_fkey_of_cell, .func (PySem.W.fnOf "key_of_cell" "key_of_cell" (defArgs s_fkey_of_cell) (defBody s_fkey_of_cell) (defScope s_fkey_of_cell) .none kV_fkey_of_cell dc_fkey_of_cell pm_fkey_of_cell an_fkey_of_cell cd_fkey_of_cell ct_fkey_of_cell), sl_fkey_of_cell⟩)
    (z3_fkey_of_cell : PySem.W.codeIn K cd_fkey_of_cell "key_of_cell" = true) (z4_fkey_of_cell : PySem.W.keepIn K (.ref a_fkey_of_cell) = true)
    (z1_fwords_told : PySem.W.nsIn K mainGlobals "words_told" = some (some (.ref a_fwords_told)))
    (z2_fwords_told : K.lookup a_fwords_told = some ⟨oc_fwords_told, od_fwords_told, .func (PySem.W.fnOf "words_told" "words_told" (defArgs s_fwords_told) (defBody s_fwords_told) (defScope s_fwords_told) .none kV_fwords_told dc_fwords_told pm_fwords_told an_fwords_told cd_fwords_told ct_fwords_told), sl_fwords_told⟩)
    (z3_fwords_told : PySem.W.codeIn K cd_fwords_told "words_told" = true) (z4_fwords_told : PySem.W.keepIn K (.ref a_fwords_told) = true)
    (z1_ftable_of : PySem.W.nsIn K mainGlobals "table_of" = some (some (.ref a_ftable_of)))
    (z2_ftable_of : K.lookup a_ftable_of = some ⟨oc_ftable_of, od_ftable_of, .func (PySem.W.fnOf "table_of" "table_of" (defArgs s_ftable_of) (defBody s_ftable_of) (defScope s_ftable_of) .none kV_ftable_of dc_ftable_of pm_ftable_of an_ftable_of cd_ftable_of ct_ftable_of), sl_ftable_of⟩)
    (z3_ftable_of : PySem.W.codeIn K cd_ftable_of "table_of" = true) (z4_ftable_of : PySem.W.keepIn K (.ref a_ftable_of) = true)
    (z1_f_law_cell_at : PySem.W.nsIn K mainGlobals "_law_cell_at" = some (some (.ref a_f_law_cell_at)))
    (z2_f_law_cell_at : K.lookup a_f_law_cell_at = some ⟨oc_f_law_cell_at, od_f_law_cell_at, .func (PySem.W.fnOf "_law_cell_at" "_law_cell_at" (defArgs s_f_law_cell_at) (defBody s_f_law_cell_at) (defScope s_f_law_cell_at) .none kV_f_law_cell_at dc_f_law_cell_at pm_f_law_cell_at an_f_law_cell_at cd_f_law_cell_at ct_f_law_cell_at), sl_f_law_cell_at⟩)
    (z3_f_law_cell_at : PySem.W.codeIn K cd_f_law_cell_at "_law_cell_at" = true) (z4_f_law_cell_at : PySem.W.keepIn K (.ref a_f_law_cell_at) = true)
    (z1_f_law_pool : PySem.W.nsIn K mainGlobals "_law_pool" = some (some (.ref a_f_law_pool)))
    (z2_f_law_pool : K.lookup a_f_law_pool = some ⟨oc_f_law_pool, od_f_law_pool, .func (PySem.W.fnOf "_law_pool" "_law_pool" (defArgs s_f_law_pool) (defBody s_f_law_pool) (defScope s_f_law_pool) .none kV_f_law_pool dc_f_law_pool pm_f_law_pool an_f_law_pool cd_f_law_pool ct_f_law_pool), sl_f_law_pool⟩)
    (z3_f_law_pool : PySem.W.codeIn K cd_f_law_pool "_law_pool" = true) (z4_f_law_pool : PySem.W.keepIn K (.ref a_f_law_pool) = true)
    (z1_f_law_take : PySem.W.nsIn K mainGlobals "_law_take" = some (some (.ref a_f_law_take)))
    (z2_f_law_take : K.lookup a_f_law_take = some ⟨oc_f_law_take, od_f_law_take, .func (PySem.W.fnOf "_law_take" "_law_take" (defArgs s_f_law_take) (defBody s_f_law_take) (defScope s_f_law_take) .none kV_f_law_take dc_f_law_take pm_f_law_take an_f_law_take cd_f_law_take ct_f_law_take), sl_f_law_take⟩)
    (z3_f_law_take : PySem.W.codeIn K cd_f_law_take "_law_take" = true) (z4_f_law_take : PySem.W.keepIn K (.ref a_f_law_take) = true)
    (z1_f_law_bare : PySem.W.nsIn K mainGlobals "_law_bare" = some (some (.ref a_f_law_bare)))
    (z2_f_law_bare : K.lookup a_f_law_bare = some ⟨oc_f_law_bare, od_f_law_bare, .func (PySem.W.fnOf "_law_bare" "_law_bare" (defArgs s_f_law_bare) (defBody s_f_law_bare) (defScope s_f_law_bare) .none kV_f_law_bare dc_f_law_bare pm_f_law_bare an_f_law_bare cd_f_law_bare ct_f_law_bare), sl_f_law_bare⟩)
    (z3_f_law_bare : PySem.W.codeIn K cd_f_law_bare "_law_bare" = true) (z4_f_law_bare : PySem.W.keepIn K (.ref a_f_law_bare) = true)
    (z1_f_law_put : PySem.W.nsIn K mainGlobals "_law_put" = some (some (.ref a_f_law_put)))
    (z2_f_law_put : K.lookup a_f_law_put = some ⟨oc_f_law_put, od_f_law_put, .func (PySem.W.fnOf "_law_put" "_law_put" (defArgs s_f_law_put) (defBody s_f_law_put) (defScope s_f_law_put) .none kV_f_law_put dc_f_law_put pm_f_law_put an_f_law_put cd_f_law_put ct_f_law_put), sl_f_law_put⟩)
    (z3_f_law_put : PySem.W.codeIn K cd_f_law_put "_law_put" = true) (z4_f_law_put : PySem.W.keepIn K (.ref a_f_law_put) = true)
    (z1_f_law_without : PySem.W.nsIn K mainGlobals "_law_without" = some (some (.ref a_f_law_without)))
    (z2_f_law_without : K.lookup a_f_law_without = some ⟨oc_f_law_without, od_f_law_without, .func (PySem.W.fnOf "_law_without" "_law_without" (defArgs s_f_law_without) (defBody s_f_law_without) (defScope s_f_law_without) .none kV_f_law_without dc_f_law_without pm_f_law_without an_f_law_without cd_f_law_without ct_f_law_without), sl_f_law_without⟩)
    (z3_f_law_without : PySem.W.codeIn K cd_f_law_without "_law_without" = true) (z4_f_law_without : PySem.W.keepIn K (.ref a_f_law_without) = true)
    (z1_f_law_line_right : PySem.W.nsIn K mainGlobals "_law_line_right" = some (some (.ref a_f_law_line_right)))
    (z2_f_law_line_right : K.lookup a_f_law_line_right = some ⟨oc_f_law_line_right, od_f_law_line_right, .func (PySem.W.fnOf "_law_line_right" "_law_line_right" (defArgs s_f_law_line_right) (defBody s_f_law_line_right) (defScope s_f_law_line_right) .none kV_f_law_line_right dc_f_law_line_right pm_f_law_line_right an_f_law_line_right cd_f_law_line_right ct_f_law_line_right), sl_f_law_line_right⟩)
    (z3_f_law_line_right : PySem.W.codeIn K cd_f_law_line_right "_law_line_right" = true) (z4_f_law_line_right : PySem.W.keepIn K (.ref a_f_law_line_right) = true)
    (z1_f_law_cell_right : PySem.W.nsIn K mainGlobals "_law_cell_right" = some (some (.ref a_f_law_cell_right)))
    (z2_f_law_cell_right : K.lookup a_f_law_cell_right = some ⟨oc_f_law_cell_right, od_f_law_cell_right, .func (PySem.W.fnOf "_law_cell_right" "_law_cell_right" (defArgs s_f_law_cell_right) (defBody s_f_law_cell_right) (defScope s_f_law_cell_right) .none kV_f_law_cell_right dc_f_law_cell_right pm_f_law_cell_right an_f_law_cell_right cd_f_law_cell_right ct_f_law_cell_right), sl_f_law_cell_right⟩)
    (z3_f_law_cell_right : PySem.W.codeIn K cd_f_law_cell_right "_law_cell_right" = true) (z4_f_law_cell_right : PySem.W.keepIn K (.ref a_f_law_cell_right) = true)
    (z1_flaw : PySem.W.nsIn K mainGlobals "law" = some (some (.ref a_flaw)))
    (z2_flaw : K.lookup a_flaw = some ⟨oc_flaw, od_flaw, .func (PySem.W.fnOf "law" "law" (defArgs s_flaw) (defBody s_flaw) (defScope s_flaw) .none kV_flaw dc_flaw pm_flaw an_flaw cd_flaw ct_flaw), sl_flaw⟩)
    (z3_flaw : PySem.W.codeIn K cd_flaw "law" = true) (z4_flaw : PySem.W.keepIn K (.ref a_flaw) = true) :
    ∃ fd : FuncData, (∀ (s : Shared) (v : Value), BindsTo s fd ⟨[v], []⟩ [("_law_script", v)]) ∧ ∀ base : Heap, K.In base → base.Ns mainGlobals mg → FnOk l.prog w K mg base CX0 7 fa fd ["_law_script"] (sp_flaw K) := by
  have e := hfa.symm.trans (PySem.W.mg_of X G z1_flaw)
  cases e
  have T : Txt K mg ⟨a_fkey_of_place, PySem.W.fnOf "key_of_place" "key_of_place" (defArgs s_fkey_of_place) (defBody s_fkey_of_place) (defScope s_fkey_of_place) .none kV_fkey_of_place dc_fkey_of_place pm_fkey_of_place an_fkey_of_place cd_fkey_of_place ct_fkey_of_place, a_ffollowers_of, PySem.W.fnOf "followers_of" "followers_of" (defArgs s_ffollowers_of) (defBody s_ffollowers_of) (defScope s_ffollowers_of) .none kV_ffollowers_of dc_ffollowers_of pm_ffollowers_of an_ffollowers_of cd_ffollowers_of ct_ffollowers_of, a_fordered, PySem.W.fnOf "ordered" "ordered" (defArgs s_fordered) (defBody s_fordered) (defScope s_fordered) .none kV_fordered dc_fordered pm_fordered an_fordered cd_fordered ct_fordered, a_flines_of, PySem.W.fnOf "lines_of" "lines_of" (defArgs s_flines_of) (defBody s_flines_of) (defScope s_flines_of) .none kV_flines_of dc_flines_of pm_flines_of an_flines_of cd_flines_of ct_flines_of, a_fkey_of_cell, PySem.W.fnOf "key_of_cell" "key_of_cell" (defArgs s_fkey_of_cell) (defBody s_fkey_of_cell) (defScope s_fkey_of_cell) .none kV_fkey_of_cell dc_fkey_of_cell pm_fkey_of_cell an_fkey_of_cell cd_fkey_of_cell ct_fkey_of_cell, a_fwords_told, PySem.W.fnOf "words_told" "words_told" (defArgs s_fwords_told) (defBody s_fwords_told) (defScope s_fwords_told) .none kV_fwords_told dc_fwords_told pm_fwords_told an_fwords_told cd_fwords_told ct_fwords_told, a_ftable_of, PySem.W.fnOf "table_of" "table_of" (defArgs s_ftable_of) (defBody s_ftable_of) (defScope s_ftable_of) .none kV_ftable_of dc_ftable_of pm_ftable_of an_ftable_of cd_ftable_of ct_ftable_of, a_f_law_cell_at, PySem.W.fnOf "_law_cell_at" "_law_cell_at" (defArgs s_f_law_cell_at) (defBody s_f_law_cell_at) (defScope s_f_law_cell_at) .none kV_f_law_cell_at dc_f_law_cell_at pm_f_law_cell_at an_f_law_cell_at cd_f_law_cell_at ct_f_law_cell_at, a_f_law_pool, PySem.W.fnOf "_law_pool" "_law_pool" (defArgs s_f_law_pool) (defBody s_f_law_pool) (defScope s_f_law_pool) .none kV_f_law_pool dc_f_law_pool pm_f_law_pool an_f_law_pool cd_f_law_pool ct_f_law_pool, a_f_law_take, PySem.W.fnOf "_law_take" "_law_take" (defArgs s_f_law_take) (defBody s_f_law_take) (defScope s_f_law_take) .none kV_f_law_take dc_f_law_take pm_f_law_take an_f_law_take cd_f_law_take ct_f_law_take, a_f_law_bare, PySem.W.fnOf "_law_bare" "_law_bare" (defArgs s_f_law_bare) (defBody s_f_law_bare) (defScope s_f_law_bare) .none kV_f_law_bare dc_f_law_bare pm_f_law_bare an_f_law_bare cd_f_law_bare ct_f_law_bare, a_f_law_put, PySem.W.fnOf "_law_put" "_law_put" (defArgs s_f_law_put) (defBody s_f_law_put) (defScope s_f_law_put) .none kV_f_law_put dc_f_law_put pm_f_law_put an_f_law_put cd_f_law_put ct_f_law_put, a_f_law_without, PySem.W.fnOf "_law_without" "_law_without" (defArgs s_f_law_without) (defBody s_f_law_without) (defScope s_f_law_without) .none kV_f_law_without dc_f_law_without pm_f_law_without an_f_law_without cd_f_law_without ct_f_law_without, a_f_law_line_right, PySem.W.fnOf "_law_line_right" "_law_line_right" (defArgs s_f_law_line_right) (defBody s_f_law_line_right) (defScope s_f_law_line_right) .none kV_f_law_line_right dc_f_law_line_right pm_f_law_line_right an_f_law_line_right cd_f_law_line_right ct_f_law_line_right, a_f_law_cell_right, PySem.W.fnOf "_law_cell_right" "_law_cell_right" (defArgs s_f_law_cell_right) (defBody s_f_law_cell_right) (defScope s_f_law_cell_right) .none kV_f_law_cell_right dc_f_law_cell_right pm_f_law_cell_right an_f_law_cell_right cd_f_law_cell_right ct_f_law_cell_right, fa, PySem.W.fnOf "law" "law" (defArgs s_flaw) (defBody s_flaw) (defScope s_flaw) .none kV_flaw dc_flaw pm_flaw an_flaw cd_flaw ct_flaw⟩ (fun x => 0) := by
    refine ⟨PySem.W.mg_none_of X G zb_dict, PySem.W.mg_none_of X G zb_int, PySem.W.mg_none_of X G zb_len, PySem.W.mg_none_of X G zb_list, PySem.W.mg_none_of X G zb_max, PySem.W.mg_none_of X G zb_min, PySem.W.mg_none_of X G zb_range, PySem.W.mg_none_of X G zb_sorted, fun_mk (st := s_fkey_of_place) z2_fkey_of_place z3_fkey_of_place z4_fkey_of_place, PySem.W.mg_of X G z1_fkey_of_place, z4_fkey_of_place, (fun_mk (st := s_fkey_of_place) z2_fkey_of_place z3_fkey_of_place z4_fkey_of_place).binds (ps := ["place"]) fun _ _ _ _ _ _ us hl => match us, hl with | [_], _ => rfl, fun_mk (st := s_ffollowers_of) z2_ffollowers_of z3_ffollowers_of z4_ffollowers_of, PySem.W.mg_of X G z1_ffollowers_of, z4_ffollowers_of, (fun_mk (st := s_ffollowers_of) z2_ffollowers_of z3_ffollowers_of z4_ffollowers_of).binds (ps := ["places"]) fun _ _ _ _ _ _ us hl => match us, hl with | [_], _ => rfl, fun_mk (st := s_fordered) z2_fordered z3_fordered z4_fordered, PySem.W.mg_of X G z1_fordered, z4_fordered, (fun_mk (st := s_fordered) z2_fordered z3_fordered z4_fordered).binds (ps := ["places"]) fun _ _ _ _ _ _ us hl => match us, hl with | [_], _ => rfl, fun_mk (st := s_flines_of) z2_flines_of z3_flines_of z4_flines_of, PySem.W.mg_of X G z1_flines_of, z4_flines_of, (fun_mk (st := s_flines_of) z2_flines_of z3_flines_of z4_flines_of).binds (ps := ["facts", "part", "way"]) fun _ _ _ _ _ _ us hl => match us, hl with | [_, _, _], _ => rfl, fun_mk (st := s_fkey_of_cell) z2_fkey_of_cell z3_fkey_of_cell z4_fkey_of_cell, PySem.W.mg_of X G z1_fkey_of_cell, z4_fkey_of_cell, (fun_mk (st := s_fkey_of_cell) z2_fkey_of_cell z3_fkey_of_cell z4_fkey_of_cell).binds (ps := ["cell"]) fun _ _ _ _ _ _ us hl => match us, hl with | [_], _ => rfl, fun_mk (st := s_fwords_told) z2_fwords_told z3_fwords_told z4_fwords_told, PySem.W.mg_of X G z1_fwords_told, z4_fwords_told, (fun_mk (st := s_fwords_told) z2_fwords_told z3_fwords_told z4_fwords_told).binds (ps := ["facts", "part"]) fun _ _ _ _ _ _ us hl => match us, hl with | [_, _], _ => rfl, fun_mk (st := s_ftable_of) z2_ftable_of z3_ftable_of z4_ftable_of, PySem.W.mg_of X G z1_ftable_of, z4_ftable_of, (fun_mk (st := s_ftable_of) z2_ftable_of z3_ftable_of z4_ftable_of).binds (ps := ["facts", "part"]) fun _ _ _ _ _ _ us hl => match us, hl with | [_, _], _ => rfl, fun_mk (st := s_f_law_cell_at) z2_f_law_cell_at z3_f_law_cell_at z4_f_law_cell_at, PySem.W.mg_of X G z1_f_law_cell_at, z4_f_law_cell_at, (fun_mk (st := s_f_law_cell_at) z2_f_law_cell_at z3_f_law_cell_at z4_f_law_cell_at).binds (ps := ["_law_script", "_law_k"]) fun _ _ _ _ _ _ us hl => match us, hl with | [_, _], _ => rfl, fun_mk (st := s_f_law_pool) z2_f_law_pool z3_f_law_pool z4_f_law_pool, PySem.W.mg_of X G z1_f_law_pool, z4_f_law_pool, (fun_mk (st := s_f_law_pool) z2_f_law_pool z3_f_law_pool z4_f_law_pool).binds (ps := ["_law_cell"]) fun _ _ _ _ _ _ us hl => match us, hl with | [_], _ => rfl, fun_mk (st := s_f_law_take) z2_f_law_take z3_f_law_take z4_f_law_take, PySem.W.mg_of X G z1_f_law_take, z4_f_law_take, (fun_mk (st := s_f_law_take) z2_f_law_take z3_f_law_take z4_f_law_take).binds (ps := ["_law_pool_here", "_law_many"]) fun _ _ _ _ _ _ us hl => match us, hl with | [_, _], _ => rfl, fun_mk (st := s_f_law_bare) z2_f_law_bare z3_f_law_bare z4_f_law_bare, PySem.W.mg_of X G z1_f_law_bare, z4_f_law_bare, (fun_mk (st := s_f_law_bare) z2_f_law_bare z3_f_law_bare z4_f_law_bare).binds (ps := []) fun _ _ _ _ _ _ us hl => match us, hl with | [], _ => rfl, fun_mk (st := s_f_law_put) z2_f_law_put z3_f_law_put z4_f_law_put, PySem.W.mg_of X G z1_f_law_put, z4_f_law_put, (fun_mk (st := s_f_law_put) z2_f_law_put z3_f_law_put z4_f_law_put).binds (ps := ["_law_facts", "_law_pool_here", "_law_k"]) fun _ _ _ _ _ _ us hl => match us, hl with | [_, _, _], _ => rfl, fun_mk (st := s_f_law_without) z2_f_law_without z3_f_law_without z4_f_law_without, PySem.W.mg_of X G z1_f_law_without, z4_f_law_without, (fun_mk (st := s_f_law_without) z2_f_law_without z3_f_law_without z4_f_law_without).binds (ps := ["_law_table", "_law_row", "_law_column"]) fun _ _ _ _ _ _ us hl => match us, hl with | [_, _, _], _ => rfl, fun_mk (st := s_f_law_line_right) z2_f_law_line_right z3_f_law_line_right z4_f_law_line_right, PySem.W.mg_of X G z1_f_law_line_right, z4_f_law_line_right, (fun_mk (st := s_f_law_line_right) z2_f_law_line_right z3_f_law_line_right z4_f_law_line_right).binds (ps := ["_law_ahead", "_law_behind", "_law_told"]) fun _ _ _ _ _ _ us hl => match us, hl with | [_, _, _], _ => rfl, fun_mk (st := s_f_law_cell_right) z2_f_law_cell_right z3_f_law_cell_right z4_f_law_cell_right, PySem.W.mg_of X G z1_f_law_cell_right, z4_f_law_cell_right, (fun_mk (st := s_f_law_cell_right) z2_f_law_cell_right z3_f_law_cell_right z4_f_law_cell_right).binds (ps := ["_law_ahead", "_law_behind", "_law_told"]) fun _ _ _ _ _ _ us hl => match us, hl with | [_, _, _], _ => rfl, fun_mk (st := s_flaw) z2_flaw z3_flaw z4_flaw, PySem.W.mg_of X G z1_flaw, z4_flaw, (fun_mk (st := s_flaw) z2_flaw z3_flaw z4_flaw).binds (ps := ["_law_script"]) fun _ _ _ _ _ _ us hl => match us, hl with | [_], _ => rfl⟩
  refine ⟨PySem.W.fnOf "law" "law" (defArgs s_flaw) (defBody s_flaw) (defScope s_flaw) .none kV_flaw dc_flaw pm_flaw an_flaw cd_flaw ct_flaw, fun s v => .of_eq rfl, fun base _ _ => ?_⟩
  have r_fkey_of_place := ok_fkey_of_place (P := l.prog) (w := w) (base := base) T
  have r_fkey_of_cell := ok_fkey_of_cell (P := l.prog) (w := w) (base := base) T
  have r_f_law_cell_at := ok_f_law_cell_at (P := l.prog) (w := w) (base := base) T
  have r_f_law_pool := ok_f_law_pool (P := l.prog) (w := w) (base := base) T
  have r_f_law_take := ok_f_law_take (P := l.prog) (w := w) (base := base) T
  have r_f_law_bare := ok_f_law_bare (P := l.prog) (w := w) (base := base) T
  have r_f_law_without := ok_f_law_without (P := l.prog) (w := w) (base := base) T
  have r_f_law_cell_right := ok_f_law_cell_right (P := l.prog) (w := w) (base := base) T
  have r_f_law_put := ok_f_law_put (P := l.prog) (w := w) (base := base) T r_f_law_take
  have r_f_law_line_right := ok_f_law_line_right (P := l.prog) (w := w) (base := base) T r_f_law_without
  have r_ffollowers_of := ok_ffollowers_of (P := l.prog) (w := w) (base := base) T r_fkey_of_place
  have r_fwords_told := ok_fwords_told (P := l.prog) (w := w) (base := base) T r_fkey_of_cell
  have r_fordered := ok_fordered (P := l.prog) (w := w) (base := base) T r_ffollowers_of
  have r_flines_of := ok_flines_of (P := l.prog) (w := w) (base := base) T r_fordered
  have r_ftable_of := ok_ftable_of (P := l.prog) (w := w) (base := base) T r_flines_of r_fwords_told
  exact ok_flaw T r_f_law_bare r_f_law_cell_at r_f_law_cell_right r_f_law_line_right r_f_law_pool r_f_law_put r_ftable_of
end My
open PySem PySem.W PyProof.Rows
set_option maxRecDepth 100000 in
set_option maxHeartbeats 0 in
theorem PySem.Challenge.cw_pagefolk_k42_whole_tables_grow_holds : PySem.Challenge.rw_pagefolk_k42_whole_tables_grow.Holds := by
  w_on; o_law; k_head; (case hw => w_witness2)
  k_fill
  refine L2.walk_ofK (l := PySem.Challenge.rw_pagefolk_k42_whole_tables_grow) (n := 63) (k := 7) (x := "_law_script") (CX := L2.CX0) (sp := My.sp_flaw) rfl (by decide) rfl ⟨rfl, by decide, by decide⟩ (fun w h Y => PySem.W.kIn_of Y) ?F My.law_spec (fun _ _ _ _ z => z)
  case F =>
    intro w mg fa h KX G hmg
    refine' My.all_mk KX G hmg ?zb_dict ?zb_int ?zb_len ?zb_list ?zb_max ?zb_min ?zb_range ?zb_sorted ?z1_fkey_of_place ?z2_fkey_of_place ?z3_fkey_of_place ?z4_fkey_of_place ?z1_ffollowers_of ?z2_ffollowers_of ?z3_ffollowers_of ?z4_ffollowers_of ?z1_fordered ?z2_fordered ?z3_fordered ?z4_fordered ?z1_flines_of ?z2_flines_of ?z3_flines_of ?z4_flines_of ?z1_fkey_of_cell ?z2_fkey_of_cell ?z3_fkey_of_cell ?z4_fkey_of_cell ?z1_fwords_told ?z2_fwords_told ?z3_fwords_told ?z4_fwords_told ?z1_ftable_of ?z2_ftable_of ?z3_ftable_of ?z4_ftable_of ?z1_f_law_cell_at ?z2_f_law_cell_at ?z3_f_law_cell_at ?z4_f_law_cell_at ?z1_f_law_pool ?z2_f_law_pool ?z3_f_law_pool ?z4_f_law_pool ?z1_f_law_take ?z2_f_law_take ?z3_f_law_take ?z4_f_law_take ?z1_f_law_bare ?z2_f_law_bare ?z3_f_law_bare ?z4_f_law_bare ?z1_f_law_put ?z2_f_law_put ?z3_f_law_put ?z4_f_law_put ?z1_f_law_without ?z2_f_law_without ?z3_f_law_without ?z4_f_law_without ?z1_f_law_line_right ?z2_f_law_line_right ?z3_f_law_line_right ?z4_f_law_line_right ?z1_f_law_cell_right ?z2_f_law_cell_right ?z3_f_law_cell_right ?z4_f_law_cell_right ?z1_flaw ?z2_flaw ?z3_flaw ?z4_flaw
    (case zb_dict => k_is)
    (case zb_int => k_is)
    (case zb_len => k_is)
    (case zb_list => k_is)
    (case zb_max => k_is)
    (case zb_min => k_is)
    (case zb_range => k_is)
    (case zb_sorted => k_is)
    (case z1_fkey_of_place => k_is)
    (case z2_fkey_of_place => k_is)
    (case z3_fkey_of_place => k_is)
    (case z4_fkey_of_place => k_is)
    (case z1_ffollowers_of => k_is)
    (case z2_ffollowers_of => k_is)
    (case z3_ffollowers_of => k_is)
    (case z4_ffollowers_of => k_is)
    (case z1_fordered => k_is)
    (case z2_fordered => k_is)
    (case z3_fordered => k_is)
    (case z4_fordered => k_is)
    (case z1_flines_of => k_is)
    (case z2_flines_of => k_is)
    (case z3_flines_of => k_is)
    (case z4_flines_of => k_is)
    (case z1_fkey_of_cell => k_is)
    (case z2_fkey_of_cell => k_is)
    (case z3_fkey_of_cell => k_is)
    (case z4_fkey_of_cell => k_is)
    (case z1_fwords_told => k_is)
    (case z2_fwords_told => k_is)
    (case z3_fwords_told => k_is)
    (case z4_fwords_told => k_is)
    (case z1_ftable_of => k_is)
    (case z2_ftable_of => k_is)
    (case z3_ftable_of => k_is)
    (case z4_ftable_of => k_is)
    (case z1_f_law_cell_at => k_is)
    (case z2_f_law_cell_at => k_is)
    (case z3_f_law_cell_at => k_is)
    (case z4_f_law_cell_at => k_is)
    (case z1_f_law_pool => k_is)
    (case z2_f_law_pool => k_is)
    (case z3_f_law_pool => k_is)
    (case z4_f_law_pool => k_is)
    (case z1_f_law_take => k_is)
    (case z2_f_law_take => k_is)
    (case z3_f_law_take => k_is)
    (case z4_f_law_take => k_is)
    (case z1_f_law_bare => k_is)
    (case z2_f_law_bare => k_is)
    (case z3_f_law_bare => k_is)
    (case z4_f_law_bare => k_is)
    (case z1_f_law_put => k_is)
    (case z2_f_law_put => k_is)
    (case z3_f_law_put => k_is)
    (case z4_f_law_put => k_is)
    (case z1_f_law_without => k_is)
    (case z2_f_law_without => k_is)
    (case z3_f_law_without => k_is)
    (case z4_f_law_without => k_is)
    (case z1_f_law_line_right => k_is)
    (case z2_f_law_line_right => k_is)
    (case z3_f_law_line_right => k_is)
    (case z4_f_law_line_right => k_is)
    (case z1_f_law_cell_right => k_is)
    (case z2_f_law_cell_right => k_is)
    (case z3_f_law_cell_right => k_is)
    (case z4_f_law_cell_right => k_is)
    (case z1_flaw => k_is)
    (case z2_flaw => k_is)
    (case z3_flaw => k_is)
    (case z4_flaw => k_is)
