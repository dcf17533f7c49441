import PyProof.Rows.All
import Wide.All
import OpenK.AllK
import Wide.FinOn
import Lean
import PyProof.EqAt
import PyProof.EqKinds
import PyProof.TupleCall
import KE.KSortTup
import KE.KDictOf
import PyProof.AttrMissHeap
import KE.KSortKey
import KE.KNestM
import KE.KLam
import PySem.Challenge.RW_pagefolk_k16_whole_between_for_ever
set_option Elab.async false
set_option linter.all false
set_option maxRecDepth 100000
namespace L2
open PySem PySem.Spec PyProof.Rows
abbrev Key := Sum Int Str
def keyIs : Key → Value → Bool
  | .inl k, v => Value.isInt k v
  | .inr x, v => Value.isStrOf x v
def keyH (w : World) : Key → Int
  | .inl k => hashInt k
  | .inr x => hashStr w x
theorem keyIs_shape : ∀ {k : Key} {v : Value}, keyIs k v = true → (∃ i t, k = Sum.inl i ∧ v = Value.int i t) ∨ (∃ x t, k = Sum.inr x ∧ v = Value.str x t)
  | .inl i, v, h => by
    obtain ⟨t, e⟩ := Value.isInt_shape (k := i) (v := v) h
    exact .inl ⟨i, t, rfl, e⟩
  | .inr x, v, h => by
    obtain ⟨t, e⟩ := Value.isStrOf_shape (x := x) (v := v) h
    exact .inr ⟨x, t, rfl, e⟩
theorem keyIs_int (i : Int) (t : Tok) : keyIs (.inl i) (.int i t) = true := by simp [keyIs, Value.isInt]
theorem keyIs_str (x : Str) (t : Tok) : keyIs (.inr x) (.str x t) = true := by simp [keyIs, Value.isStrOf]
theorem key_ll (a b : Int) : decide ((Sum.inl a : Key) = Sum.inl b) = (a == b) := by
  by_cases e : a = b
  · subst e; simp
  · have h : ¬ (Sum.inl a : Key) = Sum.inl b := fun q => e (Sum.inl.inj q)
    rw [decide_eq_false h]
    exact (beq_eq_false_iff_ne.mpr e).symm
theorem key_rr (a b : Str) : decide ((Sum.inr a : Key) = Sum.inr b) = decide (a = b) := by
  by_cases e : a = b
  · subst e; simp
  · have h : ¬ (Sum.inr a : Key) = Sum.inr b := fun q => e (Sum.inr.inj q)
    rw [decide_eq_false h, decide_eq_false e]
theorem key_lr (a : Int) (b : Str) : decide ((Sum.inl a : Key) = Sum.inr b) = false := decide_eq_false (fun q => nomatch q)
theorem key_rl (a : Str) (b : Int) : decide ((Sum.inr a : Key) = Sum.inl b) = false := decide_eq_false (fun q => nomatch q)
def mixKind (prog : Program) (w : World) : PySem.KeyKind prog w Key where
  is := keyIs
  hash := keyH w
  inj := fun v a b ha hb => by
    rcases keyIs_shape ha with ⟨i, t, rfl, rfl⟩ | ⟨x, t, rfl, rfl⟩
    · rcases keyIs_shape hb with ⟨j, u, rfl, e⟩ | ⟨y, u, rfl, e⟩
      · injection e with e1 _; rw [e1]
      · exact nomatch e
    · rcases keyIs_shape hb with ⟨j, u, rfl, e⟩ | ⟨y, u, rfl, e⟩
      · exact nomatch e
      · injection e with e1 _; rw [e1]
  byValue := fun k v h => by
    rcases keyIs_shape h with ⟨i, t, rfl, rfl⟩ | ⟨x, t, rfl, rfl⟩ <;> rfl
  pyHash := fun hv h => by
    rcases keyIs_shape hv with ⟨i, t, rfl, rfl⟩ | ⟨x, t, rfl, rfl⟩
    · exact wpAny_pyHash_int h
    · exact wpAny_pyHash_str h
  eqBool := fun hu hv h => by
    rcases keyIs_shape hu with ⟨i, t, rfl, rfl⟩ | ⟨x, t, rfl, rfl⟩
    · rcases keyIs_shape hv with ⟨j, u, rfl, rfl⟩ | ⟨y, u, rfl, rfl⟩
      · rw [key_ll] at h; exact wpAny_eqBool_int h
      · rw [key_lr] at h; exact SeqAt.EqAt.int_str i t y u _ _ _ _ h
    · rcases keyIs_shape hv with ⟨j, u, rfl, rfl⟩ | ⟨y, u, rfl, rfl⟩
      · rw [key_rl] at h; exact SeqAt.EqAt.str_int x t j u _ _ _ _ h
      · rw [key_rr] at h; exact wpAny_eqBool_str h
  «strs» := fun k x t v h => by
    rcases keyIs_shape h with ⟨i, u, rfl, e⟩ | ⟨y, u, rfl, e⟩
    · exact nomatch e
    · injection e with e1 _
      subst e1
      cases v <;> rfl
theorem mixKind_int (prog : Program) (w : World) (i : Int) (t : Tok) : (mixKind prog w).is (.inl i) (.int i t) = true := keyIs_int i t
theorem mixKind_str (prog : Program) (w : World) (x : Str) (t : Tok) : (mixKind prog w).is (.inr x) (.str x t) = true := keyIs_str x t
end L2
namespace L2
open PySem PySem.Spec PyProof.Rows
inductive V where
  | non | bl (b : Bool) | int (i : Int) | str (x : Str) | byt (b : Array UInt8) | flt (b : UInt64) | ref (a : Addr) | ty (n : String)
  deriving DecidableEq
def RelV : V → Value → Prop
  | .non, u => u = Value.none
  | .bl b, u => u = Value.bool b
  | .int i, u => ∃ t, u = Value.int i t
  | .str x, u => ∃ t, u = Value.str x t
  | .byt b, u => ∃ t, u = Value.bytes b t
  | .flt b, u => ∃ t, u = Value.float b t
  | .ref a, u => u = Value.ref a
  | .ty n, u => u = Value.type n
abbrev Vals : List V → List Value → Prop := Paired RelV
theorem Vals.length {xs : List V} {us : List Value} (r : Vals xs us) : xs.length = us.length := Paired.length r
theorem Vals.get : ∀ {xs : List V} {us : List Value} {i : Nat} {x : V}, Vals xs us → xs[i]? = some x → ∃ u, us[i]? = some u ∧ RelV x u
  | _, _, _, _, .nil, e => by simp at e
  | _, _, 0, _, .cons r _, e => by simp at e; subst e; exact ⟨_, rfl, r⟩
  | _, _, i + 1, x, .cons _ t, e => by
    obtain ⟨u, h1, h2⟩ := Vals.get (i := i) (x := x) t (by simpa using e)
    exact ⟨u, by simpa using h1, h2⟩
theorem Vals.set {x : V} {u : Value} (r : RelV x u) : ∀ {xs : List V} {us : List Value} (i : Nat), Vals xs us → Vals (xs.set i x) (us.set i u)
  | _, _, _, .nil => .nil
  | _, _, 0, .cons _ t => .cons r t
  | _, _, i + 1, .cons q t => .cons q (Vals.set r i t)
theorem Vals.append : ∀ {xs ys : List V} {us ws : List Value}, Vals xs us → Vals ys ws → Vals (xs ++ ys) (us ++ ws)
  | _, _, _, _, .nil, s => s
  | _, _, _, _, .cons r t, s => .cons r (Vals.append t s)
theorem Vals.take : ∀ {xs : List V} {us : List Value} (n : Nat), Vals xs us → Vals (xs.take n) (us.take n)
  | _, _, 0, _ => .nil
  | _, _, _ + 1, .nil => .nil
  | _, _, n + 1, .cons r t => .cons r (Vals.take n t)
theorem Vals.drop : ∀ {xs : List V} {us : List Value} (n : Nat), Vals xs us → Vals (xs.drop n) (us.drop n)
  | _, _, 0, r => r
  | _, _, _ + 1, .nil => .nil
  | _, _, n + 1, .cons _ t => Vals.drop n t
def RelO : Option V → Option Value → Prop
  | some v, some u => RelV v u
  | none, none => True
  | _, _ => False
def KV {κ : Type} : List (κ × V) → List (κ × Value) → Prop := Paired fun (p : κ × V) (q : κ × Value) => p.1 = q.1 ∧ RelV p.2 q.2
def kV : Key → V
  | .inl i => .int i
  | .inr x => .str x
inductive KD where
  | non
  | int (i : Int)
  | tup (ks : List Key)
deriving DecidableEq
def gHash (P : Program) (w : World) : KD → Int
  | .non => 4238894112
  | .int i => hashInt i
  | .tup ks => (tupleKind (mixKind P w)).hash ks
def gEnt (P : Program) (w : World) (x : KD × Value × Value) : DictEntry := ⟨gHash P w x.1, x.2.1, x.2.2⟩
inductive HO where
  | lst (xs : List V)
  | tup (xs : List V)
  | dK (kvs : List (Key × V)) | dT (kvs : List (List Key × V))
  | dG (kvs : List (KD × V × V))
  | set (S : Int → Bool) (n : Nat)
  | ins (C dx : Addr) (fs : List (Str × V))
  | own (x : Addr)
  | xd (fs : List (Str × V))
  | met (f x : Addr)
  | rng (lo hi : Int)
  | frz (o : Obj) (u : HO)
  | tbl (ps : Array Value)
  | ext (φ : Heap → Prop)
abbrev Hp := Addr → Option HO
def GK (H : Hp) : KD → V → Prop
  | .non, v => v = .non
  | .int i, v => v = .int i
  | .tup ks, v => ∃ b, v = .ref b ∧ H b = some (.tup (ks.map kV))
def upd (H : Hp) (a : Addr) (o : HO) : Hp := fun b => if b = a then some o else H b
theorem upd_same {H : Hp} {a : Addr} {o : HO} : upd H a o a = some o := by unfold upd; rw [if_pos rfl]
theorem upd_ne {H : Hp} {a b : Addr} {o : HO} (h : b ≠ a) : upd H a o b = H b := by unfold upd; rw [if_neg h]
theorem ne_of {H : Hp} {a b : Addr} {o u : HO} (h : H a = some o) (h' : H b = some u) (d : o ≠ u) : a ≠ b := by
  intro e; subst e; rw [h] at h'; exact d (Option.some.inj h')
theorem ne_of_none {H : Hp} {a b : Addr} {o : HO} (h : H a = some o) (h' : H b = none) : a ≠ b := by
  intro e; subst e; rw [h] at h'; cases h'
section
variable (P : Program) (w : World)
def ObjOk (H : Hp) (h : Heap) (a : Addr) : HO → Prop
  | .lst xs => xs.length ≤ sizeLine ∧ ∃ (its : List Value) (n : Nat), Vals xs its ∧ h.get? a = some { cls := .type "list", data := .seq its.toArray n }
  | .tup xs => xs.length ≤ sizeLine ∧ ∃ its : List Value, Vals xs its ∧ IsTup h a its.toArray
  | .dK kvs => kvs.length ≤ sizeLine ∧ (a == sysModules) = false ∧ ∃ vs, KV kvs vs ∧ h.DictOf (mixKind P w) a vs
  | .dT kvs => kvs.length ≤ sizeLine ∧ (a == sysModules) = false ∧ ∃ xs : List (List Key × Addr × Value),
      Paired (fun (p : List Key × V) (q : List Key × Addr × Value) => p.1 = q.1 ∧ H q.2.1 = some (.tup (p.1.map kV)) ∧ RelV p.2 q.2.2) kvs xs ∧
      ∃ o es ep, h.get? a = some o ∧ o.ExactDict ∧ o.data = .dict es ep ∧ es.toList = xs.map (entryOfKey (tupleKind (mixKind P w))) ∧ (xs.map (·.1)).Nodup
  | .dG kvs => kvs.length ≤ sizeLine ∧ (a == sysModules) = false ∧ ∃ xs : List (KD × Value × Value),
      Paired (fun (p : KD × V × V) (q : KD × Value × Value) => p.1 = q.1 ∧ GK H p.1 p.2.1 ∧ RelV p.2.1 q.2.1 ∧ RelV p.2.2 q.2.2) kvs xs ∧
      ∃ o es ep, h.get? a = some o ∧ o.ExactDict ∧ o.data = .dict es ep ∧ es.toList = xs.map (gEnt P w) ∧ (xs.map (·.1)).Nodup
  | .set S n => h.SetOf (intKind P w) a S n
  | .ins C dx fs => H dx = some (.own a) ∧ fs.length ≤ 1000 ∧ dx ≠ a ∧ h.get? a = some (PySem.W.instObj C dx) ∧
      ∃ mA, h.Ns1 dx mA ∧ (∀ f, RelO (fs.lookup f) (mA f)) ∧ PySem.Within mA (fs.map (·.1))
  | .own _ => ∃ o, h.get? a = some o
  | .xd fs => ∃ mA, h.Ns1 a mA ∧ ∀ f, RelO (fs.lookup f) (mA f)
  | .rng lo hi => ∃ t u v, h.get? a = some { cls := .type "range", data := .fields #[.int lo t, .int hi u, .int 1 v] }
  | .frz o u => h.get? a = some o ∧ ObjOk H h a u
  | .tbl ps => h.get? a = some { cls := .none, data := .fields ps }
  | .met f x => h.get? a = some (PySem.W.methodObj (.ref f) (.ref x))
  | .ext φ => φ h ∧ (∃ o, h.get? a = some o) ∧ ∀ h1 h2 : Heap, φ h1 → (∀ o, h1.get? a = some o → h2.get? a = some o) → φ h2
def HOk (H : Hp) (h : Heap) : Prop := ∀ a o, H a = some o → ObjOk P w H h a o
end
section
variable {P : Program} {w : World} {H H' : Hp} {h h' : Heap} {a : Addr} {o : HO}
theorem ObjOk.lt (x : ObjOk P w H h a o) : a < h.objs.size := by
  cases o with
  | lst xs => obtain ⟨_, _, _, _, e⟩ := x; exact Heap.lt_size e
  | tup xs => obtain ⟨_, _, _, p⟩ := x; exact p.lt
  | dK kvs => obtain ⟨_, _, _, _, o, _, _, e, _⟩ := x; exact Heap.lt_size e
  | dT kvs => obtain ⟨_, _, _, _, o, _, _, e, _⟩ := x; exact Heap.lt_size e
  | dG kvs => obtain ⟨_, _, _, _, o, _, _, e, _⟩ := x; exact Heap.lt_size e
  | set S n => obtain ⟨o, _, _, _, e, _⟩ := x; exact Heap.lt_size e
  | ins C dx fs => obtain ⟨_, _, _, e, _⟩ := x; exact Heap.lt_size e
  | own y => obtain ⟨_, e⟩ := x; exact Heap.lt_size e
  | xd fs => obtain ⟨_, ⟨_, _, _, e, _⟩, _⟩ := x; exact Heap.lt_size e
  | rng lo hi => obtain ⟨_, _, _, e⟩ := x; exact Heap.lt_size e
  | frz ob u => obtain ⟨e, _⟩ := x; exact Heap.lt_size e
  | tbl ps => exact Heap.lt_size (show h.get? a = some _ from x)
  | met f y => exact Heap.lt_size (show h.get? a = some _ from x)
  | ext φ => obtain ⟨_, ⟨_, e⟩, _⟩ := x; exact Heap.lt_size e
theorem Paired.mapP {α β : Type} {F G : α → β → Prop} : ∀ {l₁ : List α} {l₂ : List β}, Paired F l₁ l₂ → (∀ a b, F a b → G a b) → Paired G l₁ l₂
  | _, _, .nil, _ => .nil
  | _, _, .cons r t, f => .cons (f _ _ r) (Paired.mapP t f)
theorem GK.stay {H H' : Hp} {k : KD} {v : V} (g : GK H k v) (ht : ∀ b xs, H b = some (.tup xs) → H' b = some (.tup xs)) : GK H' k v := by
  cases k with
  | non => exact g
  | int i => exact g
  | tup ks => obtain ⟨b, e, h⟩ := g; exact ⟨b, e, ht _ _ h⟩
theorem ObjOk.stay (x : ObjOk P w H h a o) (k : ∀ b u, (b = a ∨ H b = some (.own a)) → h.get? b = some u → h'.get? b = some u)
    (ho : ∀ b, H b = some (.own a) → H' b = some (.own a)) (ht : ∀ b xs, H b = some (.tup xs) → H' b = some (.tup xs)) : ObjOk P w H' h' a o := by
  induction o with
  | lst xs => obtain ⟨z, its, n, r, e⟩ := x; exact ⟨z, its, n, r, k _ _ (.inl rfl) e⟩
  | tup xs => obtain ⟨z, its, r, ob, e, c⟩ := x; exact ⟨z, its, r, ob, k _ _ (.inl rfl) e, c⟩
  | dK kvs => obtain ⟨z, y, vs, r, ob, es, ep, e, c⟩ := x; exact ⟨z, y, vs, r, ob, es, ep, k _ _ (.inl rfl) e, c⟩
  | dT kvs =>
    obtain ⟨z, y, xs, r, ob, es, ep, e, c⟩ := x
    exact ⟨z, y, xs, Paired.mapP r fun p q z => ⟨z.1, ht _ _ z.2.1, z.2.2⟩, ob, es, ep, k _ _ (.inl rfl) e, c⟩
  | dG kvs =>
    obtain ⟨z, y, xs, r, ob, es, ep, e, c⟩ := x
    exact ⟨z, y, xs, Paired.mapP r fun p q z => ⟨z.1, z.2.1.stay ht, z.2.2⟩, ob, es, ep, k _ _ (.inl rfl) e, c⟩
  | set S n => obtain ⟨ob, es, ep, t, e, c⟩ := x; exact ⟨ob, es, ep, t, k _ _ (.inl rfl) e, c⟩
  | ins C dx fs =>
    obtain ⟨d, z, ne, e, mA, ⟨od, es, ep, e2, c⟩, r⟩ := x
    exact ⟨ho _ d, z, ne, k _ _ (.inl rfl) e, mA, ⟨od, es, ep, k _ _ (.inr d) e2, c⟩, r⟩
  | own y => obtain ⟨ob, e⟩ := x; exact ⟨ob, k _ _ (.inl rfl) e⟩
  | xd fs => obtain ⟨mA, ⟨od, es, ep, e, c⟩, r⟩ := x; exact ⟨mA, ⟨od, es, ep, k _ _ (.inl rfl) e, c⟩, r⟩
  | rng lo hi => obtain ⟨t, u, v, e⟩ := x; exact ⟨t, u, v, k _ _ (.inl rfl) e⟩
  | frz ob u ih => obtain ⟨e, q⟩ := x; exact ⟨k _ _ (.inl rfl) e, ih q⟩
  | tbl ps =>
    have e : h.get? a = some { cls := .none, data := .fields ps } := x
    show h'.get? a = some { cls := .none, data := .fields ps }
    exact k a _ (.inl rfl) e
  | met f y =>
    have e : h.get? a = some (PySem.W.methodObj (.ref f) (.ref y)) := x
    show h'.get? a = some (PySem.W.methodObj (.ref f) (.ref y))
    exact k a _ (.inl rfl) e
  | ext φ => obtain ⟨p, ⟨o, e⟩, st⟩ := x; exact ⟨st _ _ p fun o q => k _ _ (.inl rfl) q, ⟨o, k _ _ (.inl rfl) e⟩, st⟩
theorem HOk.lt (x : HOk P w H h) (e : H a = some o) : a < h.objs.size := (x a o e).lt
theorem HOk.fresh (x : HOk P w H h) (e : h.objs.size ≤ a) : H a = none := by
  cases q : H a with
  | none => rfl
  | some u => exact absurd (Nat.lt_of_lt_of_le (x.lt q) e) (Nat.lt_irrefl _)
theorem HOk.kept (x : HOk P w H h) (k : ∀ b u, h.get? b = some u → h'.get? b = some u) : HOk P w H h' := fun a o e =>
  (x a o e).stay (fun b u _ q => k b u q) (fun _ q => q) fun _ _ q => q
theorem HOk.laid (x : HOk P w H h) (k : ∀ b u, h.get? b = some u → h'.get? b = some u) (hp : h.objs.size ≤ a) (new : ObjOk P w (upd H a o) h' a o) : HOk P w (upd H a o) h' := fun b u e => by
  have hn := x.fresh hp
  by_cases hb : b = a
  · subst hb; rw [upd_same] at e; cases e; exact new
  · rw [upd_ne hb] at e
    exact (x b u e).stay (fun c v _ q => k c v q) (fun c q => by rw [upd_ne (ne_of_none q hn)]; exact q) fun c xs q => by rw [upd_ne (ne_of_none q hn)]; exact q
end
def Rd (H : Hp) (a : Addr) (u : HO) : Prop := H a = some u ∨ ∃ o, H a = some (.frz o u)
theorem Rd.of {H : Hp} {a : Addr} {u : HO} (h : H a = some u) : Rd H a u := .inl h
theorem Rd.ok {P : Program} {w : World} {H : Hp} {h : Heap} {a : Addr} {u : HO} (r : Rd H a u) (x : HOk P w H h) : ObjOk P w H h a u := by
  rcases r with r | ⟨o, r⟩
  · exact x a u r
  · obtain ⟨_, q⟩ := x a _ r
    exact q
def Mut : Option HO → Prop
  | some (.lst _) => True
  | some (.dK _) => True
  | some (.dT _) => True
  | some (.dG _) => True
  | some (.set _ _) => True
  | some (.ins _ _ _) => True
  | some (.ext _) => True
  | _ => False
section
variable {P : Program} {w : World} {H : Hp} {h h' : Heap} {x e : Addr} {o' : HO}
theorem HOk.write (ok : HOk P w H h) (mu : Mut (H x)) (he : e = x ∨ H e = some (.own x)) (k : ∀ b u, b ≠ e → h.get? b = some u → h'.get? b = some u) (heo : ∃ u, h'.get? e = some u)
    (new : ObjOk P w (upd H x o') h' x o') : HOk P w (upd H x o') h' := fun b u q => by
  have nown : ∀ c y, H c = some (.own y) → c ≠ x := fun c y r z => by subst z; rw [r] at mu; exact mu
  have ntup : ∀ c xs, H c = some (.tup xs) → c ≠ x := fun c xs r z => by subst z; rw [r] at mu; exact mu
  by_cases hb : b = x
  · subst hb; rw [upd_same] at q; cases q; exact new
  · rw [upd_ne hb] at q
    by_cases hbe : b = e
    · have q' : H b = some (.own x) := by
        rcases he with z | z
        · exact absurd (hbe.trans z) hb
        · rw [hbe]; exact z
      rw [q] at q'; cases q'
      obtain ⟨v, hv⟩ := heo
      exact ⟨v, by rw [hbe]; exact hv⟩
    · refine (ok b u q).stay (fun c v hc r => k c v ?_ r) (fun c r => by rw [upd_ne (nown c b r)]; exact r) fun c xs r => by rw [upd_ne (ntup c xs r)]; exact r
      rcases hc with rfl | hc
      · exact hbe
      · rintro rfl
        rcases he with z | z
        · exact nown c b hc z
        · rw [hc] at z; cases z; exact hb rfl
end
structure Un (fs ex : List Addr) (H H' : Hp) (h h' : Heap) : Prop where
  keep : ∀ b o, h.get? b = some o → H b = none → b ∉ fs → b ∉ ex → h'.get? b = some o
  slot : ∀ b o, h.get? b = some o → H b = none → b ∈ fs → b ∉ ex → ∃ sl, h'.get? b = some { o with slots := sl }
  free : ∀ b o, h.get? b = some o → H b = none → b ∉ ex → H' b = none
  there : ∀ b o, h.get? b = some o → b ∉ ex → ∃ o', h'.get? b = some o'
  tups : ∀ b xs, H b = some (.tup xs) → H' b = some (.tup xs)
  frzs : ∀ b o u, H b = some (.frz o u) → H' b = some (.frz o u)
  tbls : ∀ b ps, H b = some (.tbl ps) → ∃ more, H' b = some (.tbl (ps ++ more))
section
variable {fs fs' ex ex' : List Addr} {H H1 H2 : Hp} {h h1 h2 h' : Heap} {a x e : Addr} {o : HO}
theorem Un.any (u : Un fs ex H H1 h h1) {b : Addr} {ob : Obj} (q : h.get? b = some ob) (n : H b = none) (hx : b ∉ ex) : ∃ sl, h1.get? b = some { ob with slots := sl } := by
  by_cases hb : b ∈ fs
  · exact u.slot b ob q n hb hx
  · exact ⟨ob.slots, u.keep b ob q n hb hx⟩
theorem Un.trans (a : Un fs ex H H1 h h1) (b : Un fs ex H1 H2 h1 h2) : Un fs ex H H2 h h2 where
  keep := fun c ob q n hc hx => b.keep c ob (a.keep c ob q n hc hx) (a.free c ob q n hx) hc hx
  slot := fun c ob q n hc hx => by
    obtain ⟨sl, e1⟩ := a.slot c ob q n hc hx
    obtain ⟨sl', e2⟩ := b.slot c _ e1 (a.free c ob q n hx) hc hx
    exact ⟨sl', e2⟩
  free := fun c ob q n hx => by
    obtain ⟨o', e1⟩ := a.there c ob q hx
    exact b.free c o' e1 (a.free c ob q n hx) hx
  there := fun c ob q hx => by
    obtain ⟨o', e1⟩ := a.there c ob q hx
    exact b.there c o' e1 hx
  tups := fun c xs q => b.tups c xs (a.tups c xs q)
  frzs := fun c ob xs q => b.frzs c ob xs (a.frzs c ob xs q)
  tbls := fun c ps q => by
    obtain ⟨m1, e1⟩ := a.tbls c ps q
    obtain ⟨m2, e2⟩ := b.tbls c _ e1
    exact ⟨m1 ++ m2, by rw [e2, Array.append_assoc]⟩
theorem Un.kept (k : ∀ b u, h.get? b = some u → h'.get? b = some u) : Un fs ex H H h h' :=
  ⟨fun b ob q _ _ _ => k b ob q, fun b ob q _ _ _ => ⟨ob.slots, k b ob q⟩, fun _ _ _ n _ => n, fun b ob q _ => ⟨ob, k b ob q⟩, fun _ _ q => q, fun _ _ _ q => q, fun _ ps q => ⟨#[], by rw [q]; simp⟩⟩
theorem Un.refl : Un fs ex H H h h := Un.kept fun _ _ q => q
theorem Un.laid (k : ∀ b u, h.get? b = some u → h'.get? b = some u) (hp : h.objs.size ≤ a) (hn : H a = none) : Un fs ex H (upd H a o) h h' where
  keep := fun b u q _ _ _ => k b u q
  slot := fun b u q _ _ _ => ⟨u.slots, k b u q⟩
  free := fun b u q n _ => by rw [upd_ne (Nat.ne_of_lt (Nat.lt_of_lt_of_le (Heap.lt_size q) hp))]; exact n
  there := fun b u q _ => ⟨u, k b u q⟩
  tups := fun b xs q => by rw [upd_ne (ne_of_none q hn)]; exact q
  frzs := fun b u xs q => by rw [upd_ne (ne_of_none q hn)]; exact q
  tbls := fun b ps q => ⟨#[], by rw [upd_ne (ne_of_none q hn), q]; simp⟩
theorem Un.write (mu : Mut (H x)) (he : e = x ∨ H e = some (.own x)) (k : ∀ b u, b ≠ e → h.get? b = some u → h'.get? b = some u) (heo : ∃ u, h'.get? e = some u) : Un fs ex H (upd H x o) h h' := by
  have hx : ∀ b, H b = none → b ≠ x := fun b n z => by subst z; rw [n] at mu; exact mu
  have hb : ∀ b, H b = none → b ≠ e := fun b n z => by
    subst z
    rcases he with r | r
    · exact hx b n r
    · rw [n] at r; cases r
  have hm : ∀ b u, H b = some u → ¬ Mut (some u) → b ≠ x := fun b u q nm z => by subst z; rw [q] at mu; exact nm mu
  refine ⟨fun b u q n _ _ => k b u (hb b n) q, fun b u q n _ _ => ⟨u.slots, k b u (hb b n) q⟩, fun b u q n _ => by rw [upd_ne (hx b n)]; exact n, fun b u q _ => ?_,
    fun b xs q => by rw [upd_ne (hm b _ q fun z => z)]; exact q, fun b u xs q => by rw [upd_ne (hm b _ q fun z => z)]; exact q, fun b ps q => ⟨#[], by rw [upd_ne (hm b _ q fun z => z), q]; simp⟩⟩
  by_cases hbe : b = e
  · subst hbe; exact heo
  · exact ⟨u, k b u hbe q⟩
end
def trk (h : Heap) (H : Hp) : List Addr := (List.range h.objs.size).filter fun a => (H a).isSome
def hidT (h : Heap) (H : Hp) : Heap := PySem.W.hideAll h (trk h H)
theorem hidT_size (h : Heap) (H : Hp) : (hidT h H).objs.size = h.objs.size := PySem.W.hideAll_size _ _
theorem hidT_get {h : Heap} {H : Hp} {b : Addr} {o : Obj} (e : h.get? b = some o) (n : H b = none) : (hidT h H).get? b = some o :=
  PySem.W.hideAll_get _ e fun hm => by
    have q : (H b).isSome = true := (List.mem_filter.mp hm).2
    rw [n] at q; simp at q
theorem of_hidT {h : Heap} {H : Hp} {b : Addr} {o : Obj} (e : (hidT h H).get? b = some o) : h.get? b = some o ∧ H b = none := by
  have e' : h.get? b = some o := PySem.W.of_hideAll (trk h H) e
  refine ⟨e', ?_⟩
  cases q : H b with
  | none => rfl
  | some x =>
    have hm : b ∈ trk h H := List.mem_filter.mpr ⟨List.mem_range.mpr (Heap.lt_size e'), by simp [q]⟩
    have z : (hidT h H).get? b = none := PySem.W.hideAll_none (trk h H) hm
    rw [z] at e; cases e
end L2
namespace L2
open PySem PySem.Spec PyProof.Rows
structure Mod (K : PySem.W.Frag) (mg : Str → Option Value) (base : Heap) : Prop where
  kin : K.In base
  glob : base.Ns mainGlobals mg
  blt : ∃ mb, base.Ns builtinsNs mb ∧ ∀ x : Str, x ≠ "__name__" → mb x = bootBuiltins x
  nolimit : base.NoLimit
structure Cx where
  prog : Program
  w : World
  K : PySem.W.Frag
  mg : Str → Option Value
  base : Heap
  A : Around
  N : List Str
  s₀ : Shared
  H₀ : Hp
  env : Env
  outer : List Env
  stack : List Env
  ex : List Addr
  fn : Str → Bool
  calm : Bool
  pn : List (Addr × Obj)
  xe : Value → Shared → Prop
def frs (l : List Env) : List Addr := l.filterMap (·.frame)
abbrev Cx.fs (X : Cx) : List Addr := frs X.outer
def Vis (sc : Scope) (x : Str) : Prop := sc.names.lookup x = some .local ∨ sc.names.lookup x = some .cell ∨ sc.names.lookup x = some .free
def Loc (sc : Scope) (x : Str) : Prop := sc.names.lookup x = some .local ∨ sc.names.lookup x = some .cell
def Look (env : Env) (h : Heap) (m : Str → Option Value) (x : Str) (u : Value) : Prop :=
  (env.kindOf x = some .local ∧ m x = some u) ∨ ((env.kindOf x = some .cell ∨ env.kindOf x = some .free) ∧ ∃ c, env.cells.lookup x = some c ∧ h.IsCell c (some u))
structure Cx.Ok (X : Cx) : Prop where
  mod : Mod X.K X.mg X.base
  kind : X.env.scope.kind = .function
  glob : X.env.globals = mainGlobals
  blt : X.env.builtins = builtinsNs
  above : X.s₀.heap.objs.size ≤ X.env.locals
  inj : ∀ x y c, X.env.cells.lookup x = some c → X.env.cells.lookup y = some c → x = y
  has : ∀ x, (X.env.kindOf x = some .cell ∨ X.env.kindOf x = some .free) → ∃ c, X.env.cells.lookup x = some c
  cab : ∀ x c, X.fn x = true → X.env.cells.lookup x = some c → X.s₀.heap.objs.size ≤ c
  hd : X.calm = true → X.A.handled = none
  frames : X.A.frames = some X.stack
  stk : X.stack = X.outer ∨ (X.stack = X.env :: X.outer ∧ X.env.frame = some X.env.locals)
  exf : ∀ b ∈ X.ex, b ≠ X.env.locals ∧ ∀ x c, X.env.cells.lookup x = some c → c ≠ b
  bs : ∀ b o, X.base.get? b = some o → X.s₀.heap.get? b = some o ∧ X.H₀ b = none
  bsz : X.base.objs.size ≤ X.s₀.heap.objs.size
  noex : ∀ b o, X.base.get? b = some o → b ∉ X.ex
  exfs : ∀ b ∈ X.ex, b ∉ X.fs
  funs : X.s₀.heap.FunFrames X.base X.outer
  frf : ∀ b ∈ X.fs, X.H₀ b = none
structure Inv (X : Cx) (pins : List (Addr × Obj)) (σ : List (Option V)) (H : Hp) (s : Shared) : Prop where
  ok : X.Ok
  os : s.os = X.s₀.os
  bare : AllBare s.gens
  base : Un X.fs X.ex X.H₀ H X.s₀.heap s.heap
  loc : ∃ m, s.heap.Ns X.env.locals m ∧ ∀ (i : Nat) (x : Str) (v : V), X.N[i]? = some x → σ[i]? = some (some v) → Vis X.env.scope x → ∃ u, RelV v u ∧ Look X.env s.heap m x u
  cell : ∀ x c, X.env.cells.lookup x = some c → ∃ v, s.heap.IsCell c v
  free : H X.env.locals = none
  freeC : ∀ x c, X.env.cells.lookup x = some c → H c = none
  pin : ∀ p ∈ X.pn ++ pins, s.heap.get? p.1 = some p.2 ∧ H p.1 = none ∧ p.1 ≠ X.env.locals ∧ p.1 ∉ X.fs ∧ ∀ v, p.2.data ≠ .cell v
  hok : HOk X.prog X.w H s.heap
  len : σ.length = X.N.length
section
variable {X : Cx} {pins : List (Addr × Obj)} {σ : List (Option V)} {H H' : Hp} {s : Shared} {h' : Heap}
theorem Cx.Ok.nofr (ok : X.Ok) {b : Addr} {o : Obj} (e : X.base.get? b = some o) : b ∉ X.fs := fun hb => by
  have := (ok.funs.mem hb).1
  rw [e] at this; cases this
theorem Inv.bs (I : Inv X pins σ H s) : ∀ b o, X.base.get? b = some o → s.heap.get? b = some o ∧ H b = none := fun b o e =>
  ⟨I.base.keep b o (I.ok.bs b o e).1 (I.ok.bs b o e).2 (I.ok.nofr e) (I.ok.noex b o e), I.base.free b o (I.ok.bs b o e).1 (I.ok.bs b o e).2 (I.ok.noex b o e)⟩
theorem Inv.bk (I : Inv X pins σ H s) : ∀ b o, X.base.get? b = some o → s.heap.get? b = some o := fun b o e => (I.bs b o e).1
theorem Inv.mod (I : Inv X pins σ H s) : Mod X.K X.mg X.base := I.ok.mod
theorem Inv.kIn (I : Inv X pins σ H s) : X.K.In s.heap := I.ok.mod.kin.keeps I.bk
theorem Inv.lt (I : Inv X pins σ H s) : X.env.locals < s.heap.objs.size := let ⟨_, hn, _⟩ := I.loc; hn.lt
theorem Inv.sz (I : Inv X pins σ H s) : X.s₀.heap.objs.size ≤ s.heap.objs.size := Nat.le_trans I.ok.above (Nat.le_of_lt I.lt)
theorem Inv.nofs (I : Inv X pins σ H s) {a : Addr} (h : s.heap.objs.size ≤ a) : a ∉ X.fs := fun hb => by
  obtain ⟨_, o, ho, _⟩ := I.ok.funs.mem hb
  exact absurd (Nat.lt_of_lt_of_le (Heap.lt_size ho) (Nat.le_trans I.sz h)) (Nat.lt_irrefl _)
theorem Inv.cne (I : Inv X pins σ H s) : ∀ x c, X.env.cells.lookup x = some c → c ≠ X.env.locals := fun x c e z => by
  obtain ⟨v, o, ho, hd⟩ := I.cell x c e
  obtain ⟨m, ⟨o', es, ep, ho', hd', _⟩, _⟩ := I.loc
  rw [z, ho'] at ho; cases ho; rw [hd'] at hd; cases hd
theorem Inv.funs (I : Inv X pins σ H s) : s.heap.FunFrames X.base X.outer := by
  have all : ∀ (l : List Env), (∀ b ∈ frs l, b ∈ X.fs) → X.s₀.heap.FunFrames X.base l → s.heap.FunFrames X.base l := by
    intro l
    induction l with
    | nil => intro _ _; trivial
    | cons env r ih =>
      intro hs hl
      obtain ⟨hk, ⟨L, o, hf, hn, ho, hd⟩, hr⟩ := hl
      have hL : L ∈ X.fs := hs L (by unfold frs; rw [List.filterMap_cons, hf]; exact List.mem_cons_self)
      obtain ⟨sl, e⟩ := I.base.slot L o ho (I.ok.frf L hL) hL fun z => I.ok.exfs L z hL
      exact ⟨hk, ⟨L, _, hf, hn, e, hd⟩, ih (fun b hb => hs b (by unfold frs; rw [List.filterMap_cons, hf]; exact List.mem_cons_of_mem _ hb)) hr⟩
  exact all X.outer (fun _ hb => hb) I.ok.funs
theorem Inv.stack (I : Inv X pins σ H s) : s.heap.FunFrames X.base X.stack := by
  rcases I.ok.stk with e | ⟨e, hf⟩
  · rw [e]; exact I.funs
  · rw [e]
    obtain ⟨m, hn, _⟩ := I.loc
    refine .cons (by rw [I.ok.kind]; decide) hf hn ?_ I.funs
    exact Heap.get?_none_of_le (Nat.le_trans I.ok.bsz I.ok.above)
theorem Inv.stkSub (I : Inv X pins σ H s) : ∀ b ∈ frs X.stack, b ∈ X.env.locals :: X.fs := fun b hb => by
  rcases I.ok.stk with e | ⟨e, hf⟩
  · rw [e] at hb; exact List.mem_cons_of_mem _ hb
  · rw [e] at hb
    unfold frs at hb
    rw [List.filterMap_cons, hf] at hb
    exact hb
theorem Inv.stkFree (I : Inv X pins σ H s) : ∀ b ∈ frs X.stack, H b = none := fun b hb => by
  rcases List.mem_cons.mp (I.stkSub b hb) with e | hb
  · rw [e]; exact I.free
  · obtain ⟨_, o, ho, _⟩ := I.ok.funs.mem hb
    exact I.base.free b o ho (I.ok.frf b hb) fun z => I.ok.exfs b z hb
theorem Inv.step {g' : Array GenState} {t' : Nat} {d' : Drawn} {ch : List Addr} (I : Inv X pins σ H s)
    (hch : ∀ b ∈ ch, (b ∈ X.ex ∨ X.s₀.heap.objs.size ≤ b) ∧ b ≠ X.env.locals ∧ (∀ x c, X.env.cells.lookup x = some c → c ≠ b) ∧ ∀ p ∈ X.pn ++ pins, p.1 ≠ b)
    (keep : ∀ b o, b ≠ X.env.locals → b ∉ X.fs → b ∉ ch → s.heap.get? b = some o → H b = none → h'.get? b = some o)
    (slot : ∀ b o, b ≠ X.env.locals → b ∈ X.fs → b ∉ ch → s.heap.get? b = some o → H b = none → ∃ sl, h'.get? b = some { o with slots := sl }) (free : ∀ b o, b ∉ ch → s.heap.get? b = some o → H b = none → H' b = none)
    (there : ∀ b o, b ∉ ch → s.heap.get? b = some o → ∃ o', h'.get? b = some o')
    (tups : ∀ b xs, H b = some (.tup xs) → H' b = some (.tup xs)) (frzs : ∀ b o u, H b = some (.frz o u) → H' b = some (.frz o u)) (tbls : ∀ b ps, H b = some (.tbl ps) → ∃ more, H' b = some (.tbl (ps ++ more)))
    (ns : ∀ m, s.heap.Ns X.env.locals m → h'.Ns X.env.locals m) (hok : HOk X.prog X.w H' h') (hg : AllBare g') :
    Inv X pins σ H' { s with heap := h', gens := g', drawn := d', toks := t' } := by
  have neL : ∀ b o, X.s₀.heap.get? b = some o → b ≠ X.env.locals := fun b o e => Nat.ne_of_lt (Nat.lt_of_lt_of_le (Heap.lt_size e) I.ok.above)
  have neC : ∀ b o, X.s₀.heap.get? b = some o → b ∉ X.ex → b ∉ ch := fun b o e hx hb => by
    rcases (hch b hb).1 with z | z
    · exact hx z
    · exact absurd (Nat.lt_of_lt_of_le (Heap.lt_size e) z) (Nat.lt_irrefl _)
  have cellK : ∀ x c, X.env.cells.lookup x = some c → ∀ v, s.heap.IsCell c v → h'.IsCell c v := fun x c e v ⟨o, ho, hd⟩ => by
    have nch : c ∉ ch := fun z => (hch c z).2.2.1 x c e rfl
    by_cases hc : c ∈ X.fs
    · obtain ⟨sl, q⟩ := slot c o (I.cne x c e) hc nch ho (I.freeC x c e)
      exact ⟨_, q, hd⟩
    · exact ⟨o, keep c o (I.cne x c e) hc nch ho (I.freeC x c e), hd⟩
  refine ⟨I.ok, I.os, hg, ⟨fun b o e n hb hx => ?_, fun b o e n hb hx => ?_, fun b o e n hx => ?_, fun b o e hx => ?_, fun b xs e => tups b xs (I.base.tups b xs e), fun b o xs e => frzs b o xs (I.base.frzs b o xs e), fun b ps e => ?_⟩, ?_, fun x c e => ?_, ?_, fun x c e => ?_, fun p hp => ?_, hok, I.len⟩
  · exact keep b o (neL b o e) hb (neC b o e hx) (I.base.keep b o e n hb hx) (I.base.free b o e n hx)
  · obtain ⟨sl, e1⟩ := I.base.slot b o e n hb hx
    obtain ⟨sl', e2⟩ := slot b _ (neL b o e) hb (neC b o e hx) e1 (I.base.free b o e n hx)
    exact ⟨sl', e2⟩
  · obtain ⟨o', e1⟩ := I.base.there b o e hx
    exact free b o' (neC b o e hx) e1 (I.base.free b o e n hx)
  · obtain ⟨o', e1⟩ := I.base.there b o e hx
    exact there b o' (neC b o e hx) e1
  · obtain ⟨m1, e1⟩ := I.base.tbls b ps e
    obtain ⟨m2, e2⟩ := tbls b _ e1
    exact ⟨m1 ++ m2, by rw [e2, Array.append_assoc]⟩
  · obtain ⟨m, hn, hl⟩ := I.loc
    refine ⟨m, ns m hn, fun i x v e1 e2 e3 => ?_⟩
    obtain ⟨u, r, l⟩ := hl i x v e1 e2 e3
    refine ⟨u, r, ?_⟩
    rcases l with l | ⟨k, c, e, z⟩
    · exact .inl l
    · exact .inr ⟨k, c, e, cellK x c e _ z⟩
  · obtain ⟨v, z⟩ := I.cell x c e
    exact ⟨v, cellK x c e v z⟩
  · obtain ⟨m, ⟨o, _, _, ho, _⟩, _⟩ := I.loc
    exact free _ o (fun z => (hch _ z).2.1 rfl) ho I.free
  · obtain ⟨v, o, ho, hd⟩ := I.cell x c e
    exact free c o (fun z => (hch c z).2.2.1 x c e rfl) ho (I.freeC x c e)
  · obtain ⟨e, n, ne, nf, d⟩ := I.pin p hp
    have nch : p.1 ∉ ch := fun z => (hch p.1 z).2.2.2 p hp rfl
    exact ⟨keep p.1 p.2 ne nf nch e n, free p.1 p.2 nch e n, ne, nf, d⟩
theorem Inv.un {t' : Nat} (I : Inv X pins σ H s) (u : Un X.fs [] H H' s.heap h') (hok : HOk X.prog X.w H' h') : Inv X pins σ H' { s with heap := h', toks := t' } := by
  obtain ⟨m, ⟨o, es, ep, ho, r⟩, _⟩ := id I.loc
  obtain ⟨sl, hL⟩ := u.any ho I.free (by simp)
  exact I.step (g' := s.gens) (d' := s.drawn) (ch := []) (fun _ z => nomatch z) (fun b o _ hb _ e n => u.keep b o e n hb (by simp)) (fun b o _ hb _ e n => u.slot b o e n hb (by simp)) (fun b o _ e n => u.free b o e n (by simp)) (fun b o _ e => u.there b o e (by simp)) u.tups u.frzs u.tbls (fun m' hm => by
    obtain ⟨o', es', ep', ho', r'⟩ := hm
    rw [ho] at ho'; cases ho'
    exact ⟨_, es', ep', hL, r'⟩) hok I.bare
theorem Inv.call {g' : Array GenState} {t' : Nat} {d' : Drawn} {ch : List Addr} (I : Inv X pins σ H s) (u : Un (frs X.stack) ch H H' s.heap h') (hok : HOk X.prog X.w H' h') (hg : AllBare g')
    (hch : ∀ b ∈ ch, (b ∈ X.ex ∨ X.s₀.heap.objs.size ≤ b) ∧ b ≠ X.env.locals ∧ (∀ x c, X.env.cells.lookup x = some c → c ≠ b) ∧ ∀ p ∈ X.pn ++ pins, p.1 ≠ b) :
    Inv X pins σ H' { s with heap := h', gens := g', drawn := d', toks := t' } := by
  obtain ⟨m, ⟨o, es, ep, ho, r⟩, _⟩ := id I.loc
  obtain ⟨sl, hL⟩ := u.any ho I.free fun z => (hch _ z).2.1 rfl
  exact I.step (ch := ch) hch (fun b o hL hb hc e n => u.keep b o e n (fun z => (List.mem_cons.mp (I.stkSub b z)).elim hL hb) hc) (fun b o _ _ hc e n => u.any e n hc) (fun b o hc e n => u.free b o e n hc) (fun b o hc e => u.there b o e hc) u.tups u.frzs u.tbls (fun m' hm => by
    obtain ⟨o', es', ep', ho', r'⟩ := hm
    rw [ho] at ho'; cases ho'
    exact ⟨_, es', ep', hL, r'⟩) hok hg
theorem Inv.turned {t' : Nat} {it : Addr} (I : Inv X pins σ H s) (k : ∀ b o, b ≠ it → s.heap.get? b = some o → h'.get? b = some o) (hn : H it = none) (hL : it ≠ X.env.locals)
    (h1 : it ∈ X.ex ∨ X.s₀.heap.objs.size ≤ it) (h2 : ∀ x c, X.env.cells.lookup x = some c → c ≠ it) (h3 : ∀ p ∈ X.pn ++ pins, p.1 ≠ it) : Inv X pins σ H { s with heap := h', toks := t' } := by
  have nit : ∀ b u, H b = some u → b ≠ it := fun b u e z => by rw [z, hn] at e; cases e
  refine I.step (g' := s.gens) (d' := s.drawn) (ch := [it]) (fun b hb => ?_) (fun b o _ _ hc e _ => k b o (fun z => hc (by simp [z])) e) (fun b o _ _ hc e _ => ⟨o.slots, k b o (fun z => hc (by simp [z])) e⟩) (fun _ _ _ _ n => n)
    (fun b o hc e => ⟨o, k b o (fun z => hc (by simp [z])) e⟩) (fun _ _ e => e) (fun _ _ _ e => e) (fun b ps e => ⟨#[], by rw [e]; simp⟩) (fun m hm => ?_) (fun b u e => ?_) I.bare
  · have e : b = it := by simpa using hb
    subst e
    exact ⟨h1, hL, h2, h3⟩
  · obtain ⟨o, es, ep, ho, r⟩ := hm
    exact ⟨o, es, ep, k _ o (Ne.symm hL) ho, r⟩
  · refine (I.hok b u e).stay (fun c v hc q => k c v ?_ q) (fun _ q => q) fun _ _ q => q
    rcases hc with z | z
    · rw [z]; exact nit b u e
    · exact nit c _ z
theorem Inv.tok (I : Inv X pins σ H s) (t : Nat) : Inv X pins σ H { s with toks := t } := I.un (h' := s.heap) (t' := t) Un.refl I.hok
theorem Inv.kept {t' : Nat} (I : Inv X pins σ H s) (k : ∀ b u, s.heap.get? b = some u → h'.get? b = some u) : Inv X pins σ H { s with heap := h', toks := t' } := I.un (Un.kept k) (I.hok.kept k)
theorem Inv.laid {a : Addr} {o : HO} {t' : Nat} (I : Inv X pins σ H s) (k : ∀ b u, s.heap.get? b = some u → h'.get? b = some u) (hp : s.heap.objs.size ≤ a) (new : ObjOk X.prog X.w (upd H a o) h' a o) :
    Inv X pins σ (upd H a o) { s with heap := h', toks := t' } := I.un (Un.laid k hp (I.hok.fresh hp)) (I.hok.laid k hp new)
theorem Inv.write {x e : Addr} {o : HO} {t' : Nat} (I : Inv X pins σ H s) (mu : Mut (H x)) (he : e = x ∨ H e = some (.own x)) (k : ∀ b u, b ≠ e → s.heap.get? b = some u → h'.get? b = some u) (heo : ∃ u, h'.get? e = some u)
    (new : ObjOk X.prog X.w (upd H x o) h' x o) : Inv X pins σ (upd H x o) { s with heap := h', toks := t' } := I.un (Un.write mu he k heo) (I.hok.write mu he k heo new)
theorem Inv.weak {σ' : List (Option V)} (I : Inv X pins σ H s) (hl : σ'.length = σ.length) (w : ∀ (i : Nat) v, σ'[i]? = some (some v) → σ[i]? = some (some v)) : Inv X pins σ' H s :=
  ⟨I.ok, I.os, I.bare, I.base, let ⟨m, hn, hl'⟩ := I.loc; ⟨m, hn, fun i x v e1 e2 e3 => hl' i x v e1 (w i v e2) e3⟩, I.cell, I.free, I.freeC, I.pin, I.hok, hl.trans I.len⟩
theorem Inv.pins_of {pins' : List (Addr × Obj)} (I : Inv X pins σ H s) (h : ∀ p ∈ pins', s.heap.get? p.1 = some p.2 ∧ H p.1 = none ∧ p.1 ≠ X.env.locals ∧ p.1 ∉ X.fs ∧ ∀ v, p.2.data ≠ .cell v) : Inv X pins' σ H s :=
  ⟨I.ok, I.os, I.bare, I.base, I.loc, I.cell, I.free, I.freeC, fun p hp => (List.mem_append.mp hp).elim (fun z => I.pin p (List.mem_append_left _ z)) (h p), I.hok, I.len⟩
theorem nodup_ix {N : List Str} (hN : N.Nodup) {i j : Nat} {x : Str} (a : N[i]? = some x) (b : N[j]? = some x) : i = j := by
  obtain ⟨h1, e1⟩ := List.getElem?_eq_some_iff.mp a
  obtain ⟨h2, e2⟩ := List.getElem?_eq_some_iff.mp b
  exact (List.getElem_inj hN).mp (e1.trans e2.symm)
theorem store_ok2 {M : Model} {A : Around} {E : Value → Shared → Prop} {i : Nat} {x : Str} {v : V} {u : Value} {Q : Unit → Shared → Prop} (I : Inv X pins σ H s) (hN : X.N.Nodup) (hi : X.N[i]? = some x) (hx : Loc X.env.scope x) (r : RelV v u)
    (h : ∀ s', Inv X pins (σ.set i (some v)) H s' → (∃ a, Heap.SameBut a s.heap s'.heap ∧ (a = X.env.locals ∨ X.env.cells.lookup x = some a)) → Q () s') (hf : X.fn x = true ∨ X.env.scope.names.lookup x = some .local := by first | exact .inl rfl | exact .inr rfl | assumption) : wpAny M A (storeName X.env x u) Q E s := by
  obtain ⟨m, hn, hl⟩ := id I.loc
  have hcls : (X.env.scope.kind == .class || (X.env.scope.kind == .module && X.env.locals != X.env.globals)) = false := by rw [I.ok.kind]; rfl
  have hiσ : i < σ.length := by rw [I.len]; exact (List.getElem?_eq_some_iff.mp hi).1
  have cne := I.cne
  have tracked : ∀ {a : Addr} {h' : Heap}, (∃ o, s.heap.get? a = some o ∧ H a = none) → Heap.SameBut a s.heap h' → HOk X.prog X.w H h' := fun {a h'} ha hs b ob e => by
    obtain ⟨_, _, hfree⟩ := ha
    refine (I.hok b ob e).stay (fun c w' hc q => (hs.2 c ?_).trans q) (fun _ q => q) fun _ _ q => q
    rintro rfl
    rcases hc with rfl | hc
    · rw [hfree] at e; cases e
    · rw [hfree] at hc; cases hc
  rcases hx with hk | hk
  · refine wpAny_storeName_local hk hn (fun h' hn' hs => ?_) hcls
    obtain ⟨oL, _, _, hoL, _⟩ := id hn
    refine h _ ⟨I.ok, I.os, I.bare, ⟨fun b o e n hb hx => ?_, fun b o e n hb hx => ?_, I.base.free, fun b o e hx => ?_, I.base.tups, I.base.frzs, I.base.tbls⟩, ⟨_, hn', fun j y v' e1 e2 e3 => ?_⟩, fun y c e => ?_, I.free, I.freeC, fun p hp => ?_, tracked ⟨oL, hoL, I.free⟩ hs, by simpa using I.len⟩ ⟨_, hs, .inl rfl⟩
    · exact (hs.2 b (Nat.ne_of_lt (Nat.lt_of_lt_of_le (Heap.lt_size e) I.ok.above))).trans (I.base.keep b o e n hb hx)
    · obtain ⟨sl, e1⟩ := I.base.slot b o e n hb hx
      exact ⟨sl, (hs.2 b (Nat.ne_of_lt (Nat.lt_of_lt_of_le (Heap.lt_size e) I.ok.above))).trans e1⟩
    · obtain ⟨o', e1⟩ := I.base.there b o e hx
      exact ⟨o', (hs.2 b (Nat.ne_of_lt (Nat.lt_of_lt_of_le (Heap.lt_size e) I.ok.above))).trans e1⟩
    · by_cases hj : j = i
      · subst hj
        rw [hi] at e1; cases e1
        rw [List.getElem?_set_self hiσ] at e2
        cases e2
        exact ⟨u, r, .inl ⟨hk, by simp⟩⟩
      · rw [List.getElem?_set_ne (Ne.symm hj)] at e2
        obtain ⟨u', r', q⟩ := hl j y v' e1 e2 e3
        refine ⟨u', r', ?_⟩
        rcases q with ⟨k, e⟩ | ⟨k, c, e, z⟩
        · refine .inl ⟨k, ?_⟩
          have : y ≠ x := fun e => hj (nodup_ix hN e1 (e ▸ hi))
          simp [this, e]
        · exact .inr ⟨k, c, e, z.sameBut hs (cne y c e)⟩
    · obtain ⟨w', z⟩ := I.cell y c e
      exact ⟨w', z.sameBut hs (cne y c e)⟩
    · obtain ⟨e, n, ne, nf, d⟩ := I.pin p hp
      exact ⟨(hs.2 p.1 ne).trans e, n, ne, nf, d⟩
  · have hfn : X.fn x = true := by
      rcases hf with z | z
      · exact z
      · rw [z] at hk; cases hk
    obtain ⟨c, hc⟩ := I.ok.has x (.inl hk)
    obtain ⟨w', z⟩ := I.cell x c hc
    refine wpAny_storeName_cell I.ok.kind hk hc z (fun h' hc' hs => ?_)
    obtain ⟨oc, hoc, hocd⟩ := id z
    refine h { s with heap := h' } ⟨I.ok, I.os, I.bare, ⟨fun b o e n hb hx => ?_, fun b o e n hb hx => ?_, I.base.free, fun b o e hx => ?_, I.base.tups, I.base.frzs, I.base.tbls⟩, ⟨m, hn.sameBut hs (Ne.symm (cne x c hc)), fun j y v' e1 e2 e3 => ?_⟩, fun y c' e => ?_, I.free, I.freeC, fun p hp => ?_, tracked ⟨oc, hoc, I.freeC x c hc⟩ hs, by simpa using I.len⟩ ⟨c, hs, .inr hc⟩
    · exact (hs.2 b (Nat.ne_of_lt (Nat.lt_of_lt_of_le (Heap.lt_size e) (I.ok.cab x c hfn hc)))).trans (I.base.keep b o e n hb hx)
    · obtain ⟨sl, e1⟩ := I.base.slot b o e n hb hx
      exact ⟨sl, (hs.2 b (Nat.ne_of_lt (Nat.lt_of_lt_of_le (Heap.lt_size e) (I.ok.cab x c hfn hc)))).trans e1⟩
    · obtain ⟨o', e1⟩ := I.base.there b o e hx
      exact ⟨o', (hs.2 b (Nat.ne_of_lt (Nat.lt_of_lt_of_le (Heap.lt_size e) (I.ok.cab x c hfn hc)))).trans e1⟩
    · by_cases hj : j = i
      · subst hj
        rw [hi] at e1; cases e1
        rw [List.getElem?_set_self hiσ] at e2
        cases e2
        exact ⟨u, r, .inr ⟨.inl hk, c, hc, hc'⟩⟩
      · rw [List.getElem?_set_ne (Ne.symm hj)] at e2
        obtain ⟨u', r', q⟩ := hl j y v' e1 e2 e3
        refine ⟨u', r', ?_⟩
        rcases q with q | ⟨k, c', e, z'⟩
        · exact .inl q
        · refine .inr ⟨k, c', e, z'.sameBut hs ?_⟩
          rintro rfl
          exact hj (nodup_ix hN e1 (I.ok.inj _ _ _ e hc ▸ hi))
    · by_cases hcc : c' = c
      · subst hcc; exact ⟨_, hc'⟩
      · obtain ⟨w2, z2⟩ := I.cell y c' e
        exact ⟨w2, z2.sameBut hs hcc⟩
    · obtain ⟨e, n, ne, nf, d⟩ := I.pin p hp
      refine ⟨(hs.2 p.1 ?_).trans e, n, ne, nf, d⟩
      intro q
      rw [q, hoc] at e
      have q' : oc = p.2 := Option.some.inj e
      exact d w' (by rw [← q']; exact hocd)
theorem store_ok {M : Model} {A : Around} {E : Value → Shared → Prop} {i : Nat} {x : Str} {v : V} {u : Value} {Q : Unit → Shared → Prop} (I : Inv X pins σ H s) (hN : X.N.Nodup) (hi : X.N[i]? = some x) (hx : Loc X.env.scope x) (r : RelV v u)
    (h : ∀ s', Inv X pins (σ.set i (some v)) H s' → Q () s') (hf : X.fn x = true ∨ X.env.scope.names.lookup x = some .local := by first | exact .inl rfl | exact .inr rfl | assumption) : wpAny M A (storeName X.env x u) Q E s :=
  store_ok2 I hN hi hx r (fun s' I' _ => h s' I') hf
theorem Inv.call' {s' : Shared} {ch : List Addr} (I : Inv X pins σ H s) (ho : s'.os = s.os) (u : Un (frs X.stack) ch H H' s.heap s'.heap) (hok : HOk X.prog X.w H' s'.heap) (hg : AllBare s'.gens)
    (hch : ∀ b ∈ ch, (b ∈ X.ex ∨ X.s₀.heap.objs.size ≤ b) ∧ b ≠ X.env.locals ∧ (∀ x c, X.env.cells.lookup x = some c → c ≠ b) ∧ ∀ p ∈ X.pn ++ pins, p.1 ≠ b) : Inv X pins σ H' s' := by
  obtain ⟨h', g', d', t', o'⟩ := s'
  have e : o' = s.os := ho
  subst e
  exact I.call (g' := g') (t' := t') (d' := d') u hok hg hch
end
abbrev XK := Value → Option Addr → Hp → Prop
abbrev St := List (Option V)
abbrev VK := V → Hp → Prop
abbrev TE := St → Hp → VK → Prop
abbrev TT := St → Hp → (Bool → Hp → Prop) → Prop
abbrev TA := St → Hp → (List V → Hp → Prop) → Prop
structure Ends where
  nx : St → Hp → Prop
  rt : VK
  bk : St → Hp → Prop := fun _ _ => False
  ct : St → Hp → Prop := fun _ _ => False
abbrev TS := Ends → St → Hp → Prop
def EP (X : Cx) (pins : List (Addr × Obj)) (σ : St) (Q : VK) (u : Value) (s' : Shared) : Prop := ∃ v H', Inv X pins σ H' s' ∧ RelV v u ∧ Q v H'
def TP (X : Cx) (pins : List (Addr × Obj)) (σ : St) (Q : Bool → Hp → Prop) (b : Bool) (s' : Shared) : Prop := ∃ H', Inv X pins σ H' s' ∧ Q b H'
def AP (X : Cx) (pins : List (Addr × Obj)) (σ : St) (Q : List V → Hp → Prop) (us : List Value) (s' : Shared) : Prop := ∃ vs H', Inv X pins σ H' s' ∧ Vals vs us ∧ Q vs H'
def SP (X : Cx) (pins : List (Addr × Obj)) (D : Ends) (f : Flow) (s' : Shared) : Prop :=
  match f with
  | .next => ∃ σ' H', Inv X pins σ' H' s' ∧ D.nx σ' H'
  | .brk => ∃ σ' H', Inv X pins σ' H' s' ∧ D.bk σ' H'
  | .cont => ∃ σ' H', Inv X pins σ' H' s' ∧ D.ct σ' H'
  | .ret u => ∃ v σ' H', Inv X pins σ' H' s' ∧ RelV v u ∧ D.rt v H'
def PE (X : Cx) (e : Expr) (t : TE) : Prop :=
  ∀ (pins : List (Addr × Obj)) (s : Shared) (σ : St) (H : Hp) (Q : VK), Inv X pins σ H s → t σ H Q → wpAny (model X.prog X.w) X.A (eval e X.env) (EP X pins σ Q) X.xe s
def PT (X : Cx) (e : Expr) (t : TT) : Prop :=
  ∀ (pins : List (Addr × Obj)) (s : Shared) (σ : St) (H : Hp) (Q : Bool → Hp → Prop), Inv X pins σ H s → t σ H Q → wpAny (model X.prog X.w) X.A (isTrue e X.env (eval e X.env)) (TP X pins σ Q) X.xe s
def PW (X : Cx) (e : Expr) (t : TT) : Prop :=
  ∀ (whole : Sem Value) (pins : List (Addr × Obj)) (s : Shared) (σ : St) (H : Hp) (Q : Bool → Hp → Prop), Inv X pins σ H s → t σ H Q → wpAny (model X.prog X.w) X.A (isTrue e X.env whole) (TP X pins σ Q) X.xe s
theorem PW.pt {X : Cx} {e : Expr} {t : TT} (h : PW X e t) : PT X e t := h _
def PA (X : Cx) (es : List Expr) (t : TA) : Prop :=
  ∀ (pos : Pos) (pins : List (Addr × Obj)) (s : Shared) (σ : St) (H : Hp) (Q : List V → Hp → Prop), Inv X pins σ H s → t σ H Q → wpAny (model X.prog X.w) X.A (spliced (backTo pos (starEach es X.env))) (AP X pins σ Q) X.xe s
def PS (X : Cx) (st : Stmt) (t : TS) : Prop :=
  ∀ (pins : List (Addr × Obj)) (s : Shared) (σ : St) (H : Hp) (D : Ends), Inv X pins σ H s → t D σ H → wpAny (model X.prog X.w) X.A (exec st X.env) (SP X pins D) X.xe s
def PSs (X : Cx) (st : List Stmt) (t : TS) : Prop :=
  ∀ (pins : List (Addr × Obj)) (s : Shared) (σ : St) (H : Hp) (D : Ends), Inv X pins σ H s → t D σ H → wpAny (model X.prog X.w) X.A (execs st X.env) (SP X pins D) X.xe s
theorem thn {α : Type} {t : Sem α} {Q Q' : α → Shared → Prop} {M : Model} {A : Around} {E : Value → Shared → Prop} {s : Shared} (h : wpAny M A t Q E s) (hQ : ∀ a s, Q a s → Q' a s) : wpAny M A t Q' E s := wpAny_mono h hQ fun _ _ x => x
end L2
namespace L2
open PySem PySem.Spec PyProof.Rows
section
variable {X : Cx}
def tVar (i : Nat) : TE := fun σ H Q => ∃ v, σ[i]? = some (some v) ∧ Q v H
def tC (v : V) : TE := fun _ H Q => Q v H
theorem pe_var {i : Nat} {x : Str} {pos : Pos} (hN : X.N[i]? = some x) (hv : Vis X.env.scope x) (hd : (x == ("__debug__" : Str)) = false := by decide) (hcd : (x == ("__classdict__" : Str)) = false := by decide) : PE X (.Name x pos) (tVar i) := by
  intro pins s σ H Q I h
  obtain ⟨v, e, h⟩ := h
  obtain ⟨m, hn, hl⟩ := I.loc
  obtain ⟨u, r, l⟩ := hl i x v hN e hv
  have fin : EP X pins σ Q u s := ⟨v, H, I, r, h⟩
  rcases l with ⟨hk, hm⟩ | ⟨hk, c, hc, hcell⟩
  · exact wpAny_Name (wpAny_loadName_local I.ok.kind hk hn hm fin) hd
  · rcases hk with hk | hk
    · exact wpAny_Name (wpAny_loadName_cell I.ok.kind hk hc hcell fin) hd
    · exact wpAny_Name (wpAny_loadName_free I.ok.kind hk hc hcell fin hcd) hd
theorem pe_int {i j pos} : PE X (.Constant (.int i) j pos) (tC (.int i)) := fun _ _ _ H _ I h => wpAny_Constant_int ⟨.int i, H, I.tok _, ⟨_, rfl⟩, h⟩
theorem pe_bl {b j pos} : PE X (.Constant (.bool b) j pos) (tC (.bl b)) := fun _ _ _ H _ I h => Constant_bool ⟨.bl b, H, I, rfl, h⟩
theorem pe_non {j pos} : PE X (.Constant .none j pos) (tC .non) := fun _ _ _ H _ I h => Constant_none ⟨.non, H, I, rfl, h⟩
theorem pe_str {x j pos} : PE X (.Constant (.str x) j pos) (tC (.str x)) := fun _ _ _ H _ I h => Calls.Constant_str ⟨.str x, H, I.tok _, ⟨_, rfl⟩, h⟩
def Gl (X : Cx) (x : Str) : Prop := X.env.kindOf x = some .globalImplicit
theorem ld_glob {E : Value → Shared → Prop} {pins : List (Addr × Obj)} {s : Shared} {σ : St} {H : Hp} {x : Str} {u : Value} {pos : Pos} {Q : Value → Shared → Prop} (I : Inv X pins σ H s) (hg : Gl X x) (hm : X.mg x = some u) (h : Q u s)
    (hd : (x == ("__debug__" : Str)) = false := by decide) : wpAny (model X.prog X.w) X.A (eval (.Name x pos) X.env) Q E s :=
  Calls.Name_function_global I.ok.kind hg (Calls.loadGlobal_global (by rw [I.ok.glob]; exact I.mod.glob.keeps I.bk) hm h) hd
theorem ld_blt {E : Value → Shared → Prop} {pins : List (Addr × Obj)} {s : Shared} {σ : St} {H : Hp} {x : Str} {u : Value} {pos : Pos} {Q : Value → Shared → Prop} (I : Inv X pins σ H s) (hg : Gl X x) (hm : X.mg x = none) (hv : bootBuiltins x = some u) (h : Q u s)
    (hn : x ≠ "__name__" := by decide) (hd : (x == ("__debug__" : Str)) = false := by decide) : wpAny (model X.prog X.w) X.A (eval (.Name x pos) X.env) Q E s := by
  obtain ⟨mb, h1, h2⟩ := I.mod.blt
  exact Calls.Name_function_global I.ok.kind hg (Calls.loadGlobal_builtin (by rw [I.ok.glob]; exact I.mod.glob.keeps I.bk) hm (by rw [I.ok.blt]; exact h1.keeps I.bk) ((h2 x hn).trans hv) h) hd
variable {a b : Expr} {ta tb : TE} {pos : Pos}
def tB (t : TE) : TT := fun σ H Q => t σ H fun x H1 => ∃ c, x = .bl c ∧ Q c H1
theorem pt_val {e : Expr} {t : TE} (h : PE X e t) (he : ∀ whole, isTrue e X.env whole = (do let v ← whole; standAt e.pos; holding [v] (truthy v)) := by intro _; rfl) : PT X e (tB t) := by
  intro pins s σ H Q I hw
  refine isTrue_plain (thn (h pins s σ H _ I hw) fun v s1 ⟨x, H1, I1, r1, q1⟩ => ?_) (he _)
  obtain ⟨d, rfl, q⟩ := q1
  cases r1
  exact wpAny_truthy_bool ⟨H1, I1, q⟩
variable {tA tB' : TT} {rest : List Expr}
def tAnd (t u : TT) : TT := fun σ H Q => t σ H fun c H1 => if c = true then u σ H1 Q else Q false H1
def tOr (t u : TT) : TT := fun σ H Q => t σ H fun c H1 => if c = true then Q true H1 else u σ H1 Q
theorem pw_and1 (ha : PT X a tA) : PW X (.BoolOp .And [a] pos) tA := by
  intro wh pins s σ H Q I h
  refine isTrue_and (thn (ha pins s σ H Q I h) fun c s1 e => ?_)
  cases c with
  | true => exact isTrue_and_nil e
  | false => exact e
theorem pw_or1 (ha : PT X a tA) : PW X (.BoolOp .Or [a] pos) tA := by
  intro wh pins s σ H Q I h
  refine isTrue_or (thn (ha pins s σ H Q I h) fun c s1 e => ?_)
  cases c with
  | false => exact isTrue_or_nil e
  | true => exact e
theorem pw_and (ha : PT X a tA) (hb : PW X (.BoolOp .And (b :: rest) pos) tB') : PW X (.BoolOp .And (a :: b :: rest) pos) (tAnd tA tB') := by
  intro wh pins s σ H Q I h
  refine isTrue_and (thn (ha pins s σ H _ I h) fun c s1 ⟨H1, I1, q1⟩ => ?_)
  cases c with
  | true => exact hb wh pins s1 σ H1 Q I1 q1
  | false => exact ⟨H1, I1, q1⟩
theorem pw_or (ha : PT X a tA) (hb : PW X (.BoolOp .Or (b :: rest) pos) tB') : PW X (.BoolOp .Or (a :: b :: rest) pos) (tOr tA tB') := by
  intro wh pins s σ H Q I h
  refine isTrue_or (thn (ha pins s σ H _ I h) fun c s1 ⟨H1, I1, q1⟩ => ?_)
  cases c with
  | true => exact ⟨H1, I1, q1⟩
  | false => exact hb wh pins s1 σ H1 Q I1 q1
def tAndV (ta tb : TE) : TE := fun σ H Q => ta σ H fun x H1 => ∃ c, x = .bl c ∧ if c = true then tb σ H1 Q else Q (.bl false) H1
theorem pe_one {op} {t : TE} (h : PE X a t) : PE X (.BoolOp op [a] pos) t := fun pins s σ H Q I hw => BoolOp_one (h pins s σ H Q I hw)
theorem pe_and (ha : PE X a ta) (hb : PE X (.BoolOp .And (b :: rest) pos) tb) : PE X (.BoolOp .And (a :: b :: rest) pos) (tAndV ta tb) := by
  intro pins s σ H Q I h
  refine BoolOp_and (thn (ha pins s σ H _ I h) fun v s1 ⟨x, H1, I1, r1, q1⟩ => ?_)
  obtain ⟨c, rfl, q1⟩ := q1
  cases r1
  refine wpAny_truthy_bool ?_
  cases c with
  | true => exact hb pins s1 σ H1 Q I1 q1
  | false => exact ⟨.bl false, H1, I1, rfl, q1⟩
end
end L2
namespace L2
open PySem PySem.Spec PyProof.Rows
def SqL (K : PySem.W.Frag) (H : Hp) (a : Addr) (xs : List V) : Prop :=
  Rd H a (.lst xs) ∨
    ∃ (o : Obj) (its : Array Value) (n : Nat), K.lookup a = some o ∧ o.cls = .type "list" ∧ o.dict = none ∧ o.data = .seq its n ∧ its.size ≤ sizeLine ∧ Vals xs its.toList
def SqT (K : PySem.W.Frag) (H : Hp) (a : Addr) (xs : List V) : Prop :=
  Rd H a (.tup xs) ∨
    ∃ (o : Obj) (its : Array Value) (n : Nat), K.lookup a = some o ∧ o.cls = .type "tuple" ∧ o.data = .seq its n ∧ its.size ≤ sizeLine ∧ Vals xs its.toList
def absV : Value → Option V
  | .none => some .non
  | .bool b => some (.bl b)
  | .int i _ => some (.int i)
  | .str x _ => some (.str x)
  | .bytes b _ => some (.byt b)
  | .float b _ => some (.flt b)
  | .ref a => some (.ref a)
  | .type n => some (.ty n)
  | _ => none
theorem RelV.abs {x : V} {u : Value} (r : RelV x u) : absV u = some x := by
  cases x with
  | non => cases r; rfl
  | bl _ => cases r; rfl
  | int _ => obtain ⟨t, rfl⟩ := r; rfl
  | str _ => obtain ⟨t, rfl⟩ := r; rfl
  | byt _ => obtain ⟨t, rfl⟩ := r; rfl
  | flt _ => obtain ⟨t, rfl⟩ := r; rfl
  | ref _ => cases r; rfl
  | ty _ => cases r; rfl
theorem RelV.inj {x y : V} {u : Value} (r : RelV x u) (q : RelV y u) : x = y := Option.some.inj (r.abs.symm.trans q.abs)
theorem Vals.inj : ∀ {xs ys : List V} {us : List Value}, Vals xs us → Vals ys us → xs = ys
  | _, _, _, .nil, .nil => rfl
  | _, _, _, .cons r t, .cons r' t' => by rw [r.inj r', Vals.inj t t']
section
variable {X : Cx} {pins : List (Addr × Obj)} {σ : St} {H : Hp} {s : Shared} {a : Addr} {xs ys : List V}
theorem SqL.of {K : PySem.W.Frag} (h : H a = some (.lst xs)) : SqL K H a xs := .inl (.inl h)
theorem SqT.of {K : PySem.W.Frag} (h : H a = some (.tup xs)) : SqT K H a xs := .inl (.inl h)
theorem Inv.list (I : Inv X pins σ H s) (h : SqL X.K H a xs) : ∃ its : List Value, Vals xs its ∧ PlainL s.heap a its.toArray ∧ xs.length ≤ sizeLine := by
  rcases h with h | ⟨o, its, n, hk, hc, hd, hs, hz, r⟩
  · obtain ⟨z, its, n, r, e⟩ := h.ok I.hok
    exact ⟨its, r, ⟨_, n, e, rfl, rfl, rfl⟩, z⟩
  · refine ⟨its.toList, r, ⟨o, n, I.kIn a o hk, hc, hd, by simpa using hs⟩, ?_⟩
    have e := r.length
    simp only [Array.length_toList] at e
    omega
theorem Inv.tuple (I : Inv X pins σ H s) (h : SqT X.K H a xs) : ∃ its : List Value, Vals xs its ∧ IsTup s.heap a its.toArray ∧ xs.length ≤ sizeLine := by
  rcases h with h | ⟨o, its, n, hk, hc, hs, hz, r⟩
  · obtain ⟨z, its, r, p⟩ := h.ok I.hok
    exact ⟨its, r, p, z⟩
  · refine ⟨its.toList, r, ⟨o, I.kIn a o hk, hc, n, by simpa using hs⟩, ?_⟩
    have e := r.length
    simp only [Array.length_toList] at e
    omega
theorem Inv.list_inj (I : Inv X pins σ H s) (h : SqL X.K H a xs) (h' : SqL X.K H a ys) : xs = ys := by
  obtain ⟨its, r, ⟨o, n, e, _, _, d⟩, _⟩ := I.list h
  obtain ⟨its', r', ⟨o', n', e', _, _, d'⟩, _⟩ := I.list h'
  rw [e] at e'; cases e'
  rw [d] at d'
  injection d' with d1 _
  have : its = its' := by simpa using congrArg Array.toList d1
  subst this
  exact r.inj r'
end
abbrev Cx.wish (X : Cx) (E : Value → Shared → Prop) : Cx := { X with xe := E }
abbrev Cx.nox (X : Cx) : Cx := X.wish fun _ _ => False
theorem Cx.Ok.wish {X : Cx} (ok : X.Ok) (E : Value → Shared → Prop) : (X.wish E).Ok :=
  ⟨ok.mod, ok.kind, ok.glob, ok.blt, ok.above, ok.inj, ok.has, ok.cab, ok.hd, ok.frames, ok.stk, ok.exf, ok.bs, ok.bsz, ok.noex, ok.exfs, ok.funs, ok.frf⟩
theorem Cx.Ok.unwish {X : Cx} {E : Value → Shared → Prop} (ok : (X.wish E).Ok) : X.Ok :=
  ⟨ok.mod, ok.kind, ok.glob, ok.blt, ok.above, ok.inj, ok.has, ok.cab, ok.hd, ok.frames, ok.stk, ok.exf, ok.bs, ok.bsz, ok.noex, ok.exfs, ok.funs, ok.frf⟩
section
variable {X : Cx} {pins : List (Addr × Obj)} {σ : St} {H : Hp} {s : Shared} {E : Value → Shared → Prop}
theorem Inv.wish (I : Inv X pins σ H s) (E : Value → Shared → Prop) : Inv (X.wish E) pins σ H s := ⟨I.ok.wish E, I.os, I.bare, I.base, I.loc, I.cell, I.free, I.freeC, I.pin, I.hok, I.len⟩
theorem Inv.unwish (I : Inv (X.wish E) pins σ H s) : Inv X pins σ H s := ⟨I.ok.unwish, I.os, I.bare, I.base, I.loc, I.cell, I.free, I.freeC, I.pin, I.hok, I.len⟩
theorem SP.unwish {D : Ends} {f : Flow} {s' : Shared} (h : SP (X.wish E) pins D f s') : SP X pins D f s' := by
  cases f with
  | next => obtain ⟨σ', H', I, q⟩ := h; exact ⟨σ', H', I.unwish, q⟩
  | brk => obtain ⟨σ', H', I, q⟩ := h; exact ⟨σ', H', I.unwish, q⟩
  | cont => obtain ⟨σ', H', I, q⟩ := h; exact ⟨σ', H', I.unwish, q⟩
  | ret u => obtain ⟨v, σ', H', I, r, q⟩ := h; exact ⟨v, σ', H', I.unwish, r, q⟩
theorem PE.nox {e : Expr} {t : TE} (h : PE X.nox e t) : PE X e t := fun pins s σ H Q I hw =>
  wpAny_mono (h pins s σ H Q (I.wish _) hw) (fun _ _ ⟨v, H', I', r, q⟩ => ⟨v, H', I'.unwish, r, q⟩) fun _ _ z => False.elim z
theorem PSs.nox {st : List Stmt} {t : TS} (h : PSs X.nox st t) : PSs X st t := fun pins s σ H D I hw =>
  wpAny_mono (h pins s σ H D (I.wish _) hw) (fun _ _ q => q.unwish) fun _ _ z => False.elim z
end
section
variable {X : Cx} {st : Stmt} {rest : List Stmt} {t u : TS} {e : Expr} {te : TE} {pos : Pos}
def tNext : TS := fun D σ H => D.nx σ H
def tSeq (t u : TS) : TS := fun D σ H => t { D with nx := u D } σ H
theorem pss_nil : PSs X [] tNext := fun _ _ σ H _ I h => wpAny_execs_nil ⟨σ, H, I, h⟩
theorem pss_cons (h1 : PS X st t) (h2 : PSs X rest u) : PSs X (st :: rest) (tSeq t u) := by
  intro pins s σ H D I h
  refine wpAny_execs_cons (thn (h1 pins s σ H { D with nx := u D } I h) fun f s1 q => ?_)
  cases f with
  | next =>
    obtain ⟨σ', H', I', q⟩ := q
    exact h2 pins s1 σ' H' D I' q
  | ret v => exact q
  | brk => exact q
  | cont => exact q
theorem pss_one (h1 : PS X st t) : PSs X [st] t := by
  intro pins s σ H D I h
  refine wpAny_execs_cons (thn (h1 pins s σ H D I h) fun f s1 q => ?_)
  cases f with
  | next => exact wpAny_execs_nil q
  | ret v => exact q
  | brk => exact q
  | cont => exact q
theorem Inv.quiet {pins : List (Addr × Obj)} {σ : St} {H : Hp} {s : Shared} (I : Inv X pins σ H s) : interactive X.env = false := by simp [interactive, I.ok.kind]
def tDrop (te : TE) : TS := fun D σ H => te σ H fun _ H1 => D.nx σ H1
theorem ps_expr (he : PE X e te) (hs : swapsWith e none pos.line X.env = pure false := by rfl) : PS X (.Expr e pos) (tDrop te) := by
  intro pins s σ H D I h
  exact wpAny_Expr_any (thn (he pins s σ H _ I h) fun v s1 ⟨x, H1, I1, r1, q1⟩ => ⟨σ, H1, I1, q1⟩) I.quiet hs
def tRet (te : TE) : TS := fun D σ H => te σ H D.rt
theorem ps_ret (he : PE X e te) : PS X (.Return (some e) pos) (tRet te) := by
  intro pins s σ H D I h
  exact wpAny_Return_some (thn (he pins s σ H _ I h) fun v s1 ⟨x, H1, I1, r1, q1⟩ => ⟨x, σ, H1, I1, r1, q1⟩)
def tIfS (c : TT) (t u : TS) : TS := fun D σ H => c σ H fun b H1 => if b = true then t D σ H1 else u D σ H1
theorem ps_if {c : Expr} {a b : List Stmt} {tc : TT} (hc : PT X c tc) (ha : PSs X a t) (hb : PSs X b u) : PS X (.If c a b pos) (tIfS tc t u) := by
  intro pins s σ H D I h
  refine wpAny_If (thn (hc pins s σ H _ I h) fun d s1 ⟨H1, I1, q1⟩ => ?_)
  cases d with
  | true => exact ha pins s1 σ H1 D I1 q1
  | false => exact hb pins s1 σ H1 D I1 q1
end
abbrev TG := V → St → Hp → (St → Hp → Prop) → Prop
abbrev TGs := List V → St → Hp → (St → Hp → Prop) → Prop
def PG (X : Cx) (target : Expr) (t : TG) : Prop :=
  ∀ (pins : List (Addr × Obj)) (s : Shared) (σ : St) (H : Hp) (v : V) (u : Value) (Q : St → Hp → Prop), Inv X pins σ H s → RelV v u → t v σ H Q →
    wpAny (model X.prog X.w) X.A (assign target X.env u) (fun _ s' => ∃ σ' H', Inv X pins σ' H' s' ∧ Q σ' H') X.xe s
def PGs (X : Cx) (ts : List Expr) (t : TGs) : Prop :=
  ∀ (pins : List (Addr × Obj)) (s : Shared) (σ : St) (H : Hp) (vs : List V) (us : List Value) (Q : St → Hp → Prop), Inv X pins σ H s → Vals vs us → t vs σ H Q →
    wpAny (model X.prog X.w) X.A (assignInOrder ((assignEach ts X.env).map (·.2)) us) (fun _ s' => ∃ σ' H', Inv X pins σ' H' s' ∧ Q σ' H') X.xe s
abbrev TSet := V → V → V → Hp → (Hp → Prop) → Prop
def PSet (X : Cx) (t : TSet) : Prop :=
  ∀ (pins : List (Addr × Obj)) (s : Shared) (σ : St) (H : Hp) (o i v : V) (ov iv u : Value) (Q : Hp → Prop), Inv X pins σ H s → RelV o ov → RelV i iv → RelV v u → t o i v H Q →
    wpAny (model X.prog X.w) X.A (setItem ov iv u) (fun _ s' => ∃ H', Inv X pins σ H' s' ∧ Q H') X.xe s
section
variable {X : Cx} {pos : Pos}
def gName (i : Nat) : TG := fun v σ H Q => Q (σ.set i (some v)) H
theorem pg_name {i : Nat} {x : Str} (hN : X.N.Nodup) (hi : X.N[i]? = some x) (hx : Loc X.env.scope x) (hf : X.fn x = true ∨ X.env.scope.names.lookup x = some .local := by first | exact .inl rfl | exact .inr rfl | assumption) : PG X (.Name x pos) (gName i) := by
  intro pins s σ H v u Q I r h
  exact wpAny_assign_Name (store_ok I hN hi hx r (fun s' I' => ⟨_, H, I', h⟩) hf)
def gNil : TGs := fun vs σ H Q => vs = [] ∧ Q σ H
def gCons (t : TG) (u : TGs) : TGs := fun vs σ H Q => ∃ v r, vs = v :: r ∧ t v σ H fun σ' H' => u r σ' H' Q
theorem pgs_nil : PGs X [] gNil := by
  intro pins s σ H vs us Q I r h
  obtain ⟨e, h⟩ := h
  subst e
  cases r
  exact assignInOrder_nil ⟨σ, H, I, h⟩
theorem pgs_cons {e : Expr} {es : List Expr} {t : TG} {u : TGs} (h1 : PG X e t) (h2 : PGs X es u)
    (hs : (assignEach (e :: es) X.env).map (·.2) = assign e X.env :: (assignEach es X.env).map (·.2) := by rfl) : PGs X (e :: es) (gCons t u) := by
  intro pins s σ H vs us Q I r h
  obtain ⟨v, vr, e1, h⟩ := h
  subst e1
  cases r with
  | cons r rr =>
    rw [hs]
    refine assignInOrder_cons (thn (h1 pins s σ H _ _ _ I r h) fun _ s1 ⟨σ1, H1, I1, q1⟩ => ?_)
    exact h2 pins s1 σ1 H1 _ _ Q I1 rr q1
def gTup (K : PySem.W.Frag) (n : Nat) (t : TGs) : TG := fun v σ H Q => ∃ a xs, v = .ref a ∧ SqT K H a xs ∧ xs.length = n ∧ t xs σ H Q
theorem pg_tup {es : List Expr} {k : Nat} {t : TGs} {n : Nat} (hc : X.calm = true) (h : PGs X es t)
    (hn : (assignEach es X.env).length = n := by rfl) (hst : (assignEach es X.env).findIdx? (·.1) = none := by rfl) : PG X (.Tuple es k pos) (gTup X.K n t) := by
  intro pins s σ H v u Q I r hw
  obtain ⟨a, xs, e1, hq, hl, hw⟩ := hw
  subst e1
  cases r
  obtain ⟨its, rv, ht, hz⟩ := I.tuple hq
  refine assign_Tuple_tuple (I.ok.hd hc) ht (by simp [hn, ← hl, rv.length]) hst fun h' hx => ?_
  have I1 : Inv X pins σ H { s with heap := h' } := I.kept (t' := s.toks) fun b o e => hx b o (Nat.ne_of_lt (Heap.lt_size e)) e
  exact h pins _ σ H xs _ Q I1 (by simpa using rv) hw
def gSub (to ti : TE) (t : TSet) : TG := fun v σ H Q => to σ H fun o H1 => ti σ H1 fun i H2 => t o i v H2 fun H3 => Q σ H3
theorem pg_sub {o i : Expr} {to ti : TE} {t : TSet} (ho : PE X o to) (hi : PE X i ti) (hs : PSet X t)
    (ha : ∀ v, assign (.Subscript o i pos) X.env v = (do
      let ov ← holding [v] (eval o X.env)
      let iv ← holding [v, ov] (eval i X.env)
      standAt pos
      holding [v, ov, iv] (setItem ov iv v)
      release [v, ov, iv] []) := by intro _; rfl) : PG X (.Subscript o i pos) (gSub to ti t) := by
  intro pins s σ H v u Q I r h
  rw [ha]
  refine wpAny_bind (wpAny_holding (thn (ho pins s σ H _ I h) fun ov s1 ⟨x, H1, I1, r1, q1⟩ => ?_))
  refine wpAny_bind (wpAny_holding (thn (hi pins s1 σ H1 _ I1 q1) fun iv s2 ⟨y, H2, I2, r2, q2⟩ => ?_))
  refine wpAny_bind (wpAny_standAt (wpAny_bind (wpAny_holding (thn (hs pins s2 σ H2 x y v ov iv u _ I2 r1 r2 r q2) fun _ s3 ⟨H3, I3, q3⟩ => ?_))))
  exact wpAny_release ⟨σ, H3, I3, q3⟩
def tAsg (te : TE) (g : TG) : TS := fun D σ H => te σ H fun x H1 => g x σ H1 D.nx
theorem ps_asg {tg e : Expr} {te : TE} {g : TG} (he : PE X e te) (hg : PG X tg g) (hs : swapsWithSole [tg] e pos.line X.env = pure false := by rfl) (hw : swappedStores [tg] e X.env = pure none := by rfl)
    (h1 : (assignEach [tg] X.env).map (·.2) = [assign tg X.env] := by rfl) : PS X (.Assign [tg] e pos) (tAsg te g) := by
  intro pins s σ H D I h
  refine wpAny_Assign_stores (thn (he pins s σ H _ I h) fun v s1 ⟨x, H1, I1, r1, q1⟩ => ?_) hs hw
  rw [h1]
  exact thn (hg pins s1 σ H1 x v _ I1 r1 q1) fun _ s2 q => q
theorem ps_set {i : Nat} {x : Str} {e : Expr} {te : TE} {pos' : Pos} (hN : X.N.Nodup) (hi : X.N[i]? = some x) (hx : Loc X.env.scope x) (he : PE X e te) (hs : swapsWith e (some (.Name x pos')) pos.line X.env = pure false := by rfl) (hf : X.fn x = true ∨ X.env.scope.names.lookup x = some .local := by first | exact .inl rfl | exact .inr rfl | assumption) :
    PS X (.Assign [.Name x pos'] e pos) (tAsg te (gName i)) := by
  intro pins s σ H D I h
  refine wpAny_Assign_Name (thn (he pins s σ H _ I h) fun v s1 ⟨y, H1, I1, r1, q1⟩ => ?_) hs
  exact store_ok I1 hN hi hx r1 (fun s2 I2 => ⟨_, H1, I2, q1⟩) hf
end
section
variable {X : Cx} {pos : Pos}
def tWhile (c : TT) (tb : TS) : TS := fun D σ H => ∃ W : Nat → St → Hp → Prop, (∃ m, W m σ H) ∧ ∀ m σ H, W m σ H →
  c σ H fun b H1 => if b = true then ∃ N : St → Hp → Prop, (∀ σ' H', N σ' H' → ∃ m', m' < m ∧ W m' σ' H') ∧ tb { D with nx := N, ct := N, bk := D.nx } σ H1 else D.nx σ H1
theorem ps_while {c : Expr} {body : List Stmt} {tc : TT} {tb : TS} (hp : PassesOwn (model X.prog X.w) X.A X.env X.xe) (hc : PT X c tc) (hb : PSs X body tb) : PS X (.While c body [] pos) (tWhile tc tb) := by
  intro pins s σ H D I h
  obtain ⟨W, ⟨m0, w0⟩, turn⟩ := h
  refine wpAny_While (codeAny_whileLoop (fun n s' => ∃ σ' H', Inv X pins σ' H' s' ∧ W n σ' H') ?_ m0 ⟨σ, H, I, w0⟩)
  rintro n s1 ⟨σ1, H1, I1, w1⟩
  refine wpAny_passesOwn hp (thn (hc pins s1 σ1 H1 _ I1 (turn n σ1 H1 w1)) fun b s2 ⟨H2, I2, q2⟩ => ?_)
  cases b with
  | true =>
    obtain ⟨N, hN, q2⟩ := q2
    rw [if_pos rfl]
    refine wpAny_passesOwn hp (thn (hb pins s2 σ1 H2 _ I2 q2) fun f s3 q3 => ?_)
    cases f with
    | next =>
      obtain ⟨σ3, H3, I3, n3⟩ := q3
      obtain ⟨m', hm, w3⟩ := hN σ3 H3 n3
      exact ⟨m', hm, σ3, H3, I3, w3⟩
    | cont =>
      obtain ⟨σ3, H3, I3, n3⟩ := q3
      obtain ⟨m', hm, w3⟩ := hN σ3 H3 n3
      exact ⟨m', hm, σ3, H3, I3, w3⟩
    | brk => exact q3
    | ret v => exact q3
  | false =>
    rw [if_neg Bool.false_ne_true]
    exact wpAny_execs_nil ⟨σ1, H2, I2, q2⟩
end
structure It where
  go : Nat → Hp → Prop
  yld : Nat → Hp → V → Hp → Prop
  stop : Nat → Hp → Prop
def FpOk (X : Cx) (pins : List (Addr × Obj)) (H : Hp) (b : Addr) : Prop :=
  H b = none ∧ b ≠ X.env.locals ∧ b ∉ X.fs ∧ (b ∈ X.ex ∨ X.s₀.heap.objs.size ≤ b) ∧ (∀ x c, X.env.cells.lookup x = some c → c ≠ b) ∧ ∀ p ∈ X.pn ++ pins, p.1 ≠ b
theorem Inv.fpOk {X : Cx} {pins : List (Addr × Obj)} {σ : St} {H H' : Hp} {s : Shared} {b : Addr} (I : Inv X pins σ H s) (hb : s.heap.objs.size ≤ b) (hn : H' b = none) : FpOk X pins H' b := by
  refine ⟨hn, Nat.ne_of_gt (Nat.lt_of_lt_of_le I.lt hb), I.nofs hb, .inr (Nat.le_trans I.sz hb), fun x c e z => ?_, fun p hp z => ?_⟩
  · obtain ⟨v, q⟩ := I.cell x c e
    exact absurd (Nat.lt_of_lt_of_le q.lt (by rw [z]; exact hb)) (Nat.lt_irrefl _)
  · exact absurd (Nat.lt_of_lt_of_le (Heap.lt_size (I.pin p hp).1) (by rw [z]; exact hb)) (Nat.lt_irrefl _)
structure Turn (P : Program) (w : World) (K : PySem.W.Frag) (tg : Expr) (J : It) (fp : List Addr) (it : Addr) (tn : Nat → Heap → Prop) : Prop where
  mem : it ∈ fp
  obj : ∀ i h, tn i h → ∀ b ∈ fp, ∃ o, h.get? b = some o ∧ ∀ v, o.data ≠ .cell v
  keep : ∀ i h h', tn i h → (∀ b ∈ fp, ∀ o, h.get? b = some o → h'.get? b = some o) → tn i h'
  item : ∀ (X : Cx), X.prog = P → X.w = w → X.K = K → X.calm = true → ∀ (i : Nat) (pins : List (Addr × Obj)) (s : Shared) (σ : St) (H : Hp) (E : Value → Shared → Prop), Inv X pins σ H s → (∀ b ∈ fp, FpOk X pins H b) → tn i s.heap → J.go i H →
    wpAny (model P w) X.A (pyNext (.ref it)) (fun r s1 => ∃ u, r = some u ∧
      wpAny (model P w) X.A (letOwnedTupleGo tg (.ref it) u) (fun _ s2 => ∃ x H', Inv X pins σ H' s2 ∧ RelV x u ∧ J.yld i H x H' ∧ tn (i + 1) s2.heap ∧ ∀ b ∈ fp, H' b = none) E s1) E s
  done : ∀ (X : Cx), X.prog = P → X.w = w → X.K = K → X.calm = true → ∀ (i : Nat) (pins : List (Addr × Obj)) (s : Shared) (σ : St) (H : Hp) (E : Value → Shared → Prop), Inv X pins σ H s → (∀ b ∈ fp, FpOk X pins H b) → tn i s.heap → J.stop i H →
    wpAny (model P w) X.A (pyNext (.ref it)) (fun r s1 => r = none ∧ Inv X pins σ H s1) E s
  self : ∀ (A : Around) (i : Nat) (s : Shared) (Q : Value → Shared → Prop) (E : Value → Shared → Prop), tn i s.heap → Q (.ref it) s → wpAny (model P w) A (pyIter (.ref it)) Q E s
abbrev TI := St → Hp → (It → Hp → Prop) → Prop
def PIE (X : Cx) (pins : List (Addr × Obj)) (σ : St) (tg : Expr) (R : It → Hp → Prop) (itv : Value) (s2 : Shared) : Prop :=
  ∃ (it : Addr) (fp : List Addr) (tn : Nat → Heap → Prop) (J : It) (H' : Hp), itv = .ref it ∧ Inv X pins σ H' s2 ∧ Turn X.prog X.w X.K tg J fp it tn ∧ tn 0 s2.heap ∧ (∀ b ∈ fp, FpOk X pins H' b) ∧ R J H'
def PI (X : Cx) (tg iter : Expr) (wi : TI) : Prop :=
  ∀ (pins : List (Addr × Obj)) (s : Shared) (σ : St) (H : Hp) (R : It → Hp → Prop), Inv X pins σ H s → wi σ H R →
    wpAny (model X.prog X.w) X.A (eval iter X.env) (fun v s1 => wpAny (model X.prog X.w) X.A (pyIter v) (PIE X pins σ tg R) X.xe s1) X.xe s
theorem go_of {M : Model} {A : Around} {E : Value → Shared → Prop} {s : Shared} {tg : Expr} {it : Addr} {u : Value} {o : Obj} {n : String} {vs : Array Value} {Q : Unit → Shared → Prop} (ho : s.heap.get? it = some o) (hc : o.cls = .type n) (hd : o.data = .fields vs)
    (hn : ["enumerate", "zip", "dict_itemiterator", "dict_reverseitemiterator", "odict_iterator", "itertools.zip_longest", "itertools.pairwise"].contains n = false) (hQ : Q () s) : wpAny M A (letOwnedTupleGo tg (.ref it) u) Q E s := by
  unfold letOwnedTupleGo
  cases tg <;> first
    | exact wpAny_pure hQ
    | (cases u <;> first
        | exact wpAny_pure hQ
        | (refine wpAny_bind (wpAny_load ho ?_)
           rw [hc, hd]
           show wpAny M A (if (["enumerate", "zip", "dict_itemiterator", "dict_reverseitemiterator", "odict_iterator", "itertools.zip_longest", "itertools.pairwise"].contains n && vs[0]? == some (rawInt _)) = true then _ else _) Q E s
           rw [if_neg (by intro h; rw [hn, Bool.false_and] at h; cases h)]
           exact wpAny_pure hQ))
def Itl (K : PySem.W.Frag) (a : Addr) : It :=
  ⟨fun i H => ∃ xs x, SqL K H a xs ∧ xs[i]? = some x, fun i H x H' => H' = H ∧ ∀ xs, SqL K H a xs → xs[i]? = some x, fun i H => ∃ xs, SqL K H a xs ∧ xs.length ≤ i⟩
def Itr (lo : Int) (n : Nat) : It := ⟨fun i _ => i < n, fun i H x H' => H' = H ∧ x = .int (lo + i), fun i _ => n ≤ i⟩
theorem turn_list {P : Program} {w : World} {K : PySem.W.Frag} {tg : Expr} (a it : Addr) : Turn P w K tg (Itl K a) [it] it (fun i h => h.IsListIter it a i) where
  mem := by simp
  obj := fun i h st b hb => by
    have e : b = it := by simpa using hb
    subst e
    obtain ⟨o, e, c, d⟩ := st
    exact ⟨o, e, fun v z => by rw [d] at z; cases z⟩
  keep := fun i h h' st k => st.at fun o e => k it (by simp) o e
  item := by
    intro X hP hw hK hc i pins s σ H E I hf st hg
    subst hP hw hK
    obtain ⟨xs, x, hq, hx⟩ := hg
    obtain ⟨its, rv, p, hz⟩ := I.list hq
    obtain ⟨u, hu, ru⟩ := rv.get hx
    obtain ⟨f0, f1, f2, f3, f4, f5⟩ := hf it (by simp)
    refine wpAny_pyNext_list_item st p.isList (x := u) (by simpa using hu) fun h' st' sb => ?_
    have I1 : Inv X pins σ H { s with heap := h' } := I.turned (t' := s.toks) (fun b o hb e => (sb.2 b hb).trans e) f0 f1 f3 f4 f5
    obtain ⟨o, e, c, d⟩ := id st'
    exact ⟨u, rfl, go_of (s := { s with heap := h' }) e c d (by decide) ⟨x, H, I1, ru, ⟨rfl, fun ys hy => by rw [I.list_inj hy hq]; exact hx⟩, st', fun b hb => (hf b hb).1⟩⟩
  done := by
    intro X hP hw hK hc i pins s σ H E I hf st hg
    subst hP hw hK
    obtain ⟨xs, hq, hx⟩ := hg
    obtain ⟨its, rv, p, hz⟩ := I.list hq
    obtain ⟨f0, f1, f2, f3, f4, f5⟩ := hf it (by simp)
    have hl := rv.length
    exact wpAny_pyNext_list_end (I.ok.hd hc) st p.isList (by simp; omega) fun h' eb => ⟨rfl, I.turned (t' := s.toks) (fun b o hb e => eb b o hb e) f0 f1 f3 f4 f5⟩
  self := fun _ _ _ _ _ st h => wpAny_pyIter_listiter st h
theorem turn_range {P : Program} {w : World} {K : PySem.W.Frag} {tg : Expr} (it : Addr) (lo : Int) (n : Nat) : Turn P w K tg (Itr lo n) [it] it (fun i h => IsRangeIter h it (lo + (i : Nat) * 1) ((n : Int) - (i : Nat)) 1) where
  mem := by simp
  obj := fun i h st b hb => by
    have e : b = it := by simpa using hb
    subst e
    exact ⟨_, st, fun v z => by
      have z' : Data.fields _ = Data.cell v := z
      cases z'⟩
  keep := fun i h h' st k => k it (by simp) _ st
  item := by
    intro X hP hw hK hc i pins s σ H E I hf st hg
    subst hP hw hK
    obtain ⟨f0, f1, f2, f3, f4, f5⟩ := hf it (by simp)
    have W := Walks.range (prog := X.prog) (w := X.w) (I.ok.hd hc) it lo 1 n
    refine W.item i s _ _ hg st fun v h' tk hv st' kk => ?_
    obtain ⟨t, rfl⟩ := hv
    have I1 : Inv X pins σ H { s with heap := h', toks := tk } := I.turned (fun b o hb e => kk b o (by simpa using hb) e) f0 f1 f3 f4 f5
    refine ⟨_, rfl, go_of (s := { s with heap := h', toks := tk }) (n := "range_iterator") st' rfl rfl (by decide) ⟨.int (lo + i), H, I1, ⟨t, ?_⟩, ⟨rfl, rfl⟩, st', fun b hb => (hf b hb).1⟩⟩
    rw [Int.mul_one]
  done := by
    intro X hP hw hK hc i pins s σ H E I hf st hg
    subst hP hw hK
    obtain ⟨f0, f1, f2, f3, f4, f5⟩ := hf it (by simp)
    exact wpAny_pyNext_range_end (I.ok.hd hc) st (by have : n ≤ i := hg; omega) fun h' eb => ⟨rfl, I.turned (t' := s.toks) (fun b o hb e => eb b o hb e) f0 f1 f3 f4 f5⟩
  self := fun _ _ _ _ _ st h => wpAny_pyIter_rangeiter st h
end L2
namespace L2
open PySem PySem.Spec PyProof.Rows
section
variable {X : Cx} {tg : Expr}
def iList (K : PySem.W.Frag) (tl : TE) : TI := fun σ H R => tl σ H fun x H1 => ∃ a, x = .ref a ∧ (∃ xs, SqL K H1 a xs) ∧ R (Itl K a) H1
theorem pi_list {l : Expr} {tl : TE} (hl : PE X l tl) : PI X tg l (iList X.K tl) := by
  intro pins s σ H R I h
  refine thn (hl pins s σ H _ I h) fun v s1 ⟨x, H1, I1, r1, q1⟩ => ?_
  obtain ⟨a, e, ⟨xs, hq⟩, q⟩ := q1
  subst e
  cases r1
  obtain ⟨its, rv, p, hz⟩ := I1.list hq
  refine wpAny_pyIter_list p.isList ?_
  refine ⟨s1.heap.objs.size, [s1.heap.objs.size], _, _, H1, rfl, I1.kept (t' := s1.toks) fun b o e => Heap.get?_push_of_some _ e, turn_list a _, ⟨_, Heap.get?_push_size _ rfl, rfl, rfl⟩, fun b hb => ?_, q⟩
  have e : b = s1.heap.objs.size := by simpa using hb
  subst e
  exact I1.fpOk (Nat.le_refl _) (I1.hok.fresh (Nat.le_refl _))
theorem range_it {pins : List (Addr × Obj)} {σ : St} {H : Hp} {s : Shared} {R : It → Hp → Prop} {E : Value → Shared → Prop} {lo hi : Int} {t u v : Tok} {tk : Nat} (I : Inv X pins σ H s) (h1 : -(2 ^ 62) ≤ lo) (h2 : lo < 2 ^ 62) (h3 : -(2 ^ 62) ≤ hi) (h4 : hi < 2 ^ 62)
    (q : R (Itr lo (hi - lo).toNat) H) : wpAny (model X.prog X.w) X.A (pyIter (.ref s.heap.objs.size)) (PIE X pins σ tg R) E { s with heap := s.heap.push { cls := .type "range", data := .fields #[.int lo t, .int hi u, .int 1 v] }, toks := tk } := by
  refine wpAny_pyIter_range (IsRange.new ..) (small_one h1 h2 h3 h4) ?_
  have I1 : Inv X pins σ H { s with heap := s.heap.push { cls := .type "range", data := .fields #[.int lo t, .int hi u, .int 1 v] }, toks := tk } := I.kept fun b o e => Heap.get?_push_of_some _ e
  refine ⟨(s.heap.push { cls := .type "range", data := .fields #[.int lo t, .int hi u, .int 1 v] }).objs.size, [(s.heap.push { cls := .type "range", data := .fields #[.int lo t, .int hi u, .int 1 v] }).objs.size], _, _, H, rfl,
    I1.kept (t' := tk) fun b o e => Heap.get?_push_of_some _ e, turn_range _ lo (hi - lo).toNat, ?_, fun b hb => ?_, q⟩
  · have e1 : lo + ((0 : Nat) : Int) * 1 = lo := by simp
    have e2 : (((hi - lo).toNat : Nat) : Int) - ((0 : Nat) : Int) = Builtin.Range.rangeSize lo hi 1 := by rw [rangeSize_one]; split <;> omega
    show IsRangeIter _ _ (lo + ((0 : Nat) : Int) * 1) ((((hi - lo).toNat : Nat) : Int) - ((0 : Nat) : Int)) 1
    rw [e1, e2]
    exact Heap.get?_push_size _ rfl
  · have e : b = (s.heap.push { cls := .type "range", data := .fields #[.int lo t, .int hi u, .int 1 v] }).objs.size := by simpa using hb
    subst e
    exact I1.fpOk (Nat.le_refl _) (I1.hok.fresh (Nat.le_refl _))
def iRng1 (ta : TA) : TI := fun σ H R => ta σ H fun vs H1 => ∃ j : Int, vs = [.int j] ∧ -(2 ^ 62) ≤ j ∧ j < 2 ^ 62 ∧ R (Itr 0 j.toNat) H1
def iRng2 (ta : TA) : TI := fun σ H R => ta σ H fun vs H1 => ∃ i j : Int, vs = [.int i, .int j] ∧ (-(2 ^ 62) ≤ i ∧ i < 2 ^ 62 ∧ -(2 ^ 62) ≤ j ∧ j < 2 ^ 62) ∧ R (Itr i (j - i).toNat) H1
theorem pi_range1 {a : Expr} {ta : TA} {p pos : Pos} (hg : Gl X "range") (hm : X.mg "range" = none) (ha : PA X [a] ta) (hs : starEach [a] X.env = [(false, eval a X.env)] := by rfl) : PI X tg (.Call (.Name "range" p) [a] [] pos) (iRng1 ta) := by
  intro pins s σ H R I h
  refine Call_ (ld_blt I hg hm boot_range (PyProof.Rows.callWith_type1 (thn (ha pos pins s σ H _ I h) fun us s1 ⟨vs, H1, I1, r1, q1⟩ => ?_) hs rfl))
  obtain ⟨j, e, q1, q2, q⟩ := q1
  subst e
  cases r1 with
  | cons r rr =>
    cases rr
    obtain ⟨t, rfl⟩ := r
    exact call_range_1 (range_it I1 (by omega) (by omega) q1 q2 (by simpa using q))
theorem pi_range2 {a b : Expr} {ta : TA} {p pos : Pos} (hg : Gl X "range") (hm : X.mg "range" = none) (ha : PA X [a, b] ta) (hs : starEach [a, b] X.env = [(false, eval a X.env), (false, eval b X.env)] := by rfl) (hs2 : starEach [b] X.env = [(false, eval b X.env)] := by rfl) :
    PI X tg (.Call (.Name "range" p) [a, b] [] pos) (iRng2 ta) := by
  intro pins s σ H R I h
  refine Call_ (ld_blt I hg hm boot_range (PyProof.Rows.callWith_type1 (thn (ha pos pins s σ H _ I h) fun us s1 ⟨vs, H1, I1, r1, q1⟩ => ?_) (by rw [hs, hs2]) (by rw [hs2]; rfl)))
  obtain ⟨i, j, e, ⟨q1, q2, q3, q4⟩, q⟩ := q1
  subst e
  cases r1 with
  | cons r rr =>
    cases rr with
    | cons r' rr =>
      cases rr
      obtain ⟨t, rfl⟩ := r
      obtain ⟨t', rfl⟩ := r'
      exact call_range_2 (range_it I1 q1 q2 q3 q4 q)
def tFor (wi : TI) (g : TG) (tb : TS) : TS := fun D σ H => wi σ H fun J H1 => ∃ W : Nat → Nat → St → Hp → Prop, (∃ m, W 0 m σ H1) ∧ ∀ i m σ H, W i m σ H →
  (J.stop i H ∧ D.nx σ H) ∨ (J.go i H ∧ ∃ N : St → Hp → Prop, (∀ σ' H', N σ' H' → ∃ m', m' < m ∧ W (i + 1) m' σ' H') ∧ ∀ x H', J.yld i H x H' → g x σ H' fun σ2 H2 => tb { D with nx := N, ct := N, bk := D.nx } σ2 H2)
def pinsAt (fp : List Addr) (h : Heap) : List (Addr × Obj) := fp.filterMap fun b => (h.get? b).map fun o => (b, o)
theorem mem_pinsAt {fp : List Addr} {h : Heap} {b : Addr} {o : Obj} (hb : b ∈ fp) (e : h.get? b = some o) : (b, o) ∈ pinsAt fp h := List.mem_filterMap.mpr ⟨b, hb, by rw [e]; rfl⟩
theorem of_pinsAt {fp : List Addr} {h : Heap} {p : Addr × Obj} (hp : p ∈ pinsAt fp h) : p.1 ∈ fp ∧ h.get? p.1 = some p.2 := by
  obtain ⟨b, hb, e⟩ := List.mem_filterMap.mp hp
  cases q : h.get? b with
  | none => rw [q] at e; cases e
  | some o =>
    rw [q] at e
    have e' : (b, o) = p := Option.some.inj e
    subst e'
    exact ⟨hb, q⟩
theorem Inv.pinned {pins : List (Addr × Obj)} {σ : St} {H : Hp} {s : Shared} {fp : List Addr} (I : Inv X pins σ H s) (hf : ∀ b ∈ fp, FpOk X pins H b) (ho : ∀ b ∈ fp, ∃ o, s.heap.get? b = some o ∧ ∀ v, o.data ≠ .cell v) : Inv X (pins ++ pinsAt fp s.heap) σ H s :=
  I.pins_of fun p hp => (List.mem_append.mp hp).elim (fun z => I.pin p (List.mem_append_right _ z)) fun z => by
    obtain ⟨hb, e⟩ := of_pinsAt z
    obtain ⟨f0, f1, f2, _⟩ := hf p.1 hb
    obtain ⟨o, e', d⟩ := ho p.1 hb
    rw [e] at e'; cases e'
    exact ⟨e, f0, f1, f2, d⟩
theorem Inv.unpinned {pins pl : List (Addr × Obj)} {σ : St} {H : Hp} {s : Shared} (I : Inv X (pins ++ pl) σ H s) : Inv X pins σ H s := I.pins_of fun p hp => I.pin p (List.mem_append_right _ (List.mem_append_left _ hp))
theorem ps_for {iter : Expr} {body : List Stmt} {wi : TI} {g : TG} {tb : TS} {pos : Pos} (hp : PassesOwn (model X.prog X.w) X.A X.env X.xe) (hc : X.calm = true) (hi : PI X tg iter wi) (hg : PG X tg g) (hb : PSs X body tb)
    (hs : ∀ x, foldedSetIterable iter X.env x = pure x := by intro _; rfl) : PS X (.For tg iter body [] pos) (tFor wi g tb) := by
  intro pins s σ H D I h
  refine wpAny_For (thn (hi pins s σ H _ I h) fun v s1 h1 => thn h1 fun itv s2 h2 => ?_) hs
  obtain ⟨it, fp, tn, J, H2, e, I2, T, st2, f2, W, ⟨m0, w0⟩, turn⟩ := h2
  subst e
  have stat : ∀ {H' : Hp}, (∀ b ∈ fp, H' b = none) → ∀ b ∈ fp, FpOk X pins H' b := fun hn b hb => ⟨hn b hb, (f2 b hb).2⟩
  refine codeAny_forLoop_any (fun n s' => ∃ i σ' H', Inv X pins σ' H' s' ∧ tn i s'.heap ∧ (∀ b ∈ fp, H' b = none) ∧ W i n σ' H') ?_ m0 ⟨0, σ, H2, I2, st2, fun b hb => (f2 b hb).1, w0⟩
  rintro n s3 ⟨i, σ3, H3, I3, st3, fr3, w3⟩
  rcases turn i n σ3 H3 w3 with ⟨stop, qn⟩ | ⟨go, N, hN, step⟩
  · refine wpAny_passesOwn hp (thn (T.done X rfl rfl rfl hc i pins s3 σ3 H3 X.xe I3 (stat fr3) st3 stop) fun r s4 ⟨hr, I4⟩ => ?_)
    subst hr
    exact wpAny_execs_nil ⟨σ3, H3, I4, qn⟩
  · refine wpAny_passesOwn hp (thn (T.item X rfl rfl rfl hc i pins s3 σ3 H3 X.xe I3 (stat fr3) st3 go) fun r s4 ⟨u, hr, h4⟩ => ?_)
    subst hr
    refine wpAny_passesOwn hp (thn h4 fun _ s5 ⟨x, H5, I5, r5, y5, st5, fr5⟩ => ?_)
    have I5' := I5.pinned (stat fr5) (T.obj _ _ st5)
    refine wpAny_passesOwn hp (thn (hg _ s5 σ3 H5 x u _ I5' r5 (step x H5 y5)) fun _ s6 ⟨σ6, H6, I6, q6⟩ => ?_)
    refine wpAny_passesOwn hp (thn (hb _ s6 σ6 H6 _ I6 q6) fun f s7 q7 => ?_)
    have again : ∀ {σ7 : St} {H7 : Hp}, Inv X (pins ++ pinsAt fp s5.heap) σ7 H7 s7 → N σ7 H7 → ∃ m, m < n ∧ ∃ i σ' H', Inv X pins σ' H' s7 ∧ tn i s7.heap ∧ (∀ b ∈ fp, H' b = none) ∧ W i m σ' H' := fun {σ7 H7} I7 n7 => by
      obtain ⟨m', hm, w7⟩ := hN σ7 H7 n7
      refine ⟨m', hm, i + 1, σ7, H7, I7.unpinned, T.keep _ _ _ st5 fun b hb o e => (I7.pin (b, o) (List.mem_append_right _ (List.mem_append_right _ (mem_pinsAt hb e)))).1, fun b hb => ?_, w7⟩
      obtain ⟨o, e, d⟩ := T.obj _ _ st5 b hb
      exact (I7.pin (b, o) (List.mem_append_right _ (List.mem_append_right _ (mem_pinsAt hb e)))).2.1
    cases f with
    | next => obtain ⟨σ7, H7, I7, n7⟩ := q7; exact again I7 n7
    | cont => obtain ⟨σ7, H7, I7, n7⟩ := q7; exact again I7 n7
    | brk => obtain ⟨σ7, H7, I7, q7⟩ := q7; exact ⟨σ7, H7, I7.unpinned, q7⟩
    | ret v => obtain ⟨x7, σ7, H7, I7, r7, q7⟩ := q7; exact ⟨x7, σ7, H7, I7.unpinned, r7, q7⟩
end
theorem for_list {K : PySem.W.Frag} {a : Addr} {xs : List V} {g : TG} {tb : TS} {D : Ends} {σ : St} {H : Hp} (Pv : Nat → St → Hp → Prop) (h0 : Pv 0 σ H) (hl : ∀ i σ H, i ≤ xs.length → Pv i σ H → SqL K H a xs)
    (hs : ∀ i x σ H, xs[i]? = some x → Pv i σ H → g x σ H fun σ2 H2 => tb { D with nx := Pv (i + 1), ct := Pv (i + 1), bk := D.nx } σ2 H2) (hd : ∀ σ H, Pv xs.length σ H → D.nx σ H) :
    ∃ W : Nat → Nat → St → Hp → Prop, (∃ m, W 0 m σ H) ∧ ∀ i m σ H, W i m σ H →
      ((Itl K a).stop i H ∧ D.nx σ H) ∨ ((Itl K a).go i H ∧ ∃ N : St → Hp → Prop, (∀ σ' H', N σ' H' → ∃ m', m' < m ∧ W (i + 1) m' σ' H') ∧ ∀ x H', (Itl K a).yld i H x H' → g x σ H' fun σ2 H2 => tb { D with nx := N, ct := N, bk := D.nx } σ2 H2) := by
  refine ⟨fun i m σ H => m = xs.length - i ∧ i ≤ xs.length ∧ Pv i σ H, ⟨xs.length, by simp, Nat.zero_le _, h0⟩, ?_⟩
  rintro i m σ H ⟨rfl, hi, p⟩
  have q := hl i σ H hi p
  by_cases hlt : i < xs.length
  · refine .inr ⟨⟨xs, xs[i], q, by simp [hlt]⟩, Pv (i + 1), fun σ' H' p' => ⟨xs.length - (i + 1), by omega, rfl, hlt, p'⟩, fun x H' y => ?_⟩
    obtain ⟨e, y⟩ := y
    subst e
    exact hs i x σ _ (y xs q) p
  · have e : i = xs.length := by omega
    subst e
    exact .inl ⟨⟨xs, q, Nat.le_refl _⟩, hd σ H p⟩
theorem for_range {lo : Int} {n : Nat} {g : TG} {tb : TS} {D : Ends} {σ : St} {H : Hp} (Pv : Nat → St → Hp → Prop) (h0 : Pv 0 σ H)
    (hs : ∀ i σ H, i < n → Pv i σ H → g (.int (lo + i)) σ H fun σ2 H2 => tb { D with nx := Pv (i + 1), ct := Pv (i + 1), bk := D.nx } σ2 H2) (hd : ∀ σ H, Pv n σ H → D.nx σ H) :
    ∃ W : Nat → Nat → St → Hp → Prop, (∃ m, W 0 m σ H) ∧ ∀ i m σ H, W i m σ H →
      ((Itr lo n).stop i H ∧ D.nx σ H) ∨ ((Itr lo n).go i H ∧ ∃ N : St → Hp → Prop, (∀ σ' H', N σ' H' → ∃ m', m' < m ∧ W (i + 1) m' σ' H') ∧ ∀ x H', (Itr lo n).yld i H x H' → g x σ H' fun σ2 H2 => tb { D with nx := N, ct := N, bk := D.nx } σ2 H2) := by
  refine ⟨fun i m σ H => m = n - i ∧ i ≤ n ∧ Pv i σ H, ⟨n, by simp, Nat.zero_le _, h0⟩, ?_⟩
  rintro i m σ H ⟨rfl, hi, p⟩
  by_cases hlt : i < n
  · refine .inr ⟨hlt, Pv (i + 1), fun σ' H' p' => ⟨n - (i + 1), by omega, rfl, hlt, p'⟩, fun x H' y => ?_⟩
    obtain ⟨e, y⟩ := y
    subst e y
    exact hs i σ _ hlt p
  · have e : i = n := by omega
    subst e
    exact .inl ⟨Nat.le_refl _, hd σ H p⟩
end L2
namespace L2
open PySem PySem.Spec PyProof.Rows
abbrev R2 := V → V → Hp → VK → Prop
def OpR (X : Cx) (f : Value → Value → Sem Value) (r : R2) : Prop :=
  ∀ (pins : List (Addr × Obj)) (s : Shared) (σ : St) (H : Hp) (x y : V) (v u : Value) (Q : VK), Inv X pins σ H s → RelV x v → RelV y u → r x y H Q →
    wpAny (model X.prog X.w) X.A (f v u) (EP X pins σ Q) X.xe s
def CallR (X : Cx) (f : Value) (r : List V → Hp → VK → Prop) : Prop :=
  ∀ (pins : List (Addr × Obj)) (s : Shared) (σ : St) (H : Hp) (xs : List V) (us : List Value) (Q : VK), Inv X pins σ H s → Vals xs us → r xs H Q →
    wpAny (model X.prog X.w) X.A (call f us) (EP X pins σ Q) X.xe s
def tOp (r : R2) (ta tb : TE) : TE := fun σ H Q => ta σ H fun x H1 => tb σ H1 fun y H2 => r x y H2 Q
def rI (C : Int → Int → Prop) (g : Int → Int → V) : R2 := fun x y H Q => ∃ i j, x = .int i ∧ y = .int j ∧ C i j ∧ Q (g i j) H
def rI0 (g : Int → Int → V) : R2 := fun x y H Q => ∃ i j, x = .int i ∧ y = .int j ∧ Q (g i j) H
section
variable {X : Cx} {a b c : Expr} {ta tb tc : TE} {pos : Pos}
theorem binT (ha : PE X a ta) (hb : PE X b tb) {pins : List (Addr × Obj)} {s : Shared} {σ : St} {H : Hp} {R : V → V → Hp → Prop} (I : Inv X pins σ H s)
    (h : ta σ H fun x H1 => tb σ H1 fun y H2 => R x y H2) {Q : Value → Shared → Prop} {f : Value → Value → Sem Value}
    (hf : ∀ v u s2 x y H2, Inv X pins σ H2 s2 → RelV x v → RelV y u → R x y H2 → wpAny (model X.prog X.w) X.A (f v u) Q X.xe s2) :
    wpAny (model X.prog X.w) X.A (eval a X.env) (fun v s₁ => wpAny (model X.prog X.w) X.A (eval b X.env) (fun u s₂ => wpAny (model X.prog X.w) X.A (f v u) Q X.xe s₂) X.xe s₁) X.xe s := by
  refine thn (ha pins s σ H _ I h) fun v s1 ⟨x, H1, I1, r1, q1⟩ => ?_
  refine thn (hb pins s1 σ H1 _ I1 q1) fun u s2 ⟨y, H2, I2, r2, q2⟩ => ?_
  exact hf v u s2 x y H2 I2 r1 r2 q2
theorem pe_op {op : Operator} {r : R2} (ho : OpR X (binaryOp op) r) (ha : PE X a ta) (hb : PE X b tb) : PE X (.BinOp a op b pos) (tOp r ta tb) := by
  intro pins s σ H Q I h
  exact wpAny_BinOp (binT ha hb I h fun v u s2 x y H2 I2 rx ry q => ho pins s2 σ H2 x y v u Q I2 rx ry q)
theorem opI {f : Value → Value → Sem Value} {C : Int → Int → Prop} {g : Int → Int → Int}
    (rule : ∀ (i j : Int) (t u : Tok) (s : Shared) (Q : Value → Shared → Prop) (E : Value → Shared → Prop), C i j → Q (.int (g i j) s.toks) { s with toks := s.toks + 1 } → wpAny (model X.prog X.w) X.A (f (.int i t) (.int j u)) Q E s) :
    OpR X f (rI C fun i j => .int (g i j)) := by
  intro pins s σ H x y v u Q I rx ry h
  obtain ⟨i, j, rfl, rfl, hc, q⟩ := h
  obtain ⟨t, rfl⟩ := rx
  obtain ⟨t', rfl⟩ := ry
  exact rule i j t t' s _ _ hc ⟨.int (g i j), H, I.tok _, ⟨_, rfl⟩, q⟩
theorem opI0 {f : Value → Value → Sem Value} {g : Int → Int → Int}
    (rule : ∀ (i j : Int) (t u : Tok) (s : Shared) (Q : Value → Shared → Prop) (E : Value → Shared → Prop), Q (.int (g i j) s.toks) { s with toks := s.toks + 1 } → wpAny (model X.prog X.w) X.A (f (.int i t) (.int j u)) Q E s) :
    OpR X f (rI0 fun i j => .int (g i j)) := by
  intro pins s σ H x y v u Q I rx ry h
  obtain ⟨i, j, rfl, rfl, q⟩ := h
  obtain ⟨t, rfl⟩ := rx
  obtain ⟨t', rfl⟩ := ry
  exact rule i j t t' s _ _ ⟨.int (g i j), H, I.tok _, ⟨_, rfl⟩, q⟩
theorem opB0 {f : Value → Value → Sem Value} {g : Int → Int → Bool}
    (rule : ∀ (i j : Int) (t u : Tok) (s : Shared) (Q : Value → Shared → Prop) (E : Value → Shared → Prop), Q (.bool (g i j)) s → wpAny (model X.prog X.w) X.A (f (.int i t) (.int j u)) Q E s) :
    OpR X f (rI0 fun i j => .bl (g i j)) := by
  intro pins s σ H x y v u Q I rx ry h
  obtain ⟨i, j, rfl, rfl, q⟩ := h
  obtain ⟨t, rfl⟩ := rx
  obtain ⟨t', rfl⟩ := ry
  exact rule i j t t' s _ _ ⟨.bl (g i j), H, I, rfl, q⟩
def CDiv (i j : Int) : Prop := 0 < j ∧ j < 1073741824
def CPow (i j : Int) : Prop := 0 ≤ j ∧ j ≤ 1000000 ∧ i.natAbs < 2 ^ 64
def CMul (i j : Int) : Prop := (-(2 ^ 64) < i ∧ i < 2 ^ 64) ∨ (-(2 ^ 64) < j ∧ j < 2 ^ 64)
theorem CMul.ok {i j : Int} (h : CMul i j) : IntMulOk i j := by
  rcases h with ⟨h1, h2⟩ | ⟨h1, h2⟩
  · exact .of_left (intBits_le_64 h1 h2)
  · exact .of_right (intBits_le_64 h1 h2)
theorem op_add : OpR X (binaryOp .Add) (rI0 fun i j => .int (i + j)) := opI0 fun _ _ _ _ _ _ _ q => add_int q
theorem op_sub : OpR X (binaryOp .Sub) (rI0 fun i j => .int (i - j)) := opI0 fun _ _ _ _ _ _ _ q => sub_int q
theorem op_mul : OpR X (binaryOp .Mult) (rI CMul fun i j => .int (i * j)) := opI fun _ _ _ _ _ _ _ hc q => mul_int q hc.ok
theorem op_fdiv : OpR X (binaryOp .FloorDiv) (rI CDiv fun i j => .int (i / j)) := opI fun i j _ _ _ _ _ hc q => by
  have h1 : (0 : Int) < j := hc.1
  have h2 : j < 1073741824 := hc.2
  exact floordiv_int (by omega) (by rw [Int.fdiv_eq_ediv_of_nonneg i (by omega)]; exact q) (.inl (PyProof.noPylong_small (by omega)))
theorem op_mod : OpR X (binaryOp .Mod) (rI (fun _ j => 0 < j) fun i j => .int (i % j)) := opI fun i j _ _ _ _ _ hc q => by
  have h1 : (0 : Int) < j := hc
  exact mod_int' (by omega) (by rw [Int.fmod_eq_emod_of_nonneg i (by omega)]; exact q)
theorem op_pow : OpR X (binaryOp .Pow) (rI CPow fun i j => .int (i ^ j.toNat)) := opI fun _ _ _ _ _ _ _ hc q => pow_int_small hc.1 hc.2.1 hc.2.2 q
end
def scal : V → V → Bool
  | .non, .non => true | .non, .int _ => true | .int _, .non => true | .non, .bl _ => true | .bl _, .non => true | .non, .str _ => true | .str _, .non => true
  | .int _, .int _ => true | .bl _, .bl _ => true | .str _, .str _ => true | .byt _, .byt _ => true
  | .int _, .str _ => true | .str _, .int _ => true | .bl _, .str _ => true | .str _, .bl _ => true
  | _, _ => false
def rEq : R2 := fun x y H Q => scal x y = true ∧ Q (.bl (decide (x = y))) H
theorem dec_int {i j : Int} : decide (V.int i = V.int j) = (i == j) := by
  rw [Bool.eq_iff_iff]
  simp
theorem dec_bl {i j : Bool} : decide (V.bl i = V.bl j) = (i == j) := by
  rw [Bool.eq_iff_iff]
  simp
theorem dec_str {i j : Str} : decide (V.str i = V.str j) = (i == j) := by
  rw [Bool.eq_iff_iff]
  simp
theorem dec_byt {i j : Array UInt8} : decide (V.byt i = V.byt j) = (i.toList == j.toList) := by
  rw [Bool.eq_iff_iff]
  cases i
  cases j
  simp
section
variable {X : Cx} {a b c : Expr} {ta tb tc : TE} {pos : Pos}
theorem fin_bl {pins : List (Addr × Obj)} {σ : St} {H : Hp} {s : Shared} {Q : VK} {k k' : Bool} (I : Inv X pins σ H s) (q : Q (.bl k) H) (e : k = k') : EP X pins σ Q (.bool k') s := by
  subst e
  exact ⟨.bl k, H, I, rfl, q⟩
theorem op_eq : OpR X (compareOp .Eq) rEq := by
  intro pins s σ H x y v u Q I rx ry h
  obtain ⟨hs, q⟩ := h
  cases x with
  | non =>
    cases rx
    cases y with
    | non => cases ry; exact PySem.EqNone.eq_none_none (fin_bl I q (by simp))
    | bl j => cases ry; exact PySem.EqNone.eq_none_bool (fin_bl I q (by simp))
    | int j => obtain ⟨t', rfl⟩ := ry; exact PySem.EqNone.eq_none_int (fin_bl I q (by simp))
    | str j => obtain ⟨t', rfl⟩ := ry; exact PySem.EqNone.eq_none_str (fin_bl I q (by simp))
    | _ => exact absurd (show false = true from hs) Bool.false_ne_true
  | bl i =>
    cases rx
    cases y with
    | non => cases ry; exact PySem.EqNone.eq_bool_none (fin_bl I q (by simp))
    | bl j => cases ry; exact eq_bool (fin_bl I q dec_bl)
    | str j => obtain ⟨t', rfl⟩ := ry; exact PySem.EqMixed.eq_bool_str (fin_bl I q (by simp))
    | _ => exact absurd (show false = true from hs) Bool.false_ne_true
  | int i =>
    obtain ⟨t, rfl⟩ := rx
    cases y with
    | non => cases ry; exact PySem.EqNone.eq_int_none (fin_bl I q (by simp))
    | int j => obtain ⟨t', rfl⟩ := ry; exact eq_int (fin_bl I q dec_int)
    | str j => obtain ⟨t', rfl⟩ := ry; exact PySem.EqMixed.eq_int_str (fin_bl I q (by simp))
    | _ => exact absurd (show false = true from hs) Bool.false_ne_true
  | str i =>
    obtain ⟨t, rfl⟩ := rx
    cases y with
    | non => cases ry; exact PySem.EqNone.eq_str_none (fin_bl I q (by simp))
    | bl j => cases ry; exact PySem.EqMixed.eq_str_bool (fin_bl I q (by simp))
    | int j => obtain ⟨t', rfl⟩ := ry; exact PySem.EqMixed.eq_str_int (fin_bl I q (by simp))
    | str j => obtain ⟨t', rfl⟩ := ry; exact eq_str (fin_bl I q dec_str)
    | _ => exact absurd (show false = true from hs) Bool.false_ne_true
  | byt i =>
    obtain ⟨t, rfl⟩ := rx
    cases y with
    | byt j => obtain ⟨t', rfl⟩ := ry; exact PySem.W.eq_bytes (fin_bl I q dec_byt)
    | _ => exact absurd (show false = true from hs) Bool.false_ne_true
  | _ => cases y <;> exact absurd (show false = true from hs) Bool.false_ne_true
theorem op_lt : OpR X (compareOp .Lt) (rI0 fun i j => .bl (decide (i < j))) := opB0 fun _ _ _ _ _ _ _ q => lt_int q
theorem op_gt : OpR X (compareOp .Gt) (rI0 fun i j => .bl (decide (j < i))) := opB0 fun _ _ _ _ _ _ _ q => gt_int q
theorem op_ge : OpR X (compareOp .GtE) (rI0 fun i j => .bl (decide (j ≤ i))) := opB0 fun _ _ _ _ _ _ _ q => ge_int q
theorem op_isN : OpR X (compareOp .Is) (fun x y H Q => y = .non ∧ Q (.bl (decide (x = .non))) H) := by
  intro pins s σ H x y v u Q I rx ry h
  obtain ⟨rfl, q⟩ := h
  cases ry
  refine is_none_gen (fin_bl I q ?_)
  cases x <;> first
    | (cases rx; rfl)
    | (obtain ⟨t, rfl⟩ := rx; rfl)
theorem nomark (b : Expr) {op : CmpOp} (h : op ≠ .In := by decide) (h2 : op ≠ .NotIn := by decide) : behindInMarks op b = false := by
  have e1 : (op == CmpOp.In) = false := by cases op <;> first | rfl | exact absurd rfl h
  have e2 : (op == CmpOp.NotIn) = false := by cases op <;> first | rfl | exact absurd rfl h2
  cases b <;> simp [behindInMarks, e1, e2]
theorem pe_cmpR {op : CmpOp} {r : R2} (ho : OpR X (compareOp op) r) (ha : PE X a ta) (hb : PE X b tb) (hm : behindInMarks op b = false) : PE X (.Compare a [op] [b] pos) (tOp r ta tb) := by
  intro pins s σ H Q I h
  exact wpAny_Compare1 (binT ha hb I h fun v u s2 x y H2 I2 rx ry q => ho pins s2 σ H2 x y v u Q I2 rx ry q) hm
def tTest (t : TE) : TT := fun σ H Q => t σ H fun x H' => ∃ k, x = .bl k ∧ Q k H'
theorem pt_cmpR {op : CmpOp} {r : R2} (ho : OpR X (compareOp op) r) (ha : PE X a ta) (hb : PE X b tb) (hm : behindInMarks op b = false) : PT X (.Compare a [op] [b] pos) (tTest (tOp r ta tb)) := by
  intro pins s σ H Q I h
  refine wpAny_isTrue_Compare1 (thn (ha pins s σ H _ I h) fun v s1 ⟨x, H1, I1, r1, q1⟩ => thn (hb pins s1 σ H1 _ I1 q1) fun u s2 ⟨y, H2, I2, r2, q2⟩ =>
    thn (ho pins s2 σ H2 x y v u _ I2 r1 r2 q2) fun c s3 ⟨z, H3, I3, r3, k, e, q3⟩ => ?_) hm
  subst e
  cases r3
  exact wpAny_truthy_bool ⟨H3, I3, q3⟩
theorem line63 : (sizeLine : Nat) < 2 ^ 63 := by rw [sizeLine_eq]; decide
theorem vals1 {x : V} {us : List Value} (r : Vals [x] us) : ∃ u, us = [u] ∧ RelV x u := by
  cases r with
  | cons r1 r2 => cases r2; exact ⟨_, rfl, r1⟩
theorem vals2 {x y : V} {us : List Value} (r : Vals [x, y] us) : ∃ u w', us = [u, w'] ∧ RelV x u ∧ RelV y w' := by
  cases r with
  | cons r1 r2 =>
    cases r2 with
    | cons r3 r4 => cases r4; exact ⟨_, _, rfl, r1, r3⟩
theorem call_min2 (hc : X.calm = true) : CallR X (.builtin "min") (fun xs H Q => ∃ i j, xs = [.int i, .int j] ∧ Q (.int (if j < i then j else i)) H) := by
  intro pins s σ H xs us Q I r h
  obtain ⟨i, j, rfl, q⟩ := h
  obtain ⟨u, w', rfl, ⟨t, rfl⟩, ⟨t', rfl⟩⟩ := vals2 r
  refine min_two_ints (I.ok.hd hc) fun h' tk k => ⟨_, H, I.kept k, ?_, q⟩
  by_cases hj : j < i
  · rw [if_pos hj, if_pos hj]; exact ⟨_, rfl⟩
  · rw [if_neg hj, if_neg hj]; exact ⟨_, rfl⟩
end
end L2
namespace L2
open PySem PySem.Spec PyProof.Rows
section
variable {prog : Program} {w : World} {A : Around} {E : Value → Shared → Prop} {s : Shared} {K : PySem.W.Frag} {x dx C f : Addr} {mA : Str → Option Value} {name : Str} {v : Value}
end
theorem RelO.some_of {v : V} {o : Option Value} (r : RelO (some v) o) : ∃ u, o = some u ∧ RelV v u := by
  cases o with
  | none => exact (show False from r).elim
  | some u => exact ⟨u, rfl, r⟩
section
variable {P : Program} {w : World} {H H' : Hp} {h h' : Heap} {a C dx : Addr} {fs fs' : List (Str × V)}
end
section
variable {X : Cx} {pins : List (Addr × Obj)} {σ : St} {H : Hp} {s : Shared} {a C dx : Addr} {fs : List (Str × V)} {f : Str} {v : V} {A : Around} {E : Value → Shared → Prop}
end
section
variable {X : Cx} {o e value : Expr} {f : Str} {pos pos' tpos : Pos} {ta tv : TE}
end
section
variable {X : Cx} {pins : List (Addr × Obj)} {σ : St} {H : Hp} {s : Shared} {A : Around} {E : Value → Shared → Prop} {Q : Value → Shared → Prop} {c : Value} {b : Bool}
end
end L2
namespace L2
open PySem PySem.Spec PyProof.Rows
structure Room (k : Nat) (A : Around) : Prop where
  hd : A.handled = none
  dp : A.depth + 3 * k + 5 < recursionLimit
  un : A.units + 16 * k + 200 < cLine
theorem Room.mono {j k : Nat} {A : Around} (r : Room k A) (h : j ≤ k) : Room j A := ⟨r.hd, by have := r.dp; omega, by have := r.un; omega⟩
theorem Room.deeper {k : Nat} {A : Around} (r : Room (k + 1) A) (env : Env) : Room k (A.deeper env) :=
  ⟨r.hd, by have := r.dp; show A.depth + 1 + 3 * k + 5 < _; omega, by have := r.un; show A.units + 3 + 16 * k + 200 < _; omega⟩
theorem Room.depth {k : Nat} {A : Around} (r : Room k A) : A.depth < recursionLimit := by have := r.dp; omega
theorem Room.units {k : Nat} {A : Around} (r : Room k A) : A.units + 64 < cLine := by have := r.un; omega
theorem Room.units0 {k : Nat} {A : Around} (r : Room k A) : A.units < cLine := by have := r.un; omega
def tNil : TA := fun _ H Q => Q [] H
def tCons (ta : TE) (tr : TA) : TA := fun σ H Q => ta σ H fun x H1 => tr σ H1 fun xs H2 => Q (x :: xs) H2
section
variable {X : Cx} {e : Expr} {es : List Expr} {te : TE} {t : TA} {pos : Pos}
theorem pa_nil : PA X [] tNil := fun _ _ _ _ H Q I h => Calls.spliced_nil ⟨[], H, I, .nil, h⟩
theorem pa_cons (ha : PE X e te) (hr : PA X es t) (hs : starEach (e :: es) X.env = (false, eval e X.env) :: starEach es X.env := by rfl) : PA X (e :: es) (tCons te t) := by
  intro pos pins s σ H Q I h
  rw [hs]
  show wpAny _ _ (spliced ((false, eval e X.env) :: backTo pos (starEach es X.env))) _ _ s
  refine Calls.spliced_cons (thn (ha pins s σ H _ I h) fun u s1 ⟨x, H1, I1, r1, q1⟩ => ?_)
  exact thn (hr pos pins s1 σ H1 _ I1 q1) fun us s2 ⟨xs, H2, I2, r2, q2⟩ => ⟨x :: xs, H2, I2, .cons r1 r2, q2⟩
end
abbrev Sp := List V → Hp → VK → XK → Prop
abbrev CXT := List Env → Hp → Shared → XK → Value → Shared → Prop
structure Env0 (P : Program) (w : World) (K : PySem.W.Frag) (mg : Str → Option Value) (base : Heap) (A : Around) (outer : List Env) (s : Shared) (H : Hp) : Prop where
  frames : A.frames = some outer
  mod : Mod K mg base
  bs : ∀ b o, base.get? b = some o → s.heap.get? b = some o ∧ H b = none
  bsz : base.objs.size ≤ s.heap.objs.size
  funs : s.heap.FunFrames base outer
  frf : ∀ b ∈ frs outer, H b = none
  hok : HOk P w H s.heap
  bare : AllBare s.gens
def CE (outer : List Env) (P : Program) (w : World) (H : Hp) (s : Shared) (Q : VK) (u : Value) (s' : Shared) : Prop :=
  ∃ v H', s'.os = s.os ∧ AllBare s'.gens ∧ Un (frs outer) [] H H' s.heap s'.heap ∧ HOk P w H' s'.heap ∧ RelV v u ∧ Q v H'
def CR (CX : CXT) (outer : List Env) (P : Program) (w : World) (H : Hp) (s : Shared) (Q : VK) (E : XK) (r : Result) (s' : Shared) : Prop :=
  match r with
  | .ok (.ret u) => CE outer P w H s Q u s'
  | .ok _ => False
  | .error e => CX outer H s E e s'
structure FnOk (P : Program) (w : World) (K : PySem.W.Frag) (mg : Str → Option Value) (base : Heap) (CX : CXT) (k : Nat) (f : Addr) (fd : FuncData) (ps : List Str) (sp : Sp) : Prop where
  len : ∀ vs H Q E, sp vs H Q E → vs.length = ps.length
  run : ∀ (A : Around) (outer : List Env) (s : Shared) (H : Hp) (args : Args) (us : List Value) (vs : List V) (Q : VK) (E : XK), Room k A → Env0 P w K mg base A outer s H → BindsTo s fd args (ps.zip us) → Vals vs us → sp vs H Q E →
    codeAny (model P w) A (.call (.ref f) args) (CR CX outer P w H s Q E) s
section
variable {X : Cx} {pins : List (Addr × Obj)} {σ : St} {H : Hp} {s s' : Shared}
theorem Inv.env0 (I : Inv X pins σ H s) : Env0 X.prog X.w X.K X.mg X.base X.A X.stack s H :=
  ⟨I.ok.frames, I.ok.mod, I.bs, Nat.le_trans I.ok.bsz I.sz, I.stack, I.stkFree, I.hok, I.bare⟩
theorem Inv.after {Q : VK} {u : Value} (I : Inv X pins σ H s) (h : CE X.stack X.prog X.w H s Q u s') : EP X pins σ Q u s' := by
  obtain ⟨v, H', os, bare, un, hok, r, q⟩ := h
  obtain ⟨hh, g, d, t, os'⟩ := s'
  obtain rfl : os' = s.os := os
  exact ⟨v, H', I.call (h' := hh) (g' := g) (d' := d) (t' := t) (ch := []) un hok bare (fun b z => absurd z (by simp)), r, q⟩
end
def tCall (sp : Sp) (dvs : List V) (E : XK) (t : TA) : TE := fun σ H Q => t σ H fun vs H1 => sp (vs ++ dvs) H1 Q E
def Binds (K : PySem.W.Frag) (fd : FuncData) (ps : List Str) (ds : List Value) : Prop :=
  ∀ (s : Shared) (us : List Value), K.In s.heap → (us ++ ds).length = ps.length → BindsTo s fd ⟨us, []⟩ (ps.zip (us ++ ds))
theorem Binds.all {K : PySem.W.Frag} {fd : FuncData} {ps : List Str} (h : ∀ us : List Value, us.length = ps.length → bindArgs fd ⟨us, []⟩ = pure (ps.zip us)) : Binds K fd ps [] := fun s us _ hl => by
  rw [List.append_nil] at hl ⊢
  exact .of_eq (h us hl)
def Passes (CX : CXT) (X : Cx) (E : XK) : Prop := ∀ (pins : List (Addr × Obj)) (σ : St) (H : Hp) (s : Shared) (e : Value) (s' : Shared), Inv X pins σ H s → CX X.stack H s E e s' → X.xe e s'
section
variable {X : Cx} {CX : CXT} {k : Nat} {f C : Addr} {fd : FuncData} {ps : List Str} {sp : Sp} {dvs : List V} {ds : List Value} {E : XK} {x m : Str} {p pos apos : Pos} {e o : Expr} {es : List Expr} {ta : TE} {t : TA}
theorem run_fn {pins : List (Addr × Obj)} {σ : St} {H : Hp} {s : Shared} {Q : VK} {us : List Value} {vs : List V} (F : FnOk X.prog X.w X.K X.mg X.base CX k f fd ps sp) (hr : Room k X.A) (hb : Binds X.K fd ps ds) (hd : Vals dvs ds) (hx : Passes CX X E)
    (I : Inv X pins σ H s) (r : Vals vs us) (h : sp (vs ++ dvs) H Q E) : wpAny (model X.prog X.w) X.A (call (.ref f) us) (EP X pins σ Q) X.xe s := by
  have r2 : Vals (vs ++ dvs) (us ++ ds) := r.append hd
  have hl : (us ++ ds).length = ps.length := by rw [← r2.length]; exact F.len _ _ _ _ h
  refine wpAny_call (codeAny_mono (F.run X.A X.stack s H ⟨us, []⟩ (us ++ ds) (vs ++ dvs) Q E hr I.env0 (hb s us I.kIn hl) r2 h) fun r s' hq => ?_)
  cases r with
  | error e => exact hx pins σ H s e s' I hq
  | ok fl =>
    cases fl with
    | ret u => exact I.after hq
    | next => exact False.elim hq
    | brk => exact False.elim hq
    | cont => exact False.elim hq
theorem pe_call (F : FnOk X.prog X.w X.K X.mg X.base CX k f fd ps sp) (hr : Room k X.A) (hg : Gl X x) (hm : X.mg x = some (.ref f)) (hk : PySem.W.keepIn X.K (.ref f) = true) (hb : Binds X.K fd ps ds) (hd : Vals dvs ds) (hx : Passes CX X E)
    (ha : PA X (e :: es) t) (hdb : (x == ("__debug__" : Str)) = false := by decide) (he : starEach (e :: es) X.env = (false, eval e X.env) :: starEach es X.env := by rfl) (hpl : (backTo pos (starEach es X.env)).any (·.1) = false := by rfl) :
    PE X (.Call (.Name x p) (e :: es) [] pos) (tCall sp dvs E t) := by
  intro pins s σ H Q I h
  refine wpAny_Call_Name_kw (ld_glob I hg hm ?_ hdb)
  refine PySem.W.callWith_K (h₀ := X.base) I.ok.mod.kin hk (thn (ha pos pins s σ H _ I h) fun us s1 ⟨vs, H1, I1, r, q⟩ => ⟨I1.kIn, ?_⟩) he hpl
  exact run_fn F hr hb hd hx I1 r q
end
section
variable {X : Cx} {CX : CXT} {k : Nat} {f C : Addr} {fd : FuncData} {ps ks : List Str} {sp : Sp} {E : XK} {x m : Str} {p pos apos kpos : Pos} {e o : Expr} {es : List Expr} {kws : List Keyword} {te ta : TE} {t tk : TA} {nm : Option Str}
variable {g : List Value → List Value → List Value} {gV : List V → List V → List V}
end
structure FnScope (N P : List Str) (sc : Scope) : Prop where
  kind : sc.kind = .function
  co : sc.isCoroutine = false
  gen : sc.isGenerator = false
  nd : N.Nodup
  pre : N.take P.length = P
  par : ∀ x ∈ P, sc.names.lookup x = some .local ∨ sc.names.lookup x = some .cell
  nofree : ∀ y ∈ sc.names, y.2 ≠ .free
theorem bindL_out {kindOf : Str → Option NameKind} {x : Str} : ∀ {binds : List (Str × Value)} {m : Str → Option Value}, (∀ v, (x, v) ∉ binds) → bindL kindOf binds m x = m x
  | [], _, _ => rfl
  | (n, v) :: r, m, h => by
    unfold bindL
    rw [bindL_out fun w hw => h w (List.mem_cons_of_mem _ hw)]
    split
    · have : x ≠ n := by rintro rfl; exact h v List.mem_cons_self
      simp [this]
    · rfl
theorem bindC_out {kindOf : Str → Option NameKind} {x : Str} : ∀ {binds : List (Str × Value)} {m : Str → Option Value}, (∀ v, (x, v) ∉ binds) → bindC kindOf binds m x = m x
  | [], _, _ => rfl
  | (n, v) :: r, m, h => by
    unfold bindC
    rw [bindC_out fun w hw => h w (List.mem_cons_of_mem _ hw)]
    split
    · rfl
    · have : x ≠ n := by rintro rfl; exact h v List.mem_cons_self
      simp [this]
theorem bindL_get {kindOf : Str → Option NameKind} {x : Str} {v : Value} : ∀ {P : List Str} {vs : List Value} {i : Nat} {m : Str → Option Value}, P.Nodup → P[i]? = some x → vs[i]? = some v → kindOf x = some .local →
    bindL kindOf (P.zip vs) m x = some v
  | [], _, _, _, _, h, _, _ => by simp at h
  | _ :: _, [], _, _, _, _, h, _ => by simp at h
  | p :: P, w :: vs, 0, m, nd, h1, h2, hk => by
    simp at h1 h2; subst h1; subst h2
    show bindL kindOf ((p, w) :: P.zip vs) m p = _
    unfold bindL
    rw [bindL_out fun v hv => (List.nodup_cons.mp nd).1 (List.of_mem_zip hv).1, if_pos hk]
    simp
  | p :: P, w :: vs, i + 1, m, nd, h1, h2, hk => by
    show bindL kindOf ((p, w) :: P.zip vs) m x = _
    unfold bindL
    exact bindL_get (i := i) (List.nodup_cons.mp nd).2 (by simpa using h1) (by simpa using h2) hk
theorem bindC_get {kindOf : Str → Option NameKind} {x : Str} {v : Value} : ∀ {P : List Str} {vs : List Value} {i : Nat} {m : Str → Option Value}, P.Nodup → P[i]? = some x → vs[i]? = some v → kindOf x ≠ some .local →
    bindC kindOf (P.zip vs) m x = some v
  | [], _, _, _, _, h, _, _ => by simp at h
  | _ :: _, [], _, _, _, _, h, _ => by simp at h
  | p :: P, w :: vs, 0, m, nd, h1, h2, hk => by
    simp at h1 h2; subst h1; subst h2
    show bindC kindOf ((p, w) :: P.zip vs) m p = _
    unfold bindC
    rw [bindC_out fun v hv => (List.nodup_cons.mp nd).1 (List.of_mem_zip hv).1, if_neg hk]
    simp
  | p :: P, w :: vs, i + 1, m, nd, h1, h2, hk => by
    show bindC kindOf ((p, w) :: P.zip vs) m x = _
    unfold bindC
    exact bindC_get (i := i) (List.nodup_cons.mp nd).2 (by simpa using h1) (by simpa using h2) hk
def start (N : List Str) (vs : List V) : St := vs.map some ++ List.replicate (N.length - vs.length) none
def cxOf (CX : CXT) (P : Program) (w : World) (K : PySem.W.Frag) (mg : Str → Option Value) (base : Heap) (N : List Str) (qual : Str) (scope : Scope) (f : Addr) (cd : Value) (A : Around) (outer : List Env) (s : Shared) (H : Hp) (E : XK) : Cx where
  prog := P
  w := w
  K := K
  mg := mg
  base := base
  A := A.deeper (envOfC qual scope s.heap.objs.size f cd)
  N := N
  s₀ := s
  H₀ := H
  env := envOfC qual scope s.heap.objs.size f cd
  outer := outer
  stack := envOfC qual scope s.heap.objs.size f cd :: outer
  ex := []
  calm := true
  fn := fun _ => true
  pn := []
  xe := fun e s' => wpAny (model P w) (A.deeper (envOfC qual scope s.heap.objs.size f cd)) (leaving (envOfC qual scope s.heap.objs.size f cd) e) (fun _ s'' => CX outer H s E e s'') (fun e' s'' => CX outer H s E e' s'') s'
theorem cell_has {sc : Scope} {n : Nat} {x : Str} (h : sc.names.lookup x = some .cell) : ∃ c, (cellsFrom n sc.names []).lookup x = some c := by
  have q := PySem.W.cellsFrom_some sc.names n [] (.inl h)
  exact Option.isSome_iff_exists.mp q
theorem inv_start {CX : CXT} {P : Program} {w : World} {K : PySem.W.Frag} {mg : Str → Option Value} {base : Heap} {N ps : List Str} {qual : Str} {scope : Scope} {f : Addr} {cd : Value} {A : Around} {outer : List Env} {s s1 : Shared} {H : Hp} {E : XK} {us : List Value} {vs : List V}
    (S : FnScope N ps scope) (hd : A.handled = none) (e0 : Env0 P w K mg base A outer s H) (hl : vs.length = ps.length) (r : Vals vs us)
    (x : InCallC s s.heap.objs.size (bindL (envOfC qual scope s.heap.objs.size f cd).kindOf (ps.zip us) fun _ => none) (cellsFrom (s.heap.objs.size + 1) scope.names []) (bindC (envOfC qual scope s.heap.objs.size f cd).kindOf (ps.zip us) fun _ => none) s1) :
    Inv (cxOf CX P w K mg base N qual scope f cd A outer s H E) [] (start N vs) H s1 := by
  have hpl : ps.length ≤ N.length := by have := congrArg List.length S.pre; rw [List.length_take] at this; omega
  obtain ⟨h1, tk, rfl, hk⟩ := x.done
  have noA : ∀ b : Addr, b ∉ (cxOf CX P w K mg base N qual scope f cd A outer s H E).ex := fun b z => absurd (show b ∈ ([] : List Addr) from z) (by simp)
  refine ⟨⟨e0.mod, S.kind, rfl, rfl, Nat.le_refl _, fun y z c h1 h2 => ?_, fun y hy => ?_, fun y c _ h => ?_, fun _ => hd, Around.frames_deeper e0.frames, .inr ⟨rfl, rfl⟩, fun b z => absurd z (noA b), e0.bs, e0.bsz, fun b _ _ => noA b, fun b z => absurd z (noA b), e0.funs, e0.frf⟩,
    rfl, e0.bare, Un.kept hk, ⟨_, x.toInCall.ns, fun i y v h1 h2 h3 => ?_⟩, fun y c h => ⟨_, x.cell y c h⟩, e0.hok.fresh (Nat.le_refl _), fun y c h => ?_, fun p hp => absurd (show p ∈ ([] : List (Addr × Obj)) from hp) (by simp), e0.hok.kept hk, ?_⟩
  · exact name_of_addr x.apart (PySem.mem_of_lookup h1) (PySem.mem_of_lookup h2)
  · have hy : scope.names.lookup y = some .cell ∨ scope.names.lookup y = some .free := hy
    rcases hy with hy | hy
    · exact cell_has hy
    · exact absurd rfl (S.nofree _ (PySem.mem_of_lookup hy))
  · exact Nat.le_of_lt (x.above y c (PySem.mem_of_lookup h))
  · have hi : i < vs.length := by
      unfold start at h2
      by_cases hi : i < vs.length
      · exact hi
      · rw [List.getElem?_append_right (by simpa using hi)] at h2
        rw [List.getElem?_replicate] at h2
        split at h2 <;> cases h2
    have ha : vs[i]? = some v := by
      unfold start at h2
      rw [List.getElem?_append_left (by simpa using hi), List.getElem?_map] at h2
      cases e : vs[i]? with
      | none => rw [e] at h2; cases h2
      | some a => rw [e] at h2; cases h2; rfl
    obtain ⟨u, hu, rv⟩ := r.get ha
    have hp : ps[i]? = some y := by
      rw [← S.pre, List.getElem?_take_of_lt (by omega)]; exact h1
    have ndP : ps.Nodup := by rw [← S.pre]; exact S.nd.sublist (List.take_sublist _ _)
    refine ⟨u, rv, ?_⟩
    rcases S.par y (List.mem_of_getElem? hp) with k | k
    · exact .inl ⟨k, bindL_get ndP hp hu k⟩
    · obtain ⟨c, e⟩ := cell_has (n := s.heap.objs.size + 1) k
      refine .inr ⟨.inl k, c, e, ?_⟩
      have q := x.cell y c e
      rw [bindC_get ndP hp hu (by show scope.names.lookup y ≠ _; rw [k]; decide)] at q
      exact q
  · exact e0.hok.fresh (Nat.le_of_lt (x.above y c (PySem.mem_of_lookup h)))
  · unfold start
    show _ = N.length
    rw [List.length_append, List.length_map, List.length_replicate]
    omega
theorem fn_of {CX : CXT} {P : Program} {w : World} {K : PySem.W.Frag} {mg : Str → Option Value} {base : Heap} {k : Nat} {f : Addr} {name qual : Str} {params : Arguments} {body : List Stmt} {scope : Scope} {dV kV doc pm cdv ct oc : Value} {an od : Option Addr}
    {osl : Array (Option Value)} {N ps : List Str} {sp : Sp} (lk : K.lookup f = some ⟨oc, od, .func (PySem.W.fnOf name qual params body scope dV kV doc pm an cdv ct), osl⟩) (hcd : PySem.W.codeIn K cdv qual = true) (S : FnScope N ps scope)
    (len : ∀ vs H Q E, sp vs H Q E → vs.length = ps.length)
    (hbody : ∀ (A : Around) (outer : List Env) (s : Shared) (H : Hp) (vs : List V) (Q : VK) (E : XK), Room k (A.deeper (envOfC qual scope s.heap.objs.size f cdv)) → sp vs H Q E →
      ∃ t, PSs (cxOf CX P w K mg base N qual scope f cdv A outer s H E) body t ∧ t { nx := fun _ H' => Q .non H', rt := Q } (start N vs) H) :
    FnOk P w K mg base CX (k + 1) f (PySem.W.fnOf name qual params body scope dV kV doc pm an cdv ct) ps sp := by
  refine ⟨len, fun A outer s H args us vs Q E hr e0 hb r hsp => ?_⟩
  have hl := len _ _ _ _ hsp
  have KX : K.In s.heap := e0.mod.kin.keeps fun b o e => (e0.bs b o e).1
  have lim : s.heap.NoLimit := e0.mod.nolimit.keeps fun b o e => (e0.bs b o e).1
  have hkind : ∀ y ∈ ps.zip us, scope.names.lookup y.1 = some .local ∨ (scope.names.lookup y.1 = some .cell ∧ ((cellsFrom (s.heap.objs.size + 1) scope.names []).lookup y.1).isSome = true) := fun ⟨n, v⟩ hy => by
    rcases S.par n (List.of_mem_zip hy).1 with q | q
    · exact .inl q
    · exact .inr ⟨q, PySem.W.cellsFrom_some _ _ _ (.inl q)⟩
  refine codeAny_call_function hr.depth (KX _ _ lk) rfl S.co S.gen rfl (PySem.W.codeRec_of KX hcd) (hb _ _ _ _ ?_)
  refine wpAny_newFunctionEnv_cells S.kind hkind fun env he s1 x => ?_
  subst he
  refine ⟨lim.keeps x.toInCall.keep, codeAny_func ?_⟩
  obtain ⟨t, ht, hq⟩ := hbody A outer s H vs Q E (hr.deeper _) hsp
  have I : Inv (cxOf CX P w K mg base N qual scope f cdv A outer s H E) [] (start N vs) H s1 := inv_start S hr.hd e0 hl r x
  refine wpAny_mono (ht [] s1 (start N vs) H _ I hq) (fun fl s' hs => ?_) fun e s' hs => hs
  have fin : ∀ {σ' : St} {H' : Hp} {v : V} {u : Value}, Inv (cxOf CX P w K mg base N qual scope f cdv A outer s H E) [] σ' H' s' → RelV v u → Q v H' → CE outer P w H s Q u s' :=
    fun {σ' H' v u} J rv q => ⟨v, H', J.os, J.bare, J.base, J.hok, rv, q⟩
  cases fl with
  | ret u =>
    obtain ⟨v, σ', H', J, rv, q⟩ := hs
    exact fin J rv q
  | next =>
    obtain ⟨σ', H', J, q⟩ := hs
    exact fin (v := V.non) (u := Value.none) J rfl q
  | brk =>
    obtain ⟨_, _, _, q⟩ := hs
    exact False.elim q
  | cont =>
    obtain ⟨_, _, _, q⟩ := hs
    exact False.elim q
end L2
namespace L2
open PySem PySem.Spec PyProof.Rows
section
variable {X : Cx} {x : Str} {p pos : Pos} {e : Expr} {es : List Expr} {t : TA} {id T : String} {r : List V → Hp → VK → Prop}
def tCB (r : List V → Hp → VK → Prop) (t : TA) : TE := fun σ H Q => t σ H fun vs H1 => r vs H1 Q
theorem pe_callB (hc : CallR X (.builtin id) r) (hg : Gl X x) (hm : X.mg x = none) (hv : bootBuiltins x = some (.builtin id)) (ha : PA X (e :: es) t) (hn : x ≠ "__name__" := by decide) (hdb : (x == ("__debug__" : Str)) = false := by decide)
    (he : starEach (e :: es) X.env = (false, eval e X.env) :: starEach es X.env := by rfl) (hpl : (backTo pos (starEach es X.env)).any (·.1) = false := by rfl) : PE X (.Call (.Name x p) (e :: es) [] pos) (tCB r t) := by
  intro pins s σ H Q I h
  refine wpAny_Call_Name_kw (ld_blt I hg hm hv ?_ hn hdb)
  exact PyProof.Rows.callWith_builtin1 (thn (ha pos pins s σ H _ I h) fun us s1 ⟨vs, H1, I1, r1, q1⟩ => hc pins s1 σ H1 vs us Q I1 r1 q1) he hpl
theorem pe_callTy (hc : CallR X (.type T) r) (hg : Gl X x) (hm : X.mg x = none) (hv : bootBuiltins x = some (.type T)) (ha : PA X (e :: es) t) (hn : x ≠ "__name__" := by decide) (hdb : (x == ("__debug__" : Str)) = false := by decide)
    (he : starEach (e :: es) X.env = (false, eval e X.env) :: starEach es X.env := by rfl) (hpl : (backTo pos (starEach es X.env)).any (·.1) = false := by rfl) : PE X (.Call (.Name x p) (e :: es) [] pos) (tCB r t) := by
  intro pins s σ H Q I h
  refine wpAny_Call_Name_kw (ld_blt I hg hm hv ?_ hn hdb)
  exact PyProof.Rows.callWith_type1 (thn (ha pos pins s σ H _ I h) fun us s1 ⟨vs, H1, I1, r1, q1⟩ => hc pins s1 σ H1 vs us Q I1 r1 q1) he hpl
end
end L2
namespace HT
open PySem PyProof.Rows
section
open PySem.SeqAt
open PySem.AutoSeq1 (wpAny_loadPart')
open PySem.MeetsSeq PySem.MeetsSeq2 PySem.MeetsSeq3
end
section
variable {prog : Program} {w : World} {A : Around} {E : Value → Shared → Prop} {s : Shared}
def sIx (n d : Nat) : Option Int → Nat
  | none => d
  | some v => if v < 0 then (v + (n : Int)).toNat else min v.toNat n
theorem sIx_none (n d : Nat) : sIx n d none = d := rfl
theorem sIx_nat (n d k : Nat) : sIx n d (some (k : Int)) = min k n := by
  show (if (k : Int) < 0 then ((k : Int) + (n : Int)).toNat else min (k : Int).toNat n) = min k n
  rw [if_neg (by omega), Int.toNat_natCast]
end
end HT
namespace L2
open PySem PySem.Spec PyProof.Rows
abbrev TO := St → Hp → (Option Int → Hp → Prop) → Prop
def PO (X : Cx) (e : Option Expr) (t : TO) : Prop :=
  ∀ (pins : List (Addr × Obj)) (s : Shared) (σ : St) (H : Hp) (Q : Option Int → Hp → Prop), Inv X pins σ H s → t σ H Q →
    wpAny (model X.prog X.w) X.A (evalPart e X.env) (fun u s' => ∃ o H', Inv X pins σ H' s' ∧ IsPart u o ∧ Q o H') X.xe s
def tNoPart : TO := fun _ H Q => Q none H
def tPart (t : TE) : TO := fun σ H Q => t σ H fun x H1 => ∃ i, x = .int i ∧ Q (some i) H1
section
variable {X : Cx} {e : Expr} {te : TE} {lo hi : Option Expr} {tl th : TO} {pos p2 : Pos}
theorem po_none : PO X none tNoPart := by
  intro pins s σ H Q I h
  rw [evalPart_none]
  exact wpAny_pure ⟨none, H, I, .none, h⟩
theorem po_some (h : PE X e te) : PO X (some e) (tPart te) := by
  intro pins s σ H Q I hw
  rw [evalPart_some]
  refine thn (h pins s σ H _ I hw) fun u s1 ⟨x, H1, I1, r1, q1⟩ => ?_
  obtain ⟨i, rfl, q⟩ := q1
  obtain ⟨t, rfl⟩ := r1
  exact ⟨some i, H1, I1, .int i t, q⟩
def SlR (X : Cx) (r : V → Option Int → Option Int → Hp → VK → Prop) : Prop :=
  ∀ (pins : List (Addr × Obj)) (s : Shared) (σ : St) (H : Hp) (x : V) (v vl vu : Value) (lo hi : Option Int) (sl : Addr) (Q : VK), Inv X pins σ H s → RelV x v → s.heap.IsSliceOf sl vl vu .none → IsPart vl lo → IsPart vu hi → r x lo hi H Q →
    ∃ T id, typeLookup (.type T) "__getitem__" = pure (some (.builtin id)) ∧ s.TypeIs v T ∧ wpAny (model X.prog X.w) X.A (getItem v (.ref sl)) (EP X pins σ Q) X.xe s
def tSl (r : V → Option Int → Option Int → Hp → VK → Prop) (te : TE) (tl th : TO) : TE := fun σ H Q => te σ H fun x H1 => tl σ H1 fun l H2 => th σ H2 fun u H3 => r x l u H3 Q
theorem pe_slice {r : V → Option Int → Option Int → Hp → VK → Prop} (hr : SlR X r) (he : PE X e te) (hl : PO X lo tl) (hu : PO X hi th) : PE X (.Subscript e (.Slice lo hi none p2) pos) (tSl r te tl th) := by
  intro pins s σ H Q I h
  refine Subscript_ (thn (he pins s σ H _ I h) fun v s1 ⟨x, H1, I1, r1, q1⟩ => ?_)
  refine wpAny_Slice (thn (hl pins s1 σ H1 _ I1 q1) fun vl s2 ⟨l, H2, I2, pl, q2⟩ => thn (hu pins s2 σ H2 _ I2 q2) fun vu s3 ⟨u, H3, I3, pu, q3⟩ => ?_)
  rw [evalPart_none]
  refine wpAny_pure ?_
  have I4 : Inv X pins σ H3 { s3 with heap := s3.heap.push { cls := .type "slice", data := .fields #[vl, vu, .none] } } := I3.kept (t' := s3.toks) fun b ob q => Heap.get?_push_of_some _ q
  obtain ⟨T, id, hT, ht, hg⟩ := hr pins { s3 with heap := s3.heap.push { cls := .type "slice", data := .fields #[vl, vu, .none] } } σ H3 x v vl vu l u s3.heap.objs.size Q I4 r1 (Heap.IsSliceOf.new ..) pl pu q3
  show wpAny (model X.prog X.w) X.A (subscriptTail e (.Slice lo hi none p2) v (.ref s3.heap.objs.size)) (EP X pins σ Q) X.xe { s3 with heap := s3.heap.push { cls := .type "slice", data := .fields #[vl, vu, .none] } }
  exact tail_any (ops := [.ref s3.heap.objs.size, v]) ht hT hg (by with_unfolding_all rfl)
def cutV (xs : List V) (lo hi : Option Int) : List V := (xs.drop (HT.sIx xs.length 0 lo)).take (HT.sIx xs.length xs.length hi - HT.sIx xs.length 0 lo)
theorem cutV_length (xs : List V) (lo hi : Option Int) : (cutV xs lo hi).length ≤ xs.length := by
  unfold cutV
  rw [List.length_take, List.length_drop]
  omega
end
end L2
namespace L2
open PySem PySem.Spec PyProof.Rows
def ixN (n : Nat) (i : Int) : Option Nat := if 0 ≤ i then (if i < n then some i.toNat else none) else if -(n : Int) ≤ i then some (i + n).toNat else none
def atI {α : Type} (xs : List α) (i : Int) : Option α := (ixN xs.length i).bind fun j => xs[j]?
theorem ixN_seq {n : Nat} {i : Int} {j : Nat} (h : ixN n i = some j) : seqIndex? i n = some j ∧ j < n ∧ -(n : Int) ≤ i ∧ i < n := by
  unfold ixN at h
  by_cases h0 : 0 ≤ i
  · rw [if_pos h0] at h
    by_cases h1 : i < n
    · rw [if_pos h1] at h
      have e : i.toNat = j := Option.some.inj h
      exact ⟨by rw [seqIndex_of h0 h1, e], by omega, by omega, h1⟩
    · rw [if_neg h1] at h; cases h
  · rw [if_neg h0] at h
    by_cases h1 : -(n : Int) ≤ i
    · rw [if_pos h1] at h
      have e : (i + n).toNat = j := Option.some.inj h
      exact ⟨by rw [seqIndex_neg (by omega) h1, e], by omega, h1, by omega⟩
    · rw [if_neg h1] at h; cases h
theorem atI_get {α : Type} {xs : List α} {i : Int} {v : α} (h : atI xs i = some v) : ∃ j, seqIndex? i xs.length = some j ∧ xs[j]? = some v ∧ j < xs.length ∧ -(xs.length : Int) ≤ i ∧ i < xs.length := by
  unfold atI at h
  cases e : ixN xs.length i with
  | none => rw [e] at h; cases h
  | some j =>
    rw [e] at h
    obtain ⟨h1, h2, h3, h4⟩ := ixN_seq e
    exact ⟨j, h1, h, h2, h3, h4⟩
theorem atI_nat {α : Type} {xs : List α} {j : Nat} {v : α} (h : xs[j]? = some v) : atI xs (j : Int) = some v := by
  have hj : j < xs.length := (List.getElem?_eq_some_iff.mp h).1
  have e : ixN xs.length (j : Int) = some j := by
    unfold ixN
    rw [if_pos (by omega), if_pos (by omega)]; simp
  unfold atI; rw [e]; exact h
def PlainIx (b : Expr) : Prop := ∀ o i, subscripted b false o i = operate [o, i] (getItem o i)
def IxR (X : Cx) (r : R2) : Prop :=
  ∀ (value slice : Expr) (pins : List (Addr × Obj)) (s : Shared) (σ : St) (H : Hp) (x y : V) (v u : Value) (Q : VK), Inv X pins σ H s → RelV x v → RelV y u → r x y H Q →
    subscripted slice false v u = operate [v, u] (getItem v u) → wpAny (model X.prog X.w) X.A (subscriptTail value slice v u) (EP X pins σ Q) X.xe s
def MtR (X : Cx) (id : String) (r : V → List V → Hp → VK → Prop) : Prop :=
  ∀ (pins : List (Addr × Obj)) (s : Shared) (σ : St) (H : Hp) (x : V) (xs : List V) (v : Value) (us : List Value) (Q : VK), Inv X pins σ H s → RelV x v → Vals xs us → r x xs H Q →
    wpAny (model X.prog X.w) X.A (call (.builtin id) (v :: us)) (EP X pins σ Q) X.xe s
section
variable {X : Cx} {a b : Expr} {ta tb : TE} {pos : Pos}
theorem pe_ix {r : R2} (hr : IxR X r) (ha : PE X a ta) (hb : PE X b tb) (hs : PlainIx b) : PE X (.Subscript a b pos) (tOp r ta tb) := by
  intro pins s σ H Q I h
  exact Subscript_ (binT ha hb I h fun v u s2 x y H2 I2 rx ry q => hr a b pins s2 σ H2 x y v u Q I2 rx ry q (hs _ _))
def rIxL (K : PySem.W.Frag) : R2 := fun x y H Q => ∃ p xs i v, x = .ref p ∧ y = .int i ∧ SqL K H p xs ∧ atI xs i = some v ∧ Q v H
def rIxT (K : PySem.W.Frag) : R2 := fun x y H Q => ∃ p xs i v, x = .ref p ∧ y = .int i ∧ SqT K H p xs ∧ atI xs i = some v ∧ Q v H
def rIxS : R2 := fun x y H Q => ∃ z i c, x = .str z ∧ y = .int i ∧ z.length ≤ sizeLine ∧ atI z.cps.toList i = some c ∧ Q (.str ⟨#[c]⟩) H
theorem ix_list : IxR X (rIxL X.K) := by
  intro value slice pins s σ H x y v u Q I rx ry h hs
  obtain ⟨p, xs, i, z, rfl, rfl, hq, he, q⟩ := h
  cases rx
  obtain ⟨t, rfl⟩ := ry
  obtain ⟨its, r, pl, hz⟩ := I.list hq
  obtain ⟨j, h1, h2, h3, h4, h5⟩ := atI_get he
  obtain ⟨w, ew, rw'⟩ := r.get h2
  have hl := r.length
  have hn := line63
  have fin : EP X pins σ Q w s := ⟨z, H, I, rw', q⟩
  by_cases h0 : 0 ≤ i
  · have hj : i.toNat = j := by
      rw [seqIndex_of h0 h5] at h1
      exact Option.some.inj h1
    exact item_listR pl.isList h0 (by omega) (by rw [hj]; simpa using ew) fin hs
  · have hj : (i + (its.toArray.size : Int)).toNat = j := by
      rw [seqIndex_neg (by omega) h4] at h1
      rw [List.size_toArray, ← hl]
      exact Option.some.inj h1
    exact subscriptTail_builtinR (x := w) pl.isList.typeIs slot_list_getitem.lookup
      (wpAny_getItem_list_neg (Q := fun r s' => r = w ∧ EP X pins σ Q r s') pl.isList (by omega) (by rw [List.size_toArray] <;> omega) (by omega) (by rw [hj]; simpa using ew) ⟨rfl, fin⟩) hs
theorem ix_tup : IxR X (rIxT X.K) := by
  intro value slice pins s σ H x y v u Q I rx ry h hs
  obtain ⟨p, xs, i, z, rfl, rfl, hq, he, q⟩ := h
  cases rx
  obtain ⟨t, rfl⟩ := ry
  obtain ⟨its, r, pl, hz⟩ := I.tuple hq
  obtain ⟨j, h1, h2, h3, h4, h5⟩ := atI_get he
  obtain ⟨w, ew, rw'⟩ := r.get h2
  have hl := r.length
  have hn := line63
  have fin : EP X pins σ Q w s := ⟨z, H, I, rw', q⟩
  exact subscriptTail_builtinR (x := w) pl.typeIs slot_tuple_getitem.lookup
    (getItem_tuple (j := j) (Q := fun r s' => r = w ∧ EP X pins σ Q r s') pl (by omega) (by omega) (by rw [List.size_toArray, ← hl]; exact h1) (by simpa using ew) ⟨rfl, fin⟩) hs
theorem ix_str : IxR X rIxS := by
  intro value slice pins s σ H x y v u Q I rx ry h hs
  obtain ⟨z, i, c, rfl, rfl, hz, he, q⟩ := h
  obtain ⟨t, rfl⟩ := rx
  obtain ⟨t', rfl⟩ := ry
  obtain ⟨j, h1, h2, h3, h4, h5⟩ := atI_get he
  have hl : z.cps.toList.length = z.length := by simp [Str.length]
  rw [hl] at h1 h4 h5
  have hn := line63
  exact tail_any (typeIs_str s z t) slot_str_getitem.lookup (getItem_str (c := c) (by
    have e1 : decide (i < -(2 ^ 63 : Int)) = false := decide_eq_false (by omega)
    have e2 : decide (i ≥ 2 ^ 63) = false := decide_eq_false (by omega)
    rw [e1, e2, Bool.or_false]) (by rw [h1]; simpa using h2) ⟨.str ⟨#[c]⟩, H, I.tok _, ⟨_, rfl⟩, q⟩) hs
theorem mapSeq_set (its : List Value) (n j : Nat) (u : Value) : Obj.mapSeq (·.setIfInBounds j u) { cls := .type "list", data := .seq its.toArray n } = { cls := .type "list", data := .seq (its.set j u).toArray n } := by
  simp [Obj.mapSeq]
theorem Inv.lst {pins : List (Addr × Obj)} {σ : St} {H : Hp} {s : Shared} {p : Addr} {xs : List V} (I : Inv X pins σ H s) (h : H p = some (.lst xs)) :
    ∃ (its : List Value) (n : Nat), Vals xs its ∧ s.heap.get? p = some { cls := .type "list", data := .seq its.toArray n } ∧ xs.length ≤ sizeLine := by
  obtain ⟨z, its, n, r, e⟩ := I.hok p _ h
  exact ⟨its, n, r, e, z⟩
theorem Inv.lstUpd {pins : List (Addr × Obj)} {σ : St} {H : Hp} {s : Shared} {p : Addr} {xs ys : List V} {its its' : List Value} {n n' : Nat} {f : Obj → Obj} (I : Inv X pins σ H s) (h : H p = some (.lst xs))
    (ho : s.heap.get? p = some { cls := .type "list", data := .seq its.toArray n }) (hf : f { cls := .type "list", data := .seq its.toArray n } = { cls := .type "list", data := .seq its'.toArray n' }) (r : Vals ys its') (hz : ys.length ≤ sizeLine) (t : Nat) :
    Inv X pins σ (upd H p (.lst ys)) { s with heap := s.heap.update p f, toks := t } := by
  have e : (s.heap.update p f).get? p = some { cls := .type "list", data := .seq its'.toArray n' } := by
    rw [Heap.get?_update_self f ho (by rw [hf] <;> rfl), hf]
  refine I.write (x := p) (e := p) (by rw [h]; trivial) (.inl rfl) (fun b u hb q => (Heap.get?_update_other _ _ (Ne.symm hb)).trans q) ⟨_, e⟩ ?_
  exact ⟨hz, its', n', r, e⟩
def rSetL : V → V → V → Hp → (Hp → Prop) → Prop := fun o i v H Q => ∃ p xs k j, o = .ref p ∧ i = .int k ∧ H p = some (.lst xs) ∧ ixN xs.length k = some j ∧ Q (upd H p (.lst (xs.set j v)))
theorem set_list : PSet X rSetL := by
  intro pins s σ H o i v ov iv u Q I ro ri rv h
  obtain ⟨p, xs, k, j, rfl, rfl, hp, hj, q⟩ := h
  cases ro
  obtain ⟨t, rfl⟩ := ri
  obtain ⟨its, n, r, ho, hz⟩ := I.lst hp
  obtain ⟨h1, h2, h3, h4⟩ := ixN_seq hj
  have hl := r.length
  have hn := line63
  have I' : Inv X pins σ (upd H p (.lst (xs.set j v))) { s with heap := s.heap.update p (Obj.mapSeq (·.setIfInBounds j u)) } :=
    I.lstUpd hp ho (mapSeq_set its n j u) (r.set rv j) (by rw [List.length_set]; exact hz) s.toks
  by_cases h0 : 0 ≤ k
  · have hk : k.toNat = j := by
      rw [seqIndex_of h0 h4] at h1
      exact Option.some.inj h1
    exact PySem.W.ki_setAt ho h0 (by omega) (by rw [List.size_toArray, ← hl]; exact h4) (by rw [hk]; exact ⟨_, I', q⟩)
  · have hk : (k + (its.toArray.size : Int)).toNat = j := by
      rw [seqIndex_neg (by omega) h3] at h1
      rw [List.size_toArray, ← hl]
      exact Option.some.inj h1
    exact PySem.W.ki_setBack ho (by omega) (by rw [List.size_toArray, ← hl]; exact h3) (by omega) (by rw [hk]; exact ⟨_, I', q⟩)
theorem slice_bounds (lo hi : Option Int) (n : Nat) : (sliceBounds lo hi none n).1 = ((HT.sIx n 0 lo : Nat) : Int) ∧ (sliceBounds lo hi none n).2.1 = ((HT.sIx n n hi : Nat) : Int) ∧ (sliceBounds lo hi none n).2.2 = 1 := by
  refine ⟨?_, ?_, rfl⟩
  · cases lo with
    | none => simp [sliceBounds, HT.sIx]
    | some i =>
      simp only [sliceBounds, HT.sIx, Option.getD_none, show (1 : Int) > 0 by decide, if_true]
      by_cases h : i < 0
      · simp only [h, if_true] <;> omega
      · simp only [h, if_false] <;> omega
  · cases hi with
    | none => simp [sliceBounds, HT.sIx]
    | some i =>
      simp only [sliceBounds, HT.sIx, Option.getD_none, show (1 : Int) > 0 by decide, if_true]
      by_cases h : i < 0
      · simp only [h, if_true] <;> omega
      · simp only [h, if_false] <;> omega
theorem slicePick_cut (its : List Value) (lo hi : Option Int) : slicePick its.toArray lo hi none = ((its.drop (HT.sIx its.length 0 lo)).take (HT.sIx its.length its.length hi - HT.sIx its.length 0 lo)).toArray := by
  obtain ⟨h1, h2, h3⟩ := slice_bounds lo hi its.toArray.size
  unfold slicePick
  rw [h1, h2, h3]
  simp only [sliceRange_one, pick_run, List.size_toArray] <;> rfl
def rSlL (K : PySem.W.Frag) : V → Option Int → Option Int → Hp → VK → Prop := fun x lo hi H Q => ∃ a xs, x = .ref a ∧ SqL K H a xs ∧ ∀ p, H p = none → Q (.ref p) (upd H p (.lst (cutV xs lo hi)))
theorem sl_list : SlR X (rSlL X.K) := by
  intro pins s σ H x v vl vu lo hi sl Q I rx hs pl pu h
  obtain ⟨a, xs, rfl, hx, q⟩ := h
  cases rx
  obtain ⟨its, r, ht, hz⟩ := I.list hx
  have hlen := r.length
  refine ⟨"list", _, slot_list_getitem.lookup, ht.isList.typeIs, ?_⟩
  refine wpAny_getItem_list_slice ht.isList hs pl pu .none (by simp) ?_ (by rw [List.size_toArray] <;> omega)
  rw [slicePick_cut, ← hlen]
  refine ⟨.ref s.heap.objs.size, _, I.laid (t' := s.toks) (o := .lst (cutV xs lo hi)) (fun b ob q => Heap.get?_push_of_some _ q) (Nat.le_refl _) ?_, rfl, q _ (I.hok.fresh (Nat.le_refl _))⟩
  exact ⟨Nat.le_trans (cutV_length xs lo hi) hz, _, 0, (r.drop (HT.sIx xs.length 0 lo)).take (HT.sIx xs.length xs.length hi - HT.sIx xs.length 0 lo), Heap.get?_push_size _ rfl⟩
theorem call_len_seq : CallR X (.builtin "len") (fun xs H Q => ∃ p ys, xs = [.ref p] ∧ (SqL X.K H p ys ∨ SqT X.K H p ys) ∧ Q (.int ys.length) H) := by
  intro pins s σ H xs us Q I r h
  obtain ⟨p, ys, rfl, hq, q⟩ := h
  obtain ⟨u, rfl, rx⟩ := vals1 r
  cases rx
  have hn := line63
  rcases hq with hq | hq
  · obtain ⟨its, r', pl, hz⟩ := I.list hq
    have hlen := r'.length
    exact Calls.call_len_list pl.isList (by simp only [List.size_toArray] <;> omega) ⟨.int ys.length, H, I.tok _, ⟨s.toks + 1, by rw [List.size_toArray, hlen]⟩, q⟩
  · obtain ⟨its, r', pl, hz⟩ := I.tuple hq
    have hlen := r'.length
    exact len_tuple pl (by simp only [List.size_toArray] <;> omega) ⟨.int ys.length, H, I.tok _, ⟨s.toks + 1, by rw [List.size_toArray, hlen]⟩, q⟩
theorem call_list_of : CallR X (.type "list") (fun xs H Q => ∃ p ys, xs = [.ref p] ∧ (SqL X.K H p ys ∨ SqT X.K H p ys) ∧ ∀ l, H l = none → Q (.ref l) (upd H l (.lst ys))) := by
  intro pins s σ H xs us Q I r h
  obtain ⟨p, ys, rfl, hq, q⟩ := h
  obtain ⟨u, rfl, rx⟩ := vals1 r
  cases rx
  have fin : ∀ (its : List Value), Vals ys its → ys.length ≤ sizeLine → ∀ (h' : Heap) (c' : Nat), (∀ b o', s.heap.get? b = some o' → h'.get? b = some o') →
      h'.get? s.heap.objs.size = some { cls := .type "list", dict := none, data := .seq its.toArray c', slots := #[] } → EP X pins σ Q (.ref s.heap.objs.size) { s with heap := h' } := fun its r' hz h' c' kp e =>
    ⟨.ref s.heap.objs.size, _, I.laid (t' := s.toks) kp (Nat.le_refl _) (show ObjOk X.prog X.w _ h' _ (.lst ys) from ⟨hz, its, c', r', e⟩), rfl, q _ (I.hok.fresh (Nat.le_refl _))⟩
  rcases hq with hq | hq
  · obtain ⟨its, r', pl, hz⟩ := I.list hq
    have hlen := r'.length
    obtain ⟨o, ho, hc, n, hd⟩ := pl.isList
    exact call_list_seq p (.inl rfl) ho hc hd (fun h' c' kp e => fin its r' hz h' c' kp e) (by simp only [List.size_toArray] <;> omega)
  · obtain ⟨its, r', pl, hz⟩ := I.tuple hq
    have hlen := r'.length
    obtain ⟨o, ho, hc, n, hd⟩ := pl
    exact call_list_seq p (.inr rfl) ho hc hd (fun h' c' kp e => fin its r' hz h' c' kp e) (by simp only [List.size_toArray] <;> omega)
def tyV (K : PySem.W.Frag) (T : String) (x : V) (H : Hp) : Prop := match x with
  | .str _ => T = "str"
  | .int _ => T = "int"
  | .ref p => (T = "list" ∧ ∃ xs, SqL K H p xs) ∨ (T = "tuple" ∧ ∃ o, K.lookup p = some o ∧ o.cls = .type "tuple" ∧ o.dict = none) ∨
      (T = "dict" ∧ ((∃ kvs, H p = some (.dK kvs)) ∨ (∃ kvs, H p = some (.dT kvs)) ∨ ∃ kvs, H p = some (.dG kvs))) ∨ (T = "set" ∧ ∃ S n, H p = some (.set S n))
  | _ => False
theorem tyV_is {pins : List (Addr × Obj)} {σ : St} {H : Hp} {s : Shared} {T : String} {x : V} {v : Value} (I : Inv X pins σ H s) (r : RelV x v) (ty : tyV X.K T x H) :
    s.TypeIs v T ∧ ∀ a, v = .ref a → ∃ ob, s.heap.get? a = some ob ∧ ob.dict = none := by
  cases x with
  | str z =>
    obtain ⟨t, rfl⟩ := r
    cases (show T = "str" from ty)
    exact ⟨typeIs_str s z t, fun _ e => nomatch e⟩
  | int i =>
    obtain ⟨t, rfl⟩ := r
    cases (show T = "int" from ty)
    exact ⟨typeIs_int s i t, fun _ e => nomatch e⟩
  | ref p =>
    cases r
    rcases ty with ⟨rfl, xs, hq⟩ | ⟨rfl, o, hk, hc, hd⟩ | ⟨rfl, hk⟩ | ⟨rfl, S, n, hk⟩
    · obtain ⟨its, _, pl, _⟩ := I.list hq
      refine ⟨pl.isList.typeIs, fun a e => ?_⟩
      cases e
      obtain ⟨o, n, e, c, hd, _⟩ := pl
      exact ⟨o, e, hd⟩
    · refine ⟨⟨o, I.kIn p o hk, hc⟩, fun a e => ?_⟩
      cases e
      exact ⟨o, I.kIn _ o hk, hd⟩
    · have z : ∃ o, s.heap.get? p = some o ∧ o.ExactDict := by
        rcases hk with ⟨kvs, hk⟩ | ⟨kvs, hk⟩ | ⟨kvs, hk⟩
        · obtain ⟨_, _, _, _, o, _, _, e, ex, _⟩ := I.hok p _ hk
          exact ⟨o, e, ex⟩
        · obtain ⟨_, _, _, _, o, _, _, e, ex, _⟩ := I.hok p _ hk
          exact ⟨o, e, ex⟩
        · obtain ⟨_, _, _, _, o, _, _, e, ex, _⟩ := I.hok p _ hk
          exact ⟨o, e, ex⟩
      obtain ⟨o, e, ex⟩ := z
      refine ⟨⟨o, e, ex.1⟩, fun a e2 => ?_⟩
      cases e2
      exact ⟨o, e, ex.2.1⟩
    · obtain ⟨o, _, _, _, e, ex, _⟩ := I.hok p _ hk
      refine ⟨⟨o, e, ex.1⟩, fun a e2 => ?_⟩
      cases e2
      exact ⟨o, e, ex.2.1⟩
  | _ => exact False.elim ty
def tBM0 (K : PySem.W.Frag) (T : String) (r : V → List V → Hp → VK → Prop) (to : TE) : TE := fun σ H Q => to σ H fun x H1 => tyV K T x H1 ∧ r x [] H1 Q
def tBM (K : PySem.W.Frag) (T : String) (r : V → List V → Hp → VK → Prop) (to : TE) (t : TA) : TE := fun σ H Q => to σ H fun x H1 => tyV K T x H1 ∧ t σ H1 fun xs H2 => r x xs H2 Q
variable {o e : Expr} {es : List Expr} {to : TE} {t : TA} {name : Str} {apos cpos : Pos} {T id : String} {r : V → List V → Hp → VK → Prop}
theorem pe_bm0 (pa : PlainAttrs T) (slot : Slot T name id) (hty : typeOf (.builtin id) = pure (.type "method_descriptor")) (hm : MtR X id r) (ho : PE X o to)
    (hbase : attributeBase o name X.env (eval o X.env) = eval o X.env := by rfl) (hline : (apos.endLine == cpos.line) = true := by rfl) : PE X (.Call (.Attribute o name apos) [] [] cpos) (tBM0 X.K T r to) := by
  intro pins s σ H Q I h
  refine wpAny_Call_method0_late hbase hline (thn (ho pins s σ H _ I h) fun v s1 ⟨x, H1, I1, r1, ty, q1⟩ => ?_)
  obtain ⟨h1, h2⟩ := tyV_is I1 r1 ty
  exact ⟨T, id, pa, slot, hty, h1, h2, Calls.callWith_builtin rfl (PySem.evalArgs_none (hm pins s1 σ H1 x [] v [] Q I1 r1 .nil q1))⟩
theorem pe_bm (pa : PlainAttrs T) (slot : Slot T name id) (hty : typeOf (.builtin id) = pure (.type "method_descriptor")) (hm : MtR X id r) (ho : PE X o to) (ha : PA X (e :: es) t)
    (hbase : attributeBase o name X.env (eval o X.env) = eval o X.env := by rfl)
    (hfew : ((backTo cpos (starEach (e :: es) X.env)).all (fun x => !x.1) && (backToKw cpos (keywordEach [] X.env)).all (fun x => x.1.isSome)
      && decide ((e :: es).length + ([] : List Keyword).length + (if ([] : List Keyword).isEmpty then 0 else 1) < 30)) = true := by rfl)
    (hline : (apos.endLine == cpos.line) = true := by rfl) (hs : starEach (e :: es) X.env = (false, eval e X.env) :: starEach es X.env := by rfl) (hplain : (backTo cpos (starEach es X.env)).any (·.1) = false := by rfl) :
    PE X (.Call (.Attribute o name apos) (e :: es) [] cpos) (tBM X.K T r to t) := by
  intro pins s σ H Q I h
  refine wpAny_Call_method_late hbase hfew hline rfl (thn (ho pins s σ H _ I h) fun v s1 ⟨x, H1, I1, r1, ty, q1⟩ => ?_)
  obtain ⟨h1, h2⟩ := tyV_is I1 r1 ty
  refine ⟨T, id, pa, slot, hty, h1, h2, ?_⟩
  have hA := ha cpos pins s1 σ H1 _ I1 q1
  rw [hs] at hA ⊢
  refine Calls.callWith_builtin (by show (false || (backTo cpos (starEach es X.env)).any (·.1)) = false; rw [hplain] <;> rfl) (Calls.evalArgs_plain ?_)
  exact thn hA fun us s2 ⟨vs, H2, I2, r2, q2⟩ => hm pins s2 σ H2 x vs v us Q I2 r1 r2 q2
end
end L2
namespace L2
open PySem PySem.Spec PyProof.Rows
def MtM (X : Cx) (id : String) (r : V → List V → Hp → VK → Prop) : Prop :=
  ∀ (pins : List (Addr × Obj)) (s : Shared) (σ : St) (H : Hp) (x : V) (xs : List V) (v : Value) (us : List Value) (Q : VK), Inv X pins σ H s → RelV x v → Vals xs us → r x xs H Q →
    wpAny (model X.prog X.w) X.A (call (.builtin id) (v :: us)) (EP X pins σ Q) X.xe s
theorem Vals.one : ∀ {x : V} {us : List Value}, Vals [x] us → ∃ u, us = [u] ∧ RelV x u
  | _, _, .cons r .nil => ⟨_, rfl, r⟩
theorem Vals.two : ∀ {x y : V} {us : List Value}, Vals [x, y] us → ∃ u v, us = [u, v] ∧ RelV x u ∧ RelV y v
  | _, _, _, .cons r (.cons q .nil) => ⟨_, _, rfl, r, q⟩
theorem Vals.zero : ∀ {us : List Value}, Vals [] us → us = []
  | _, .nil => rfl
theorem Vals.dropLast {xs : List V} {us : List Value} (h : Vals xs us) : Vals xs.dropLast us.dropLast := by
  induction h with
  | nil => exact .nil
  | cons r t ih =>
    cases t with
    | nil => exact .nil
    | cons q t' => exact .cons r ih
theorem erase_last {α : Type} (l : List α) : l.eraseIdx (l.length - 1) = l.dropLast := by
  induction l with
  | nil => rfl
  | cons a r ih =>
    cases r with
    | nil => rfl
    | cons b r =>
      have e : (a :: b :: r).length - 1 = ((b :: r).length - 1) + 1 := by
        have h1 : (a :: b :: r).length = r.length + 2 := rfl
        have h2 : (b :: r).length = r.length + 1 := rfl
        omega
      rw [e, List.eraseIdx_cons_succ, ih]
      all_goals rfl
section
variable {X : Cx} {pins : List (Addr × Obj)} {σ : St} {H : Hp} {s : Shared} {l b : Addr} {xs ys zs : List V}
theorem Inv.lset {its its' : List Value} {n : Nat} {f : Array Value → Array Value} {t' : Nat} (I : Inv X pins σ H s) (hH : H l = some (.lst xs))
    (e : s.heap.get? l = some { cls := .type "list", data := .seq its.toArray n }) (hf : f its.toArray = its'.toArray) (hv : Vals ys its') (hz : ys.length ≤ sizeLine) :
    Inv X pins σ (upd H l (.lst ys)) { s with heap := s.heap.update l (Obj.mapSeq f), toks := t' } := by
  have q := PySem.IsL.update e f
  rw [hf] at q
  refine I.write (x := l) (e := l) (by rw [hH]; exact trivial) (.inl rfl) (fun b' u hb hu => (Heap.get?_update_other s.heap (Obj.mapSeq f) (Ne.symm hb)).trans hu) ⟨_, q⟩ ?_
  exact ⟨hz, its', _, hv, q⟩
theorem Inv.lnew {its : List Value} {t' : Nat} (I : Inv X pins σ H s) (hv : Vals ys its) (hz : ys.length ≤ sizeLine) :
    Inv X pins σ (upd H s.heap.objs.size (.lst ys)) { s with heap := s.heap.push { cls := .type "list", data := .seq its.toArray }, toks := t' } :=
  I.laid (fun _ _ q => Heap.get?_push_of_some _ q) (Nat.le_refl _) ⟨hz, its, 0, hv, Heap.get?_push_size _ rfl⟩
theorem Inv.fresh (I : Inv X pins σ H s) : H s.heap.objs.size = none := I.hok.fresh (Nat.le_refl _)
theorem Inv.lstM (I : Inv X pins σ H s) (hH : H l = some (.lst xs)) : xs.length ≤ sizeLine ∧ ∃ (its : List Value) (n : Nat), Vals xs its ∧ xs.length = its.length ∧ s.heap.get? l = some { cls := .type "list", data := .seq its.toArray n } := by
  obtain ⟨z, its, n, r, e⟩ := I.hok l _ hH
  exact ⟨z, its, n, r, r.length, e⟩
theorem notLongL {n : Nat} (h : n ≤ sizeLine) : Builtin.List.listTooLong n = false := by
  unfold Builtin.List.listTooLong
  exact decide_eq_false (by omega)
end
section
variable {X : Cx}
def rAppend : V → List V → Hp → VK → Prop := fun x vs H Q => ∃ l xs y, x = .ref l ∧ vs = [y] ∧ H l = some (.lst xs) ∧ xs.length < sizeLine ∧ Q .non (upd H l (.lst (xs ++ [y])))
theorem mt_append : MtM X "list.append" rAppend := by
  intro pins s σ H x vs v us Q I rx rv h
  obtain ⟨l, xs, y, rfl, rfl, hH, hz, q⟩ := h
  cases rx
  obtain ⟨u, rfl, ru⟩ := rv.one
  obtain ⟨z, its, n, r, hl, e⟩ := I.lstM hH
  refine call_meets F.slot_list_append ⟨_, e, rfl⟩ F.entry_list_append (F.args_list_append_2 _ _) (PySem.list_append l its.toArray n u (by rw [List.size_toArray]; omega)) ⟨e, ?_⟩
  refine ⟨.non, _, I.lset (its' := its ++ [u]) hH e (by simp) (r.append (.cons ru .nil)) ?_, rfl, q⟩
  rw [List.length_append, List.length_singleton]
  omega
def rExtend : V → List V → Hp → VK → Prop := fun x vs H Q => ∃ l b xs zs, x = .ref l ∧ vs = [.ref b] ∧ H l = some (.lst xs) ∧ H b = some (.lst zs) ∧ xs.length + zs.length ≤ sizeLine ∧ Q .non (upd H l (.lst (xs ++ zs)))
theorem mt_extend : MtM X "list.extend" rExtend := by
  intro pins s σ H x vs v us Q I rx rv h
  obtain ⟨l, b, xs, zs, rfl, rfl, hH, hB, hz, q⟩ := h
  cases rx
  obtain ⟨u, rfl, ru⟩ := rv.one
  cases ru
  obtain ⟨z, its, n, r, hl, e⟩ := I.lstM hH
  obtain ⟨z2, its2, n2, r2, hl2, e2⟩ := I.lstM hB
  have hsz : its.toArray.size + its2.toArray.size ≤ sizeLine := by rw [List.size_toArray, List.size_toArray]; omega
  have hlong : ¬ (!its.toArray.isEmpty && Builtin.List.listTooLong (its.toArray.size + its2.toArray.size)) = true := by
    rw [notLongL hsz, Bool.and_false]
    exact Bool.false_ne_true
  refine call_meets F.slot_list_extend ⟨_, e, rfl⟩ F.entry_list_extend (F.args_list_extend_2 _ _)
    (AutoSeq1.list_extend_list_list_0 l its.toArray n b its2.toArray n2 hlong (by rw [List.size_toArray]; omega) (by omega)) ⟨e, e2, ?_⟩
  refine ⟨.non, _, I.lset (its' := its ++ its2) hH e (by simp) (r.append r2) ?_, rfl, q⟩
  rw [List.length_append]
  omega
def rPop : V → List V → Hp → VK → Prop := fun x vs H Q => ∃ l xs y, x = .ref l ∧ vs = [] ∧ H l = some (.lst xs) ∧ xs[xs.length - 1]? = some y ∧ Q y (upd H l (.lst xs.dropLast))
theorem mt_pop : MtM X "list.pop" rPop := by
  intro pins s σ H x vs v us Q I rx rv h
  obtain ⟨l, xs, y, rfl, rfl, hH, hy, q⟩ := h
  cases rx
  have hus := rv.zero
  subst hus
  obtain ⟨z, its, n, r, hl, e⟩ := I.lstM hH
  obtain ⟨u, hu, ru⟩ := r.get hy
  have hy' : its.toArray[its.toArray.size - 1]? = some u := by
    show its.toArray[its.length - 1]? = some u
    rw [← Array.getElem?_toList, ← hl]
    exact hu
  refine call_meets F.slot_list_pop ⟨_, e, rfl⟩ F.entry_list_pop (F.args_list_pop_1 _) (MeetsSeq.list_pop_last l its.toArray n u hy' (by rw [List.size_toArray]; omega)) ⟨e, ?_⟩
  refine ⟨y, _, I.lset (its' := its.dropLast) hH e ?_ r.dropLast ?_, ru, q⟩
  · show its.toArray.eraseIdxIfInBounds (its.toArray.size - 1) = its.dropLast.toArray
    rw [List.size_toArray, List.eraseIdxIfInBounds_toArray, erase_last]
  · rw [List.length_dropLast]
    omega
def rCat : R2 := fun x y H Q => ∃ l b xs zs, x = .ref l ∧ y = .ref b ∧ H l = some (.lst xs) ∧ H b = some (.lst zs) ∧ xs.length + zs.length ≤ sizeLine ∧ ∀ p, H p = none → Q (.ref p) (upd H p (.lst (xs ++ zs)))
theorem op_cat : OpR X (binaryOp .Add) rCat := by
  intro pins s σ H x y v u Q I rx ry h
  obtain ⟨l, b, xs, zs, rfl, rfl, hH, hB, hz, q⟩ := h
  cases rx
  cases ry
  obtain ⟨z, its, n, r, hl, e⟩ := I.lstM hH
  obtain ⟨z2, its2, n2, r2, hl2, e2⟩ := I.lstM hB
  refine PySem.P.add_list e e2 ?_ (by rw [List.size_toArray, List.size_toArray]; omega)
  have ea : its.toArray ++ its2.toArray = (its ++ its2).toArray := by simp
  rw [ea]
  exact ⟨.ref _, _, I.lnew (t' := s.toks) (r.append r2) (by rw [List.length_append]; omega), rfl, q _ I.fresh⟩
end
section
variable {prog : Program} {w : World} {A : Around} {E : Value → Shared → Prop} {s : Shared}
end
section
variable {X : Cx}
end
end L2
namespace L2
open PySem PySem.Spec PyProof.Rows
section
variable {κ : Type} [DecidableEq κ]
theorem RelO.isSome_eq {o : Option V} {u : Option Value} (r : RelO o u) : o.isSome = u.isSome := by
  cases o with
  | none => cases u with
    | none => rfl
    | some _ => exact (show False from r).elim
  | some _ => cases u with
    | none => exact (show False from r).elim
    | some _ => rfl
end
theorem kV_is {P : Program} {w : World} {k : Key} {u : Value} (r : RelV (kV k) u) : (mixKind P w).is k u = true := by
  cases k with
  | inl i => obtain ⟨t, e⟩ := (show ∃ t, u = Value.int i t from r); subst e; exact mixKind_int P w i t
  | inr x => obtain ⟨t, e⟩ := (show ∃ t, u = Value.str x t from r); subst e; exact mixKind_str P w x t
theorem items_are {P : Program} {w : World} : ∀ {ks : List Key} {us : List Value}, Vals (ks.map kV) us → ItemsAre (mixKind P w) ks us
  | [], _, r => by rw [List.map_nil] at r; cases r; exact .nil
  | k :: ks, _, r => by
    rw [List.map_cons] at r
    cases r with
    | cons h t => exact .cons (kV_is h) (items_are t)
section
variable {P : Program} {w : World} {H : Hp} {h : Heap} {a : Addr}
theorem key_of {ks : List Key} (ok : HOk P w H h) (e : H a = some (.tup (ks.map kV))) : (tupleKind (mixKind P w)).is h ks a := by
  obtain ⟨_, its, r, o, h1, h2, n, h3⟩ := (show ObjOk P w H h a (.tup (ks.map kV)) from ok a _ e)
  exact ⟨o, its.toArray, n, h1, h2, h3, by simpa using items_are r⟩
end
section
variable {X : Cx} {pins : List (Addr × Obj)} {σ : St} {H : Hp} {s : Shared} {a : Addr} {y v : V} {u r : Value} {o : Option V} {A : Around} {E : Value → Shared → Prop}
theorem Inv.big (I : Inv X pins σ H s) : sysModules < s.heap.objs.size := by
  have h : mainGlobals < s.heap.objs.size := (I.mod.glob.keeps I.bk).lt
  exact Nat.lt_trans (by decide) h
theorem d_write {h' : Heap} {t' : Nat} {ob : HO} (I : Inv X pins σ H s) (mu : Mut (H a)) (hs : Heap.SameBut a s.heap h') (he : ∃ q, h'.get? a = some q) (new : ObjOk X.prog X.w (upd H a ob) h' a ob) :
    Inv X pins σ (upd H a ob) { s with heap := h', toks := t' } :=
  I.write (x := a) (e := a) mu (.inl rfl) (fun b q hb z => (hs.2 b hb).trans z) he new
end
section
variable {X : Cx} {pins : List (Addr × Obj)} {σ : St} {H : Hp} {s : Shared} {a : Addr} {kvs : List (Key × V)} {k : Key} {u : Value} {A : Around} {E : Value → Shared → Prop}
end
def NoSl (i : Expr) : Prop := ∀ ov iv, subscripted i false ov iv = operate [ov, iv] (getItem ov iv)
theorem subD_of {prog : Program} {w : World} {A : Around} {E : Value → Shared → Prop} {s : Shared} {env : Env} {value slice : Expr} {pos : Pos} {T id : String} {Q : Value → Shared → Prop}
    (hl : typeLookup (.type T) "__getitem__" = pure (some (.builtin id))) (hs : NoSl slice)
    (h : wpAny (model prog w) A (eval value env) (fun o s₁ => wpAny (model prog w) A (eval slice env) (fun i s₂ => s₂.TypeIs o T ∧ wpAny (model prog w) A (getItem o i) Q E s₂) E s₁) E s) :
    wpAny (model prog w) A (eval (.Subscript value slice pos) env) Q E s := by
  refine Subscript_ (wpAny_mono h (fun o s₁ h₁ => wpAny_mono h₁ (fun i s₂ h₂ => ?_) fun _ _ x => x) fun _ _ x => x)
  obtain ⟨hT, h₂⟩ := h₂
  unfold subscriptTail
  refine wpAny_bind ?_
  rw [getitemInPython_of_ne hT.not_modules]
  refine wpAny_bind (wpAny_specialOf hT hl ?_)
  have fin : wpAny (model prog w) A (subscripted slice false o i) (fun r s₃ => wpAny (model prog w) A (letTemporaryGo value o r >>= fun _ => pure r) Q E s₃) E s₂ := by
    rw [hs o i]
    exact wpAny_operating (wpAny_mono h₂ (fun r s₃ h₃ => wpAny_bind (wpAny_letTemporaryGo (wpAny_pure h₃))) fun _ _ x => x)
  first
    | exact wpAny_pure (wpAny_bind fin)
    | exact wpAny_bind (wpAny_pure (wpAny_bind fin))
    | exact wpAny_bind fin
section
variable {X : Cx} {o i e value : Expr} {pos pos' tpos : Pos} {td ty tv : TE}
end
section
variable {X : Cx} {pos : Pos}
end
section
variable {X : Cx} {pins : List (Addr × Obj)} {σ : St} {H : Hp} {s : Shared} {a : Addr} {y d : V} {u r : Value} {o : Option V} {A : Around} {E : Value → Shared → Prop}
end
section
variable {X : Cx} {o e f : Expr} {apos cpos : Pos} {td ty tx : TE}
end
section
variable {X : Cx} {pins : List (Addr × Obj)} {σ : St} {H : Hp} {s : Shared} {a : Addr} {kvs : List (Key × V)} {A : Around} {E : Value → Shared → Prop}
end
section
variable {X : Cx} {pins : List (Addr × Obj)} {σ : St} {H : Hp} {s : Shared} {a : Addr} {y : V} {u : Value} {A : Around} {E : Value → Shared → Prop}
end
end L2
namespace Att
open PySem PySem.W PySem.Calls PyProof.Rows
theorem ints_of_wellAll {P : Params} {h : Heap} : ∀ (ns : List Int) (vs : List Value), WellAll P h vs (ns.map WData.int) → IntsAre vs ns := by
  intro ns
  induction ns with
  | nil =>
    intro vs w
    rw [List.map_nil] at w
    cases w
    exact .nil
  | cons n ns ih =>
    intro vs w
    rw [List.map_cons] at w
    cases w with
    | cons a b =>
      cases a
      exact .cons _ _ (ih _ b)
theorem script_of {l : OpenLaw} {n : Nat} (hn : l.most = some n) {P : Params} {h : Heap} {args : List WData} {vals : List Value}
    (hpre : l.row.toRowW.claim.pre args = true) (hwl : WellAll P h vals args) :
    ∃ a vs ns, vals = [Value.ref a] ∧ args = [WData.list (ns.map WData.int)] ∧ h.get? a = some { cls := .type "list", data := .seq vs.toArray } ∧ IntsAre vs ns ∧ ns.length ≤ n := by
  have hsh : WShape.hasAll [] args [.list .int] = true := (pre_splitW hpre).1
  have hc : l.pre.holds [] { args := args } = true := (pre_splitW hpre).2
  obtain ⟨d, r, rfl, h1, h2⟩ := hasAllW_cons hsh
  obtain rfl := hasAllW_nil h2
  obtain ⟨xs, rfl, h3⟩ := hasW_list h1
  obtain ⟨ns, rfl⟩ := items_int h3
  have hlen : ns.length ≤ n := by
    unfold OpenLaw.pre at hc
    have h4 : (WTm.not (.lt (.lit (.int (n : Int))) (.len (.arg 0)))).holds [] { args := [.list (ns.map .int)] } = true := by
      have h4 := (holds_andW hc).1
      rw [hn] at h4
      exact h4
    have h5 := condW_of h4 (w_not (w_lt w_lit (w_len_list (w_arg rfl))))
    rw [List.length_map] at h5
    refine Nat.le_of_not_lt fun q => ?_
    have q' : (n : Int) < ((ns.length : Nat) : Int) := by omega
    first
      | (rw [decide_eq_true q'] at h5; exact absurd h5 (by decide))
      | (simp at h5; omega)
  cases hwl with
  | cons w1 w2 =>
    cases w2
    cases w1 with
    | list ho hall => exact ⟨_, _, ns, rfl, rfl, ho, ints_of_wellAll ns _ hall, hlen⟩
theorem post_true (l : OpenLaw) (args : List WData) : l.row.toRowW.claim.post args (.bool true) args = true :=
  postW_of (r := l.row.toRowW) (X := (true == true))
    (show WShape.has [] (.bool true) .bool = true by first | rfl | decide | simp [WShape.has, WShape.arms, WShape.armsAll])
    (show (WTm.eq .res (.lit (.bool true))).value [] { args := args, res := some (.bool true), after := args } = some (.bool (true == true)) from w_eq_bool (w_res rfl) w_lit) rfl
theorem attach_call {l : OpenLaw} {n : Nat} {q : Program} {loose : List Str} {XP : (Str → Option Value) → Heap → Prop} {YP : World → Heap → Prop} {d : DefRec}
    (hn : l.most = some n) (hdf : d.params.defaults = [])
    (call : ∀ (w : World) (s₀ s₁ : Shared) (mg mb : Str → Option Value) (fa : Addr) (o : Obj) (pm cd doc : Value) (a : Addr) (vs : List Value) (ns : List Int),
      Ground q loose [] XP w s₀ mg mb s₁.heap → YP w s₁.heap →
      s₁.heap.get? fa = some o → o.data = .func (docDef d.name d.params d.body d.scope pm cd doc) → s₁.heap.CodeRec cd d.name → mg d.name = some (.ref fa) →
      s₁.heap.get? a = some { cls := .type "list", data := .seq vs.toArray } → IntsAre vs ns → ns.length ≤ n → s₁.gens = #[] →
      codeAny (model l.prog w) callerA (.call (.ref fa) ⟨[.ref a], []⟩) (fun r s' => r = .ok (.ret (.bool true)) ∧ OldK s₁.heap s'.heap ∧ s'.os = s₁.os ∧ AllBare s'.gens) s₁) :
    WalkO q loose XP YP l.row.toRowW d [] (fun f vs => PySem.call f vs) := by
  intro w s₀ s₁ mg mb G Y fa o pm cd doc dV kV ho hd hcd hD hmg hg args vals as hpre hlay hrd hwl hlo
  obtain rfl : dV = .none := Dflts.none hD hdf
  obtain rfl : kV = .none := Dflts.noKw hD
  obtain ⟨a, vs, ns, rfl, rfl, hobj, hints, hlen⟩ := script_of hn hpre hwl
  refine enter_call (codeAny_mono (call w s₀ s₁ mg mb fa o pm cd doc a vs ns G Y ho (fd_plain hd) hcd hmg hobj hints hlen hg) fun r s' hq => ?_)
  obtain ⟨rfl, h2, h3, h4⟩ := hq
  exact ⟨.inl ⟨.bool true, .bool true, [], rfl, fun _ => rfl, .bool true, post_true l _, fun _ => ⟨List.Pairwise.nil, fun _ hm => (nomatch hm)⟩⟩, h2, h3, h4⟩
section
variable {prog : Program} {w : World} {A : Around} {E : Value → Shared → Prop} {s : Shared} {K : Frag}
end
end Att
namespace L2
open PySem PySem.Spec PyProof.Rows
theorem vals_ints : ∀ {vs : List Value} {ns : List Int}, IntsAre vs ns → Vals (ns.map V.int) vs
  | _, _, .nil => .nil
  | _, _, .cons n t h => .cons ⟨t, rfl⟩ (vals_ints h)
end L2
namespace L2
open PySem PySem.Spec PyProof.Rows
end L2
namespace L2
open PySem PySem.Spec PyProof.Rows
def defArgs (s : Stmt) : Arguments := match s with
  | .FunctionDef _ a _ _ _ _ _ _ _ _ => a
  | _ => { posonlyargs := [], args := [], vararg := none, kwonlyargs := [], kw_defaults := [], kwarg := none, defaults := [] }
def defBody (s : Stmt) : List Stmt := match s with
  | .FunctionDef _ _ b _ _ _ _ _ _ _ => b
  | _ => []
def defScope (s : Stmt) : Scope := match s with
  | .FunctionDef _ _ _ _ _ _ sc _ _ _ => sc
  | _ => { kind := .function, names := [], isGenerator := false, isCoroutine := false }
abbrev CX0 : CXT := fun _ _ _ _ _ _ => False
abbrev E0 : XK := fun _ _ _ => False
theorem pass0 {X : Cx} : Passes CX0 X E0 := fun _ _ _ _ _ _ _ h => h.elim
structure Fun (K : PySem.W.Frag) (x qual : Str) (st : Stmt) (f : Addr) (fd : FuncData) : Prop where
  ex : ∃ (oc : Value) (od : Option Addr) (kV doc pm : Value) (an : Option Addr) (cdv ct : Value) (osl : Array (Option Value)),
    fd = PySem.W.fnOf x qual (defArgs st) (defBody st) (defScope st) .none kV doc pm an cdv ct ∧ K.lookup f = some ⟨oc, od, .func fd, osl⟩ ∧ PySem.W.codeIn K cdv qual = true
  kp : PySem.W.keepIn K (.ref f) = true
section
variable {P : Program} {w : World} {K : PySem.W.Frag} {mg : Str → Option Value} {base : Heap}
theorem Fun.ok {x qual : Str} {st : Stmt} {f : Addr} {fd : FuncData} {N ps : List Str} {k : Nat} {sp : Sp} (F : Fun K x qual st f fd) (S : FnScope N ps (defScope st)) (len : ∀ vs H Q E, sp vs H Q E → vs.length = ps.length)
    (hbody : ∀ (cdv : Value) (A : Around) (outer : List Env) (s : Shared) (H : Hp) (vs : List V) (Q : VK) (E : XK), Room k (A.deeper (envOfC qual (defScope st) s.heap.objs.size f cdv)) → sp vs H Q E →
      ∃ t, PSs (cxOf CX0 P w K mg base N qual (defScope st) f cdv A outer s H E).nox (defBody st) t ∧ t { nx := fun _ H' => Q .non H', rt := Q } (start N vs) H) : FnOk P w K mg base CX0 (k + 1) f fd ps sp := by
  obtain ⟨oc, od, kV, doc, pm, an, cdv, ct, osl, rfl, lk, hcd⟩ := F.ex
  refine fn_of lk hcd S len fun A outer s H vs Q E hr hsp => ?_
  obtain ⟨t, h, q⟩ := hbody cdv A outer s H vs Q E hr hsp
  exact ⟨t, h.nox, q⟩
theorem Fun.binds {x qual : Str} {st : Stmt} {f : Addr} {fd : FuncData} {ps : List Str} (F : Fun K x qual st f fd)
    (h : ∀ (kV doc pm : Value) (an : Option Addr) (cdv ct : Value) (us : List Value), us.length = ps.length → bindArgs (PySem.W.fnOf x qual (defArgs st) (defBody st) (defScope st) .none kV doc pm an cdv ct) ⟨us, []⟩ = pure (ps.zip us)) : Binds K fd ps [] := by
  obtain ⟨oc, od, kV, doc, pm, an, cdv, ct, osl, rfl, lk, hcd⟩ := F.ex
  exact .all (h kV doc pm an cdv ct)
theorem fun_mk {x qual : Str} {st : Stmt} {f : Addr} {oc : Value} {od an : Option Addr} {osl : Array (Option Value)} {kV doc pm cdv ct : Value} (l : K.lookup f = some ⟨oc, od, .func (PySem.W.fnOf x qual (defArgs st) (defBody st) (defScope st) .none kV doc pm an cdv ct), osl⟩)
    (c : PySem.W.codeIn K cdv qual = true) (k : PySem.W.keepIn K (.ref f) = true) : Fun K x qual st f (PySem.W.fnOf x qual (defArgs st) (defBody st) (defScope st) .none kV doc pm an cdv ct) := ⟨⟨oc, od, kV, doc, pm, an, cdv, ct, osl, rfl, l, c⟩, k⟩
end
theorem hu_of {A : Around} {k : Nat} (hr : Room k A) : A.units + 1 < cLine := Nat.lt_of_le_of_lt (Nat.add_le_add_left (by decide : 1 ≤ 64) _) hr.units
theorem small1000 {n : Nat} (h : n ≤ 1000) : n < sizeLine := Nat.lt_of_le_of_lt h (by decide)
section
variable {X : Cx}
theorem pv (i : Nat) {x : Str} {pos : Pos} (hN : X.N[i]? = some x := by rfl) (hv : Vis X.env.scope x := by first | exact Or.inl rfl | exact Or.inr (Or.inl rfl) | exact Or.inr (Or.inr rfl)) (hd : (x == ("__debug__" : Str)) = false := by decide)
    (hcd : (x == ("__classdict__" : Str)) = false := by decide) : PE X (.Name x pos) (tVar i) := pe_var hN hv hd hcd
end
theorem iteT {A B : Prop} (h : A) : if true = true then A else B := by
  rw [if_pos rfl]
  exact h
theorem ite2 {c A B : Prop} [Decidable c] (h1 : c → A) (h2 : ¬ c → B) : if c then A else B := by
  by_cases h : c
  · rw [if_pos h]
    exact h1 h
  · rw [if_neg h]
    exact h2 h
def Same (H H' : Hp) : Prop := ∀ b o, H b = some o → H' b = some o
theorem Same.refl (H : Hp) : Same H H := fun _ _ h => h
theorem Same.trans {H H1 H2 : Hp} (a : Same H H1) (b : Same H1 H2) : Same H H2 := fun c o h => b c o (a c o h)
theorem Same.free {H H' : Hp} (e : Same H H') {l : Addr} (h : H' l = Option.none) : H l = Option.none := by
  cases q : H l with
  | none => rfl
  | some o =>
    rw [e l o q] at h
    cases h
section
variable {κ : Type} [DecidableEq κ]
end
end L2
namespace L2
open PySem PySem.Spec PyProof.Rows
section
variable {prog : Program} {w : World} {A : Around} {R : Result → Shared → Prop} {s : Shared}
theorem comp_loop {elt tg iter : Expr} {ifs : List Expr} {sc : Scope} {pos : Pos} {it acc : Value} {ce : Env} (J : Nat → Shared → Prop)
    (turn : ∀ n s, J n s → wpAny (model prog w) A (pyNext it) (fun r s1 => match r with
      | none => R (.ok .next) s1
      | some v => wpAny (model prog w) A (letOwnedTupleGo tg it v) (fun _ s2 => wpAny (model prog w) A (assign tg ce v) (fun _ s3 =>
          wpAny (model prog w) A (forIn ifs true fun c r => if r = true then do let ok ← isTrue c ce (eval c ce); pure (ForInStep.yield ok) else pure (ForInStep.yield r)) (fun ok s4 =>
            if ok = true then
              wpAny (model prog w) A (eval elt ce) (fun x s5 => wpAny (model prog w) A (call (.builtin "list.append") [acc, x]) (fun _ s6 => ∃ m, m < n ∧ J m s6) (fun _ _ => False) s5) (fun _ _ => False) s4
            else ∃ m, m < n ∧ J m s4) (fun _ _ => False) s3) (fun _ _ => False) s2) (fun _ _ => False) s1) (fun _ _ => False) s)
    (n : Nat) (h : J n s) : codeAny (model prog w) A (.compLoop (.ListComp elt [⟨tg, iter, ifs, 0⟩] sc pos) 0 it acc ce) R s := by
  refine codeAny_loop rfl J (fun n s hJ => ?_) n h
  show wpAny _ A ((compTurn (.ListComp elt [⟨tg, iter, ifs, 0⟩] sc pos) 0 it acc ce).onRaise (fun x => do noteFrame x ce; theTreesLotGoes x)) _ _ s
  refine wpAny_noted ?_
  rw [compTurn_list]
  refine wpAny_bind (wpAny_standAt (wpAny_bind (wpAny_mono (turn n s hJ) (fun r s1 h1 => ?_) fun _ _ f => f.elim)))
  cases r with
  | none => exact wpAny_pure h1
  | some v =>
    refine wpAny_bind (wpAny_mono h1 (fun _ s2 h2 => ?_) fun _ _ f => f.elim)
    refine wpAny_bind (wpAny_mono h2 (fun _ s3 h3 => ?_) fun _ _ f => f.elim)
    refine wpAny_bind (wpAny_mono h3 (fun ok s4 h4 => ?_) fun _ _ f => f.elim)
    cases ok with
    | false => exact wpAny_pure ⟨rfl, h4⟩
    | true =>
      refine wpAny_bind (wpAny_bind (wpAny_mono h4 (fun x s5 h5 => ?_) fun _ _ f => f.elim))
      exact wpAny_bind (wpAny_mono h5 (fun _ s6 h6 => wpAny_pure (wpAny_pure ⟨rfl, h6⟩)) fun _ _ f => f.elim)
end
def compCx (X : Cx) (N : List Str) (sc : Scope) (cl : List (Str × Addr)) (s : Shared) (H : Hp) (fp : List Addr) : Cx where
  prog := X.prog
  w := X.w
  K := X.K
  mg := X.mg
  base := X.base
  A := X.A
  N := N
  s₀ := s
  H₀ := H
  env := compEnvC sc cl (s.heap.objs.size + 1) X.env
  outer := X.stack
  stack := X.stack
  ex := fp
  fn := fun _ => false
  calm := X.calm
  pn := []
  xe := fun _ _ => False
def compSt (own : List Str) (fr : List (Str × Nat)) (σ : St) : St := own.map (fun _ => none) ++ fr.map fun p => (σ[p.2]?).join
def KeepS (σ σ' : St) : Prop := σ.length = σ'.length ∧ ∀ (i : Nat) v, σ[i]? = some (some v) → σ'[i]? = some (some v)
def Fresh (g : TG) (σ : St) : Prop := ∀ x H (Q : St → Hp → Prop), g x σ H Q → g x σ H fun σ' H' => KeepS σ σ' ∧ Q σ' H'
theorem KeepS.set {σ : St} {i : Nat} (h : σ[i]? = some none) (v : V) : KeepS σ (σ.set i (some v)) := by
  refine ⟨by simp, fun j u e => ?_⟩
  by_cases hj : i = j
  · subst hj; rw [h] at e; cases e
  · rw [List.getElem?_set_ne hj]; exact e
theorem fresh_name {σ : St} {i : Nat} (h : σ[i]? = some none) : Fresh (gName i) σ := fun x H Q q => ⟨KeepS.set h x, q⟩
def PTs (X : Cx) (ifs : List Expr) (t : TT) : Prop :=
  ∀ (pins : List (Addr × Obj)) (s : Shared) (σ : St) (H : Hp) (Q : Bool → Hp → Prop), Inv X pins σ H s → t σ H Q →
    wpAny (model X.prog X.w) X.A (forIn ifs true fun c r => if r = true then do let ok ← isTrue c X.env (eval c X.env); pure (ForInStep.yield ok) else pure (ForInStep.yield r)) (TP X pins σ Q) X.xe s
theorem pts_nil {X : Cx} : PTs X [] (fun _ H Q => Q true H) := fun _ _ _ H _ I h => wpAny_tests_nil ⟨H, I, h⟩
theorem pts_one {X : Cx} {c : Expr} {t : TT} (h : PT X c t) : PTs X [c] t := fun pins s σ H Q I q => wpAny_tests_one (h pins s σ H Q I q)
def LCb (own : List Str) (fr : List (Str × Nat)) (g : TG) (tt : TT) (te : TE) (σ : St) (Q : VK) (J : It) (H1 : Hp) : Prop := ∃ W : Nat → Nat → List V → Hp → Prop, (∃ m, W 0 m [] H1) ∧ ∀ i m ys H, W i m ys H →
  (J.stop i H ∧ ∀ p, H p = none → Q (.ref p) (upd H p (.lst ys))) ∨ (J.go i H ∧ ys.length < sizeLine ∧ ∀ x H', J.yld i H x H' → g x (compSt own fr σ) H' fun σ2 H2 => tt σ2 H2 fun b H3 =>
    if b = true then te σ2 H3 fun y H4 => ∃ m', m' < m ∧ W (i + 1) m' (ys ++ [y]) H4 else ∃ m', m' < m ∧ W (i + 1) m' ys H3)
def tLC (own : List Str) (fr : List (Str × Nat)) (wi : TI) (g : TG) (tt : TT) (te : TE) : TE := fun σ H Q => wi σ H fun J H1 => LCb own fr g tt te σ Q J H1
abbrev accObj (us : List Value) : Obj := { cls := .type "list", data := .seq us.toArray us.length }
theorem acc_snoc (us : List Value) (u : Value) : ({ cls := .type "list", data := .seq (us.toArray.push u) (us.length + 1) } : Obj) = accObj (us ++ [u]) := by
  unfold accObj
  rw [List.length_append, List.length_singleton, List.push_toArray]
structure Caps (X : Cx) (sc : Scope) (cl : List (Str × Addr)) (fr : List (Str × Nat)) : Prop where
  clos : closureFor sc X.env = pure cl
  sub : ∀ x c, cl.lookup x = some c → X.env.cells.lookup x = some c
  has : ∀ x, ((relabel sc X.env).names.lookup x = some .cell ∨ (relabel sc X.env).names.lookup x = some .free) → ∃ c, cl.lookup x = some c
  cap : ∀ p ∈ fr, X.N[p.2]? = some p.1 ∧ X.env.kindOf p.1 ≠ some .local ∧ Vis X.env.scope p.1 ∧ ((relabel sc X.env).names.lookup p.1 = some .cell ∨ (relabel sc X.env).names.lookup p.1 = some .free)
structure CompSc (sc : Scope) : Prop where
  kind : sc.kind = .function
  cell : ∀ y ∈ sc.names, y.2 ≠ .cell
  nms : ∀ y ∈ sc.names, y.2 = .local → sc.names.lookup y.1 = some .local
section
variable {X : Cx}
theorem Inv.stkNot {pins : List (Addr × Obj)} {σ : St} {H : Hp} {s : Shared} (I : Inv X pins σ H s) {b : Addr} (h1 : b ≠ X.env.locals) (h2 : b ∉ X.fs) : b ∉ frs X.stack := fun z => by
  rcases List.mem_cons.mp (I.stkSub b z) with e | e
  · exact h1 e
  · exact h2 e
theorem compSt_get {own : List Str} {fr : List (Str × Nat)} {σ : St} {N : List Str} (hN : N = own ++ fr.map (·.1)) {i : Nat} {x : Str} {v : V} (h1 : N[i]? = some x) (h2 : (compSt own fr σ)[i]? = some (some v)) :
    ∃ p ∈ fr, p.1 = x ∧ σ[p.2]? = some (some v) := by
  unfold compSt at h2
  subst hN
  by_cases hi : i < own.length
  · rw [List.getElem?_append_left (by simpa using hi), List.getElem?_map] at h2
    rw [List.getElem?_eq_getElem hi] at h2
    cases h2
  · rw [List.getElem?_append_right (by simpa using hi), List.length_map, List.getElem?_map] at h2
    rw [List.getElem?_append_right (by simpa using hi), List.getElem?_map] at h1
    cases e : fr[i - own.length]? with
    | none => rw [e] at h1; cases h1
    | some p =>
      rw [e] at h1 h2
      refine ⟨p, List.mem_of_getElem? e, Option.some.inj h1, ?_⟩
      have h2' : (σ[p.2]?).join = some v := Option.some.inj h2
      cases e3 : σ[p.2]? with
      | none => rw [e3] at h2'; cases h2'
      | some o => rw [e3] at h2'; rw [show o = some v from h2']
theorem Inv.block {pins : List (Addr × Obj)} {σ : St} {H : Hp} {s : Shared} {own : List Str} {fr : List (Str × Nat)} {sc : Scope} {cl : List (Str × Addr)} {fp : List Addr} {h1 : Heap} {m : Str → Option Value} {tk : Nat}
    (I : Inv X pins σ H s) (hf : ∀ b ∈ fp, FpOk X pins H b) (hfl : ∀ b ∈ fp, b < s.heap.objs.size) (S : CompSc sc) (C : Caps X sc cl fr)
    (old : ∀ b o, s.heap.get? b = some o → h1.get? b = some o) (hn : h1.Ns (s.heap.objs.size + 1) m) (hD : h1.get? s.heap.objs.size = some (accObj [])) :
    Inv (compCx X (own ++ fr.map (·.1)) sc cl s H fp) [(s.heap.objs.size, accObj [])] (compSt own fr σ) H { s with heap := h1, toks := tk } := by
  have cellLt : ∀ x c, cl.lookup x = some c → c < s.heap.objs.size := fun x c e => by
    obtain ⟨v, z⟩ := I.cell x c (C.sub x c e)
    exact z.lt
  have sizeC : s.heap.objs.size ≤ s.heap.objs.size + 1 := Nat.le_succ _
  refine ⟨⟨I.ok.mod, S.kind, I.ok.glob, I.ok.blt, sizeC, fun x y c e1 e2 => I.ok.inj x y c (C.sub x c e1) (C.sub y c e2), fun x hx => C.has x hx, fun _ _ z => (by cases z), I.ok.hd, I.ok.frames, .inl rfl, fun b hb => ⟨?_, fun x c e z => ?_⟩,
    I.bs, Nat.le_trans I.ok.bsz I.sz, fun b o e hb => ?_, fun b hb z => ?_, I.stack, I.stkFree⟩, rfl, I.bare, Un.kept old, ⟨m, hn, fun i x v e1 e2 e3 => ?_⟩, fun x c e => ?_, I.hok.fresh sizeC, fun x c e => I.freeC x c (C.sub x c e), fun p hp => ?_, I.hok.kept old, ?_⟩
  · exact Nat.ne_of_lt (Nat.lt_succ_of_lt (hfl b hb))
  · exact (hf b hb).2.2.2.2.1 x c (C.sub x c e) z
  · rcases (hf b hb).2.2.2.1 with z | z
    · exact I.ok.noex b o e z
    · exact absurd (Nat.lt_of_lt_of_le (Heap.lt_size e) (Nat.le_trans I.ok.bsz z)) (Nat.lt_irrefl _)
  · exact I.stkNot (hf b hb).2.1 (hf b hb).2.2.1 z
  · obtain ⟨p, hp, rfl, e4⟩ := compSt_get rfl e1 e2
    obtain ⟨c1, c2, c3, c4⟩ := C.cap p hp
    obtain ⟨m0, hn0, hl⟩ := I.loc
    obtain ⟨u, r, l⟩ := hl p.2 p.1 v c1 e4 c3
    refine ⟨u, r, .inr ⟨c4, ?_⟩⟩
    rcases l with ⟨k, _⟩ | ⟨_, c, hc, ho, hoe, hod⟩
    · exact absurd k c2
    · obtain ⟨c', hc'⟩ := C.has p.1 c4
      have := C.sub p.1 c' hc'
      rw [hc] at this
      cases this
      exact ⟨c, hc', ho, old _ _ hoe, hod⟩
  · obtain ⟨v, o, ho, hd⟩ := I.cell x c (C.sub x c e)
    exact ⟨v, o, old _ _ ho, hd⟩
  · have hp' : p = (s.heap.objs.size, accObj []) := by simpa [compCx] using hp
    subst hp'
    refine ⟨hD, I.hok.fresh (Nat.le_refl _), ?_, ?_, fun v z => by cases z⟩
    · exact Nat.ne_of_lt (Nat.lt_succ_self _)
    · exact I.stkNot (Nat.ne_of_gt I.lt) (I.nofs (Nat.le_refl _))
  · show (compSt own fr σ).length = (own ++ fr.map (·.1)).length
    unfold compSt
    rw [List.length_append, List.length_append, List.length_map, List.length_map, List.length_map]
theorem HOk.track {P : Program} {w : World} {H : Hp} {h : Heap} {a : Addr} {o : HO} (x : HOk P w H h) (hn : H a = none) (new : ObjOk P w (upd H a o) h a o) : HOk P w (upd H a o) h := fun b u e => by
  by_cases hb : b = a
  · subst hb; rw [upd_same] at e; cases e; exact new
  · rw [upd_ne hb] at e
    exact (x b u e).stay (fun c v _ q => q) (fun c q => by rw [upd_ne (ne_of_none q hn)]; exact q) fun c xs q => by rw [upd_ne (ne_of_none q hn)]; exact q
theorem Inv.unblock {pins : List (Addr × Obj)} {σ : St} {H H3 : Hp} {s s4 : Shared} {N : List Str} {σ3 : St} {sc : Scope} {cl : List (Str × Addr)} {fp : List Addr} {h' : Heap} {ys : List V} {us : List Value}
    (I : Inv X pins σ H s) (hf : ∀ b ∈ fp, FpOk X pins H b) (I4 : Inv (compCx X N sc cl s H fp) [(s.heap.objs.size, accObj us)] σ3 H3 s4) (hv : Vals ys us) (hz : ys.length ≤ sizeLine)
    (hs : Heap.SameBut (s.heap.objs.size + 1) s4.heap h') : Inv X pins σ (upd H3 s.heap.objs.size (.lst ys)) { s4 with heap := h' } := by
  obtain ⟨eD, nD, neD, _, _⟩ := I4.pin (s.heap.objs.size, accObj us) (List.mem_append_right _ (by simp))
  have eD : s4.heap.get? s.heap.objs.size = some (accObj us) := eD
  have nD : H3 s.heap.objs.size = none := nD
  have b4 : Un (frs X.stack) fp H H3 s.heap s4.heap := I4.base
  have nC : H3 (s.heap.objs.size + 1) = none := I4.free
  have neC : ∀ b o, s.heap.get? b = some o → b ≠ s.heap.objs.size + 1 := fun b o e => Nat.ne_of_lt (Nat.lt_succ_of_lt (Heap.lt_size e))
  have neD' : ∀ b o, s.heap.get? b = some o → b ≠ s.heap.objs.size := fun b o e => Nat.ne_of_lt (Heap.lt_size e)
  have k4 : ∀ b o, b ≠ s.heap.objs.size + 1 → s4.heap.get? b = some o → h'.get? b = some o := fun b o hb e => hs.extBut b o hb e
  refine I.call' (s' := { s4 with heap := h' }) (ch := fp) I4.os ⟨fun b o e n h1 h2 => k4 b o (neC b o e) (b4.keep b o e n h1 h2), fun b o e n h1 h2 => ?_, fun b o e n h2 => ?_, fun b o e h2 => ?_,
    fun b xs e => ?_, fun b o u e => ?_, fun b ps e => ?_⟩ ?_ I4.bare fun b hb => ⟨(hf b hb).2.2.2.1, (hf b hb).2.1, (hf b hb).2.2.2.2.1, (hf b hb).2.2.2.2.2⟩
  · obtain ⟨sl, q⟩ := b4.slot b o e n h1 h2
    exact ⟨sl, k4 b _ (neC b o e) q⟩
  · rw [upd_ne (neD' b o e)]; exact b4.free b o e n h2
  · obtain ⟨o', q⟩ := b4.there b o e h2
    exact ⟨o', k4 b _ (neC b o e) q⟩
  · have q := b4.tups b xs e
    rw [upd_ne (ne_of_none q nD)]; exact q
  · have q := b4.frzs b o u e
    rw [upd_ne (ne_of_none q nD)]; exact q
  · obtain ⟨more, q⟩ := b4.tbls b ps e
    exact ⟨more, by rw [upd_ne (ne_of_none q nD)]; exact q⟩
  · have hk : HOk X.prog X.w H3 h' := fun b u e => (I4.hok b u e).stay (fun c v hc q => k4 c v (fun z => by
      subst z
      rcases hc with hc | hc
      · subst hc; rw [nC] at e; cases e
      · rw [nC] at hc; cases hc) q) (fun _ q => q) fun _ _ q => q
    refine hk.track nD ⟨hz, us, us.length, hv, k4 _ _ (Nat.ne_of_lt (Nat.lt_succ_self _)) eD⟩
theorem comp_core {elt tg iter : Expr} {ifs : List Expr} {sc : Scope} {pos : Pos} {own : List Str} {fr : List (Str × Nat)} {cl : List (Str × Addr)} {g : TG} {tt : TT} {te : TE} {RR : Value → Addr → Result → Shared → Prop} {E : Value → Shared → Prop}
    {pins : List (Addr × Obj)} {σ : St} {H2 : Hp} {s2 : Shared} {Q : VK} {it : Addr} {fp : List Addr} {tn : Nat → Heap → Prop} {J : It} (hc : X.calm = true) (S : CompSc sc) (C : Caps X sc cl fr)
    (hg : ∀ s H fp, PG (compCx X (own ++ fr.map (·.1)) sc cl s H fp) tg g) (hfr : ∀ σ, Fresh g (compSt own fr σ)) (ht : ∀ s H fp, PTs (compCx X (own ++ fr.map (·.1)) sc cl s H fp) ifs tt)
    (he : ∀ s H fp, PE (compCx X (own ++ fr.map (·.1)) sc cl s H fp) elt te) (I2 : Inv X pins σ H2 s2) (T : Turn X.prog X.w X.K tg J fp it tn) (st2 : tn 0 s2.heap) (f2 : ∀ b ∈ fp, FpOk X pins H2 b) (hW : LCb own fr g tt te σ Q J H2)
    (hRR : ∀ s5 H4 ys us, Inv (compCx X (own ++ fr.map (·.1)) sc cl s2 H2 fp) [(s2.heap.objs.size, accObj us)] (compSt own fr σ) H4 s5 → Vals ys us → ys.length ≤ sizeLine → (∀ p, H4 p = none → Q (.ref p) (upd H4 p (.lst ys))) →
      RR (.ref s2.heap.objs.size) (s2.heap.objs.size + 1) (.ok .next) s5) :
    wpAny (model X.prog X.w) X.A (newList []) (fun acc s3 => wpAny (model X.prog X.w) X.A (newFunctionEnv sc X.env.globals cl [] X.env.qual none .none (some X.env)) (fun ce s4 =>
      codeAny (model X.prog X.w) X.A (.compStart (.ListComp elt [⟨tg, iter, ifs, 0⟩] sc pos) 0 (.ref it) acc { ce with scope := relabel sc X.env }) (RR acc ce.locals) s4) E s3) E s2 := by
  obtain ⟨W, ⟨m0, w0⟩, turn⟩ := hW
  have fpl : ∀ b ∈ fp, b < s2.heap.objs.size := fun b hb => by
    obtain ⟨o, e, _⟩ := T.obj _ _ st2 b hb
    exact Heap.lt_size e
  refine wpAny_newObj_type (wpAny_newFunctionEnv S.cell (by intro y hy; simp at hy) (fun h₁ hns₁ hsb₁ => ?_) S.kind)
  dsimp only at hns₁ hsb₁ ⊢
  generalize hH2 : s2.heap.push { cls := .type "list", dict := none, data := .seq ([] : List Value).toArray } = G at hns₁ hsb₁ ⊢
  have hC : G.objs.size = s2.heap.objs.size + 1 := by rw [← hH2, Heap.size_push]
  rw [hC] at hns₁ hsb₁ ⊢
  have old : ∀ b o, s2.heap.get? b = some o → h₁.get? b = some o := fun b o e => by
    exact hsb₁.extBut b o (Nat.ne_of_lt (Nat.lt_succ_of_lt (Heap.lt_size e))) (Heap.get?_push_of_some _ (hH2 ▸ Heap.get?_push_of_some _ e))
  have hacc : h₁.get? s2.heap.objs.size = some (accObj []) := hsb₁.extBut _ _ (Nat.ne_of_lt (Nat.lt_succ_self _)) (Heap.get?_push_of_some _ (hH2 ▸ Heap.get?_push_size _ rfl))
  have I3 := I2.block (own := own) (tk := s2.toks + ([] : List (Str × Value)).length) f2 fpl S C old hns₁ hacc
  have stat : ∀ {H' : Hp} {us : List Value}, (∀ b ∈ fp, H' b = none) → ∀ b ∈ fp, FpOk (compCx X (own ++ fr.map (·.1)) sc cl s2 H2 fp) [(s2.heap.objs.size, accObj us)] H' b := fun {H' us} hn b hb => by
    obtain ⟨_, g1, g2, g3, g4, g5⟩ := f2 b hb
    have hbl := fpl b hb
    refine ⟨hn b hb, ?_, I2.stkNot g1 g2, .inl hb, fun x c e => g4 x c (C.sub x c e), fun p hp => ?_⟩
    · exact Nat.ne_of_lt (Nat.lt_succ_of_lt hbl)
    · have hp' : p = (s2.heap.objs.size, accObj us) := by simpa [compCx] using hp
      subst hp'
      exact Nat.ne_of_gt hbl
  have loop : ∀ s3 : Shared, s3 = { s2 with heap := h₁, toks := s2.toks + ([] : List (Str × Value)).length } →
      codeAny (model X.prog X.w) X.A (.compLoop (.ListComp elt [⟨tg, iter, ifs, 0⟩] sc pos) 0 (.ref it) (.ref s2.heap.objs.size) (compEnvC sc cl (s2.heap.objs.size + 1) X.env))
        (RR (.ref s2.heap.objs.size) (s2.heap.objs.size + 1)) s3 := by
    rintro s3 rfl
    refine comp_loop (fun n s' => ∃ i ys us H', Vals ys us ∧ Inv (compCx X (own ++ fr.map (·.1)) sc cl s2 H2 fp) [(s2.heap.objs.size, accObj us)] (compSt own fr σ) H' s' ∧ tn i s'.heap ∧ (∀ b ∈ fp, H' b = none) ∧ ys.length ≤ sizeLine ∧ W i n ys H') ?_ m0
      ⟨0, [], [], H2, .nil, I3, T.keep _ _ _ st2 fun b _ o e => old b o e, fun b hb => (f2 b hb).1, Nat.zero_le _, w0⟩
    rintro n s4 ⟨i, ys, us, H4, hv, I4, st4, fr4, hz, w4⟩
    rcases turn i n ys H4 w4 with ⟨stop, fin⟩ | ⟨go, hlt, step⟩
    · refine thn (T.done (compCx X (own ++ fr.map (·.1)) sc cl s2 H2 fp) rfl rfl rfl hc i _ s4 _ H4 _ I4 (stat fr4) st4 stop) fun r s5 ⟨hr, I5⟩ => ?_
      subst hr
      exact hRR s5 H4 ys us I5 hv hz fin
    · refine thn (T.item (compCx X (own ++ fr.map (·.1)) sc cl s2 H2 fp) rfl rfl rfl hc i _ s4 _ H4 _ I4 (stat fr4) st4 go) fun r s5 ⟨u, hr, h5⟩ => ?_
      subst hr
      refine thn h5 fun _ s6 ⟨x, H6, I6, r6, y6, st6, fr6⟩ => ?_
      have I6' := I6.pinned (stat fr6) (T.obj _ _ st6)
      refine thn (hg s2 H2 fp _ s6 _ H6 x u _ I6' r6 (hfr σ x H6 _ (step x H6 y6))) fun _ s7 ⟨σ7, H7, I7, k7, q7⟩ => ?_
      refine thn (ht s2 H2 fp _ s7 σ7 H7 _ I7 q7) fun ok s8 ⟨H8, I8, q8⟩ => ?_
      have fps : ∀ {pins' : List (Addr × Obj)} {σ' : St} {H' : Hp} {s' : Shared}, Inv (compCx X (own ++ fr.map (·.1)) sc cl s2 H2 fp) ([(s2.heap.objs.size, accObj us)] ++ pinsAt fp s6.heap) σ' H' s' → ∀ b ∈ fp, (∀ o, s6.heap.get? b = some o → s'.heap.get? b = some o) ∧ H' b = none := fun {pins' σ' H' s'} I' b hb => by
        obtain ⟨o, e, _⟩ := T.obj _ _ st6 b hb
        have z := I'.pin (b, o) (List.mem_append_right _ (List.mem_append_right _ (mem_pinsAt hb e)))
        exact ⟨fun o' e' => by rw [e] at e'; cases e'; exact z.1, z.2.1⟩
      cases ok with
      | false =>
        rw [if_neg Bool.false_ne_true] at q8
        obtain ⟨m', hm, w8⟩ := q8
        rw [if_neg Bool.false_ne_true]
        exact ⟨m', hm, i + 1, ys, us, H8, hv, (I8.unpinned).weak k7.1 k7.2, T.keep _ _ _ st6 fun b hb o e => (fps (pins' := []) I8 b hb).1 o e, fun b hb => (fps (pins' := []) I8 b hb).2, hz, w8⟩
      | true =>
        rw [if_pos rfl] at q8
        rw [if_pos rfl]
        refine thn (he s2 H2 fp _ s8 σ7 H8 _ I8 q8) fun y s9 ⟨v, H9, I9, r9, m', hm, w9⟩ => ?_
        have pD := I9.pin (s2.heap.objs.size, accObj us) (List.mem_append_right _ (List.mem_append_left _ (by simp)))
        have zD : s9.heap.get? s2.heap.objs.size = some (accObj us) := pD.1
        have nD : H9 s2.heap.objs.size = none := pD.2.1
        refine append_at (hsz := by show us.toArray.size ≤ sizeLine; rw [List.size_toArray, ← hv.length]; exact hz) zD fun h5 hs5 hD5 => ?_
        have Ia : Inv (compCx X (own ++ fr.map (·.1)) sc cl s2 H2 fp) (pinsAt fp s6.heap) σ7 H9 s9 := I9.pins_of fun p hp => I9.pin p (List.mem_append_right _ (List.mem_append_right _ hp))
        have neD : s2.heap.objs.size ≠ s2.heap.objs.size + 1 := Nat.ne_of_lt (Nat.lt_succ_self _)
        have Ib : Inv (compCx X (own ++ fr.map (·.1)) sc cl s2 H2 fp) (pinsAt fp s6.heap) σ7 H9 { s9 with heap := h5, toks := s9.toks } := Ia.turned (it := s2.heap.objs.size) (fun b o hb e => hs5.extBut b o hb e) nD neD (.inr (Nat.le_refl _)) (fun x c e z => by
            obtain ⟨v', q⟩ := I2.cell x c (C.sub x c e)
            have q' := q.lt
            rw [z] at q'
            exact Nat.lt_irrefl _ q') fun p hp z => by
            have hp' : p ∈ pinsAt fp s6.heap := by simpa [compCx] using hp
            have q' := fpl p.1 (of_pinsAt hp').1
            rw [z] at q'
            exact Nat.lt_irrefl _ q'
        have Ic : Inv (compCx X (own ++ fr.map (·.1)) sc cl s2 H2 fp) [(s2.heap.objs.size, accObj (us ++ [y]))] σ7 H9 { s9 with heap := h5, toks := s9.toks } := Ib.pins_of fun p hp => by
          have hp' : p = (s2.heap.objs.size, accObj (us ++ [y])) := by simpa using hp
          subst hp'
          exact ⟨hD5.trans (congrArg some (acc_snoc us y)), nD, neD, pD.2.2.2.1, fun v z => by cases z⟩
        refine ⟨m', hm, i + 1, ys ++ [v], us ++ [y], H9, hv.append (.cons r9 .nil), Ic.weak k7.1 k7.2, T.keep _ _ _ st6 fun b hb o e => ?_, fun b hb => (fps (pins' := []) I9 b hb).2, ?_, w9⟩
        · exact hs5.extBut b o (Nat.ne_of_lt (fpl b hb)) ((fps (pins' := []) I9 b hb).1 o e)
        · rw [List.length_append]; exact hlt
  exact codeAny_compStart_list (loop _ rfl) (T.self _ 0 _ _ _ (T.keep _ _ _ st2 fun b _ o e => old b o e) (loop _ rfl))
theorem pe_lcomp {elt tg iter : Expr} {ifs : List Expr} {sc : Scope} {pos : Pos} {own : List Str} {fr : List (Str × Nat)} {cl : List (Str × Addr)} {wi : TI} {g : TG} {tt : TT} {te : TE} (hc : X.calm = true) (hi : PI X tg iter wi) (S : CompSc sc) (C : Caps X sc cl fr)
    (hg : ∀ s H fp, PG (compCx X (own ++ fr.map (·.1)) sc cl s H fp) tg g) (hfr : ∀ σ, Fresh g (compSt own fr σ)) (ht : ∀ s H fp, PTs (compCx X (own ++ fr.map (·.1)) sc cl s H fp) ifs tt)
    (he : ∀ s H fp, PE (compCx X (own ++ fr.map (·.1)) sc cl s H fp) elt te) (hs : ∀ x, foldedSetIterable iter X.env x = pure x := by intro _; rfl) :
    PE X (.ListComp elt [⟨tg, iter, ifs, 0⟩] sc pos) (tLC own fr wi g tt te) := by
  intro pins s σ H Q I h
  rw [eval_ListComp]
  refine wpAny_comprehension_free (use := none) rfl hs C.clos S.kind S.nms (thn (hi pins s σ H _ I h) fun xv s1 h1 => thn h1 fun itv s2 h2 => ?_)
  obtain ⟨it, fp, tn, J, H2, e, I2, T, st2, f2, hW⟩ := h2
  subst e
  refine comp_core (RR := fun acc A => compPost (model X.prog X.w) X.A X.xe none (EP X pins σ Q) acc A) hc S C hg hfr ht he I2 T st2 f2 hW fun s5 H4 ys us I5 hv hz fin => ?_
  obtain ⟨m5, hn5, _⟩ := id I5.loc
  have nD : H4 s2.heap.objs.size = none := (I5.pin (s2.heap.objs.size, accObj us) (List.mem_append_right _ (by simp))).2.1
  exact ⟨m5, hn5, fun h' hs' => ⟨.ref s2.heap.objs.size, upd H4 s2.heap.objs.size (.lst ys), I2.unblock f2 I5 hv hz hs', rfl, fin _ nD⟩⟩
theorem ps_setC {i : Nat} {y : Str} {py spos : Pos} {elt tg iter : Expr} {ifs : List Expr} {sc : Scope} {pos : Pos} {own : List Str} {fr : List (Str × Nat)} {cl : List (Str × Addr)} {wi : TI} {g : TG} {tt : TT} {te : TE} (hN : X.N.Nodup) (hy : X.N[i]? = some y)
    (hx : Loc X.env.scope y) (hc : X.calm = true) (hi : PI X tg iter wi) (S : CompSc sc) (C : Caps X sc cl fr)
    (hg : ∀ s H fp, PG (compCx X (own ++ fr.map (·.1)) sc cl s H fp) tg g) (hfr : ∀ σ, Fresh g (compSt own fr σ)) (ht : ∀ s H fp, PTs (compCx X (own ++ fr.map (·.1)) sc cl s H fp) ifs tt)
    (he : ∀ s H fp, PE (compCx X (own ++ fr.map (·.1)) sc cl s H fp) elt te) (hs : ∀ x, foldedSetIterable iter X.env x = pure x := by intro _; rfl)
    (hsw : swapsWith (.ListComp elt [⟨tg, iter, ifs, 0⟩] sc pos) (some (.Name y py)) spos.line X.env = pure true := by rfl) (hf : X.fn y = true ∨ X.env.scope.names.lookup y = some .local := by first | exact .inl rfl | exact .inr rfl | assumption) :
    PS X (.Assign [.Name y py] (.ListComp elt [⟨tg, iter, ifs, 0⟩] sc pos) spos) (tAsg (tLC own fr wi g tt te) (gName i)) := by
  intro pins s σ H D I h
  rw [exec_Assign_Name_used _ _ _ _ hsw]
  refine wpAny_bind (wpAny_standAt (wpAny_bind ?_))
  show wpAny _ X.A (do let _ ← comprehension (.ListComp elt [⟨tg, iter, ifs, 0⟩] sc pos) sc X.env _ (newList []) false (eval iter X.env) (some (assign (.Name y py) X.env))) _ _ s
  refine wpAny_bind (thn (wpAny_comprehension_free (use := some (assign (.Name y py) X.env)) (Q := fun _ s' => SP X pins D .next s') rfl hs C.clos S.kind S.nms
    (thn (hi pins s σ H _ I h) fun xv s1 h1 => thn h1 fun itv s2 h2 => ?_)) fun _ s' hq => wpAny_pure (wpAny_pure hq))
  obtain ⟨it, fp, tn, J, H2, e, I2, T, st2, f2, hW⟩ := h2
  subst e
  refine comp_core (RR := fun acc A => compPost (model X.prog X.w) X.A X.xe (some (assign (.Name y py) X.env)) (fun _ s' => SP X pins D .next s') acc A) hc S C hg hfr ht he I2 T st2 f2 hW fun s5 H4 ys us I5 hv hz fin => ?_
  obtain ⟨m5, hn5, _⟩ := id I5.loc
  have nD : H4 s2.heap.objs.size = none := (I5.pin (s2.heap.objs.size, accObj us) (List.mem_append_right _ (by simp))).2.1
  have nC : H4 (s2.heap.objs.size + 1) = none := I5.free
  have I6 : Inv X pins σ (upd H4 s2.heap.objs.size (.lst ys)) s5 := I2.unblock f2 I5 hv hz (Heap.SameBut.refl _ _)
  show wpAny _ X.A (assign (.Name y py) X.env (.ref s2.heap.objs.size)) _ _ s5
  refine wpAny_assign_Name (store_ok2 (v := .ref s2.heap.objs.size) I6 hN hy hx rfl (fun s7 I7 ⟨a, hsb, ha⟩ => ?_) hf)
  have Clt : s2.heap.objs.size < s2.heap.objs.size + 1 := Nat.lt_succ_self _
  have neL : s2.heap.objs.size + 1 ≠ X.env.locals := Nat.ne_of_gt (Nat.lt_trans I2.lt Clt)
  have neCell : ∀ x c, X.env.cells.lookup x = some c → c ≠ s2.heap.objs.size + 1 := fun x c e => by
    obtain ⟨v', q⟩ := I2.cell x c e
    exact Nat.ne_of_lt (Nat.lt_trans q.lt Clt)
  have neA : s2.heap.objs.size + 1 ≠ a := by
    rcases ha with rfl | ha
    · exact neL
    · exact Ne.symm (neCell _ _ ha)
  refine ⟨m5, hn5.sameBut hsb neA, fun h' hs' => ⟨_, _, ?_, fin _ nD⟩⟩
  exact I7.turned (it := s2.heap.objs.size + 1) (t' := s7.toks) (fun b o hb e => hs'.extBut b o hb e) (by rw [upd_ne (Nat.ne_of_gt Clt)]; exact nC) neL (.inr (Nat.le_trans I2.sz (Nat.le_of_lt Clt))) neCell fun p hp z => by
    have q := Heap.lt_size (I2.pin p hp).1
    rw [z] at q
    exact absurd (Nat.lt_trans Clt q) (Nat.lt_irrefl _)
end
end L2
namespace L2
open PySem PySem.Spec PyProof.Rows
section
variable {X : Cx} {tg : Expr}
end
section
variable {X : Cx}
end
section
variable {X : Cx} {pins : List (Addr × Obj)} {σ σ' : St} {H H' : Hp} {s s' : Shared}
end
section
variable {X : Cx}
end
end L2
namespace L2
open PySem PySem.Spec PyProof.Rows
theorem relabel_kind {sc : Scope} {env : Env} {x : Str} {k : NameKind} (h : (relabel sc env).names.lookup x = some k) : ∃ y ∈ sc.names, y.2 = k ∨ y.2 = .free := by
  have hm := PySem.mem_of_lookup h
  obtain ⟨y, hy, e⟩ := List.mem_map.mp hm
  refine ⟨y, hy, ?_⟩
  obtain ⟨n, k0⟩ := y
  dsimp only at e
  split at e
  · rename_i hc
    rw [Bool.and_eq_true, Bool.and_eq_true] at hc
    exact .inr (beq_iff_eq.mp hc.1.1)
  · cases e
    exact .inl rfl
theorem caps0 {X : Cx} {sc : Scope} (h : ∀ y ∈ sc.names, y.2 ≠ .free ∧ y.2 ≠ .cell) : Caps X sc [] [] where
  clos := closureFor_none fun y hy => (h y hy).1
  sub := fun x c e => by cases e
  has := fun x e => by
    exfalso
    rcases e with e | e <;> obtain ⟨y, hy, z⟩ := relabel_kind e <;> rcases z with z | z
    · exact (h y hy).2 z
    · exact (h y hy).1 z
    · exact (h y hy).1 z
    · exact (h y hy).1 z
  cap := fun p hp => nomatch hp
theorem Same.up {H H' : Hp} {p : Addr} {o : HO} (e : Same H H') (h : H' p = none) : Same H (upd H' p o) := fun b u q => by
  rw [upd_ne (ne_of_none (e b u q) h)]
  exact e b u q
theorem Same.new {H : Hp} {p : Addr} {o : HO} (h : H p = none) : Same H (upd H p o) := (Same.refl H).up h
theorem Same.wr {H H' : Hp} {p : Addr} {o : HO} (e : Same H H') (h : H p = none) : Same H (upd H' p o) := fun b u q => by
  rw [upd_ne (ne_of_none q h)]
  exact e b u q
section
variable {X : Cx}
def rIxA (K : PySem.W.Frag) : R2 := fun x y H Q => ∃ p xs i, x = .ref p ∧ y = .int i ∧ SqL K H p xs ∧ 0 ≤ i ∧ i < (xs.length : Int) ∧ ∀ v ∈ xs, Q v H
theorem ix_any : IxR X (rIxA X.K) := by
  intro value slice pins s σ H x y v u Q I rx ry h hs
  obtain ⟨p, xs, i, ex, ey, hq, h0, h1, q⟩ := h
  obtain ⟨j, rfl⟩ := Int.eq_ofNat_of_zero_le h0
  have hj : j < xs.length := by omega
  exact ix_list value slice pins s σ H x y v u Q I rx ry ⟨p, xs, j, xs[j], ex, ey, hq, atI_nat (List.getElem?_eq_getElem hj), q _ (List.getElem_mem hj)⟩ hs
end
theorem atI_in {α : Type} (xs : List α) (i : Int) (h0 : 0 ≤ i) (h1 : i < (xs.length : Int)) : ∃ v, atI xs i = some v := by
  obtain ⟨j, rfl⟩ := Int.eq_ofNat_of_zero_le h0
  have hj : j < xs.length := by omega
  exact ⟨xs[j], atI_nat (List.getElem?_eq_getElem hj)⟩
theorem mod_lo (x : Int) {m : Int} (h : 0 < m) : 0 ≤ x % m := Int.emod_nonneg _ (by omega)
theorem mod_hi (x : Int) {m : Int} (h : 0 < m) : x % m < m := Int.emod_lt_of_pos _ h
section
variable {X : Cx} {es : List Expr} {t : TA} {pos : Pos}
def tTupA (t : TA) : TE := fun σ H Q => t σ H fun xs H1 => xs.length ≤ sizeLine ∧ ∀ p H', H1 p = none → Same H1 H' → H' p = some (.tup xs) → Q (.ref p) H'
def tLstA (t : TA) : TE := fun σ H Q => t σ H fun xs H1 => xs.length ≤ sizeLine ∧ ∀ p H', H1 p = none → Same H1 H' → H' p = some (.lst xs) → Q (.ref p) H'
theorem pe_tupA {x1} (h : PA X es t) : PE X (.Tuple es x1 pos) (tTupA t) := by
  intro pins s σ H Q I hq
  refine wpAny_Tuple_spliced (thn (h pos pins s σ H _ I hq) fun us s1 ⟨xs, H1, I1, r, z, q⟩ => ⟨by rw [← r.length]; exact z, ?_⟩)
  have hf : H1 s1.heap.objs.size = none := I1.hok.fresh (Nat.le_refl _)
  refine ⟨.ref s1.heap.objs.size, upd H1 s1.heap.objs.size (.tup xs), I1.laid (t' := s1.toks) (fun b u e => Heap.get?_push_of_some _ e) (Nat.le_refl _) ?_, rfl, q _ _ hf (Same.new hf) upd_same⟩
  exact ⟨z, us, r, ⟨_, Heap.get?_push_size _ rfl, rfl, _, rfl⟩⟩
theorem pe_lstA (h : PA X es t) : PE X (.List es pos) (tLstA t) := by
  intro pins s σ H Q I hq
  refine wpAny_List_spliced (thn (h pos pins s σ H _ I hq) fun us s1 ⟨xs, H1, I1, r, z, q⟩ => ⟨by rw [← r.length]; exact z, ?_⟩)
  have hf : H1 s1.heap.objs.size = none := I1.hok.fresh (Nat.le_refl _)
  refine ⟨.ref s1.heap.objs.size, upd H1 s1.heap.objs.size (.lst xs), I1.laid (t' := s1.toks) (fun b u e => Heap.get?_push_of_some _ e) (Nat.le_refl _) ?_, rfl, q _ _ hf (Same.new hf) upd_same⟩
  exact ⟨z, us, 0, r, Heap.get?_push_size _ rfl⟩
theorem OpR.imp {f : Value → Value → Sem Value} {r r' : R2} (h : OpR X f r) (i : ∀ x y H Q, r' x y H Q → r x y H Q) : OpR X f r' := fun pins s σ H x y v u Q I rx ry q => h pins s σ H x y v u Q I rx ry (i x y H Q q)
theorem SlR.imp {r r' : V → Option Int → Option Int → Hp → VK → Prop} (h : SlR X r) (i : ∀ x lo hi H Q, r' x lo hi H Q → r x lo hi H Q) : SlR X r' := fun pins s σ H x v vl vu lo hi sl Q I rx hs pl pu q => h pins s σ H x v vl vu lo hi sl Q I rx hs pl pu (i x lo hi H Q q)
def rCatA : R2 := fun x y H Q => ∃ l b xs zs, x = .ref l ∧ y = .ref b ∧ H l = some (.lst xs) ∧ H b = some (.lst zs) ∧ xs.length + zs.length ≤ sizeLine ∧ ∀ p H', H p = none → Same H H' → H' p = some (.lst (xs ++ zs)) → Q (.ref p) H'
theorem op_catA : OpR X (binaryOp .Add) rCatA := op_cat.imp fun _ _ _ _ ⟨l, b, xs, zs, h1, h2, h3, h4, h5, q⟩ => ⟨l, b, xs, zs, h1, h2, h3, h4, h5, fun p hp => q p _ hp (Same.new hp) upd_same⟩
def rSlLA (K : PySem.W.Frag) : V → Option Int → Option Int → Hp → VK → Prop := fun x lo hi H Q => ∃ a xs, x = .ref a ∧ SqL K H a xs ∧ ∀ p H', H p = none → Same H H' → H' p = some (.lst (cutV xs lo hi)) → Q (.ref p) H'
theorem sl_listA : SlR X (rSlLA X.K) := sl_list.imp fun _ _ _ _ _ ⟨a, xs, h1, h2, q⟩ => ⟨a, xs, h1, h2, fun p hp => q p _ hp (Same.new hp) upd_same⟩
end
end L2
namespace L2
open PySem PySem.Spec PyProof.Rows
def clo (env : Env) : List (Str × NameKind) → List (Str × Addr) → List (Str × Addr)
  | [], acc => acc
  | (n, k) :: r, acc => clo env r (if k == .free then (n, (env.cells.lookup n).getD 0) :: acc else acc)
theorem closure_clo {env : Env} {sc : Scope} (h : ∀ y ∈ sc.names, y.2 = .free → ∃ c, env.cells.lookup y.1 = some c) : closureFor sc env = pure (clo env sc.names []) := by
  have all : ∀ (names : List (Str × NameKind)) (acc : List (Str × Addr)), (∀ y ∈ names, y.2 = .free → ∃ c, env.cells.lookup y.1 = some c) →
      (forIn names acc fun x r => (match x with
        | (name, kind) => if (kind == NameKind.free) = true then do
            let a ← cellOf env name
            pure (ForInStep.yield ((name, a) :: r))
          else pure (ForInStep.yield r) : Sem (ForInStep (List (Str × Addr))))) = pure (clo env names acc) := by
    intro names
    induction names with
    | nil => intro acc _; rfl
    | cons x r ih =>
      intro acc hx
      obtain ⟨n, k⟩ := x
      rw [List.forIn_cons]
      cases hk : (k == NameKind.free) with
      | true =>
        obtain ⟨c, hc⟩ := hx (n, k) List.mem_cons_self (beq_iff_eq.mp hk)
        have e : cellOf env n = pure c := by unfold cellOf; rw [hc]
        dsimp only
        rw [if_pos hk, e]
        refine Eq.trans (by first | rfl | simp) ((ih ((n, c) :: acc) fun y hy => hx y (List.mem_cons_of_mem _ hy)).trans ?_)
        show _ = pure (clo env r (if (k == NameKind.free) = true then (n, (env.cells.lookup n).getD 0) :: acc else acc))
        rw [if_pos hk, show env.cells.lookup n = some c from hc]
        rfl
      | false =>
        dsimp only
        rw [if_neg (by rw [hk]; exact Bool.false_ne_true)]
        refine Eq.trans (by first | rfl | simp) ((ih acc fun y hy => hx y (List.mem_cons_of_mem _ hy)).trans ?_)
        show _ = pure (clo env r (if (k == NameKind.free) = true then (n, (env.cells.lookup n).getD 0) :: acc else acc))
        rw [if_neg (by rw [hk]; exact Bool.false_ne_true)]
  have e := all sc.names [] h
  show ((forIn sc.names [] fun x r => (match x with
        | (name, kind) => if (kind == NameKind.free) = true then do
            let a ← cellOf env name
            pure (ForInStep.yield ((name, a) :: r))
          else pure (ForInStep.yield r) : Sem (ForInStep (List (Str × Addr))))) >>= fun cs => pure cs) = _
  rw [e]
  rfl
theorem clo_sub {env : Env} : ∀ {names : List (Str × NameKind)} {acc : List (Str × Addr)}, (∀ y ∈ names, y.2 = .free → ∃ c, env.cells.lookup y.1 = some c) → (∀ x c, acc.lookup x = some c → env.cells.lookup x = some c) →
    ∀ x c, (clo env names acc).lookup x = some c → env.cells.lookup x = some c
  | [], _, _, h => h
  | (n, k) :: r, acc, hx, h => by
    refine clo_sub (names := r) (fun y hy => hx y (List.mem_cons_of_mem _ hy)) fun x c e => ?_
    cases hk : (k == NameKind.free) with
    | true =>
      rw [hk, if_pos rfl] at e
      obtain ⟨c', hc⟩ := hx (n, k) List.mem_cons_self (beq_iff_eq.mp hk)
      rw [List.lookup_cons] at e
      cases hxn : (x == n) with
      | true =>
        rw [hxn] at e
        have q := beq_iff_eq.mp hxn
        subst q
        have e' : (env.cells.lookup x).getD 0 = c := Option.some.inj e
        have hc' : env.cells.lookup x = some c' := hc
        rw [hc'] at e' ⊢
        exact congrArg some e'
      | false => rw [hxn] at e; exact h x c e
    | false => rw [hk, if_neg Bool.false_ne_true] at e; exact h x c e
theorem clo_has {env : Env} {x : Str} : ∀ {names : List (Str × NameKind)} {acc : List (Str × Addr)}, ((x, NameKind.free) ∈ names ∨ ∃ c, acc.lookup x = some c) → ∃ c, (clo env names acc).lookup x = some c
  | [], _, h => h.elim (fun z => nomatch z) id
  | (n, k) :: r, acc, h => by
    refine clo_has (names := r) ?_
    have put : ∀ c', ∃ c, ((n, c') :: acc).lookup x = some c ∨ (x ≠ n ∧ acc.lookup x = none) := fun c' => by
      rw [List.lookup_cons]
      cases hxn : (x == n) with
      | true => exact ⟨c', .inl rfl⟩
      | false =>
        cases ha : acc.lookup x with
        | some c => exact ⟨c, .inl rfl⟩
        | none => exact ⟨0, .inr ⟨fun z => by subst z; simp at hxn, rfl⟩⟩
    rcases h with h | ⟨c, h⟩
    · rcases List.mem_cons.mp h with q | q
      · cases q
        refine .inr ?_
        rw [if_pos (by rfl), List.lookup_cons]
        simp
      · exact .inl q
    · refine .inr ?_
      cases hk : (k == NameKind.free) with
      | true =>
        rw [if_pos (by rfl)]
        obtain ⟨c1, q | q⟩ := put ((env.cells.lookup n).getD 0)
        · exact ⟨c1, q⟩
        · rw [q.2] at h; cases h
      | false => rw [if_neg Bool.false_ne_true]; exact ⟨c, h⟩
theorem relabel_at {sc : Scope} {env : Env} {x : Str} {k : NameKind} (h : (relabel sc env).names.lookup x = some k) : ∃ y ∈ sc.names, y.1 = x ∧ (y.2 = k ∨ y.2 = .free) := by
  have hm := PySem.mem_of_lookup h
  obtain ⟨y, hy, e⟩ := List.mem_map.mp hm
  refine ⟨y, hy, ?_⟩
  obtain ⟨n, k0⟩ := y
  dsimp only at e
  split at e
  · rename_i hc
    rw [Bool.and_eq_true, Bool.and_eq_true] at hc
    cases e
    exact ⟨rfl, .inr (beq_iff_eq.mp hc.1.1)⟩
  · cases e
    exact ⟨rfl, .inl rfl⟩
theorem caps_of {X : Cx} {sc : Scope} {fr : List (Str × Nat)} (hX : ∀ x, X.env.kindOf x = some .cell → ∃ c, X.env.cells.lookup x = some c) (hcell : ∀ y ∈ sc.names, y.2 ≠ .cell)
    (hfree : ∀ y ∈ sc.names, y.2 = .free → X.env.kindOf y.1 = some .cell)
    (hcap : ∀ p ∈ fr, X.N[p.2]? = some p.1 ∧ X.env.kindOf p.1 = some .cell ∧ (relabel sc X.env).names.lookup p.1 = some .cell) : Caps X sc (clo X.env sc.names []) fr where
  clos := closure_clo fun y hy e => hX _ (hfree y hy e)
  sub := clo_sub (fun y hy e => hX _ (hfree y hy e)) fun x c e => by cases e
  has := fun x e => by
    refine clo_has (.inl ?_)
    rcases e with e | e <;> obtain ⟨y, hy, rfl, z⟩ := relabel_at e <;> rcases z with z | z
    · exact absurd z (hcell y hy)
    · rw [← z]; exact hy
    · rw [← z]; exact hy
    · rw [← z]; exact hy
  cap := fun p hp => by
    obtain ⟨h1, h2, h3⟩ := hcap p hp
    exact ⟨h1, by rw [h2]; decide, .inr (.inl h2), .inl h3⟩
theorem caps_def {X : Cx} {sc : Scope} {fr : List (Str × Nat)} (scX : Scope) (N : List Str) (h1 : X.env.scope = scX) (h2 : X.N = N) (hX : ∀ x, X.env.kindOf x = some .cell → ∃ c, X.env.cells.lookup x = some c)
    (hcell : ∀ y ∈ sc.names, y.2 ≠ .cell) (hfree : ∀ y ∈ sc.names, y.2 = .free → scX.names.lookup y.1 = some .cell)
    (hcap : ∀ p ∈ fr, N[p.2]? = some p.1 ∧ scX.names.lookup p.1 = some .cell ∧ (relabel sc { scope := scX, locals := 0, globals := 0, cells := [] }).names.lookup p.1 = some .cell) : Caps X sc (clo X.env sc.names []) fr := by
  refine caps_of hX hcell (fun y hy e => ?_) fun p hp => ?_
  · show X.env.scope.names.lookup y.1 = some .cell
    rw [h1]
    exact hfree y hy e
  · obtain ⟨a, b, c⟩ := hcap p hp
    refine ⟨by rw [h2]; exact a, ?_, ?_⟩
    · show X.env.scope.names.lookup p.1 = some .cell
      rw [h1]
      exact b
    · have e : relabel sc X.env = relabel sc { scope := scX, locals := 0, globals := 0, cells := [] } := by
        unfold relabel Env.kindOf
        rw [h1]
      rw [e]
      exact c
section
variable {X : Cx}
theorem CallR.imp {f : Value} {r r' : List V → Hp → VK → Prop} (h : CallR X f r) (i : ∀ xs H Q, r' xs H Q → r xs H Q) : CallR X f r' := fun pins s σ H xs us Q I rv q => h pins s σ H xs us Q I rv (i xs H Q q)
def rLstA (K : PySem.W.Frag) : List V → Hp → VK → Prop := fun xs H Q => ∃ p ys, xs = [.ref p] ∧ (SqL K H p ys ∨ SqT K H p ys) ∧ ∀ l H', H l = none → Same H H' → H' l = some (.lst ys) → Q (.ref l) H'
theorem call_lstA : CallR X (.type "list") (rLstA X.K) := call_list_of.imp fun _ _ _ ⟨p, ys, h1, h2, q⟩ => ⟨p, ys, h1, h2, fun l hl => q l _ hl (Same.new hl) upd_same⟩
end
end L2
namespace L2
open PySem PySem.Spec PyProof.Rows
theorem lc_any {K : PySem.W.Frag} {a : Addr} {xs : List V} {own : List Str} {fr : List (Str × Nat)} {g : TG} {tt : TT} {te : TE} {σ : St} {H : Hp} {Q : VK} (hz : xs.length ≤ sizeLine) (Pv : Nat → List V → Hp → Prop) (h0 : Pv 0 [] H) (hl : ∀ i ys H, Pv i ys H → SqL K H a xs)
    (hs : ∀ i x ys H' (K1 : V → Hp → Prop) (K0 : Hp → Prop), xs[i]? = some x → Pv i ys H' → (∀ y H4, Pv (i + 1) (ys ++ [y]) H4 → K1 y H4) → (∀ H3, Pv (i + 1) ys H3 → K0 H3) →
      g x (compSt own fr σ) H' fun σ2 H2 => tt σ2 H2 fun b H3 => if b = true then te σ2 H3 K1 else K0 H3)
    (hd : ∀ H' p ys, Pv xs.length ys H' → ys.length ≤ xs.length → H' p = none → Q (.ref p) (upd H' p (.lst ys))) : LCb own fr g tt te σ Q (Itl K a) H := by
  refine ⟨fun i m ys H => m = xs.length - i ∧ i ≤ xs.length ∧ ys.length ≤ i ∧ Pv i ys H, ⟨xs.length, by simp, Nat.zero_le _, Nat.zero_le _, h0⟩, ?_⟩
  rintro i m ys H ⟨rfl, hi, hy, p⟩
  by_cases hlt : i < xs.length
  · refine .inr ⟨⟨xs, xs[i], hl _ _ H p, by simp [hlt]⟩, by omega, fun x H' y => ?_⟩
    obtain ⟨rfl, y⟩ := y
    have hc := y xs (hl _ _ _ p)
    refine hs i x ys H' _ _ hc p (fun y H4 p4 => ⟨xs.length - (i + 1), by omega, rfl, hlt, ?_, p4⟩) fun H3 p3 => ⟨xs.length - (i + 1), by omega, rfl, hlt, by omega, p3⟩
    rw [List.length_append, List.length_singleton]
    omega
  · have e : i = xs.length := by omega
    subst e
    exact .inl ⟨⟨xs, hl _ _ H p, Nat.le_refl _⟩, fun q hq => hd H q ys p hy hq⟩
theorem lc_range {lo : Int} {n : Nat} {own : List Str} {fr : List (Str × Nat)} {g : TG} {tt : TT} {te : TE} {σ : St} {H : Hp} {Q : VK} (hz : n ≤ sizeLine) (Pv : Nat → List V → Hp → Prop) (h0 : Pv 0 [] H)
    (hs : ∀ i ys H' (K1 : V → Hp → Prop) (K0 : Hp → Prop), i < n → Pv i ys H' → (∀ y H4, Pv (i + 1) (ys ++ [y]) H4 → K1 y H4) → (∀ H3, Pv (i + 1) ys H3 → K0 H3) →
      g (.int (lo + i)) (compSt own fr σ) H' fun σ2 H2 => tt σ2 H2 fun b H3 => if b = true then te σ2 H3 K1 else K0 H3)
    (hd : ∀ H' p ys, Pv n ys H' → ys.length ≤ n → H' p = none → Q (.ref p) (upd H' p (.lst ys))) : LCb own fr g tt te σ Q (Itr lo n) H := by
  refine ⟨fun i m ys H => m = n - i ∧ i ≤ n ∧ ys.length ≤ i ∧ Pv i ys H, ⟨n, by simp, Nat.zero_le _, Nat.zero_le _, h0⟩, ?_⟩
  rintro i m ys H ⟨rfl, hi, hy, p⟩
  by_cases hlt : i < n
  · refine .inr ⟨hlt, by omega, fun x H' y => ?_⟩
    obtain ⟨rfl, rfl⟩ := y
    refine hs i ys H' _ _ hlt p (fun y H4 p4 => ⟨n - (i + 1), by omega, rfl, hlt, ?_, p4⟩) fun H3 p3 => ⟨n - (i + 1), by omega, rfl, hlt, by omega, p3⟩
    rw [List.length_append, List.length_singleton]
    omega
  · have e : i = n := by omega
    subst e
    exact .inl ⟨Nat.le_refl _, fun q hq => hd H q ys p hy hq⟩
section
variable {X : Cx} {pins : List (Addr × Obj)} {σ : St} {H : Hp} {s : Shared}
end
section
variable {X : Cx} {K : PySem.W.Frag}
theorem ix_tupK (h : X.K = K) : IxR X (rIxT K) := h ▸ ix_tup
end
theorem SqL.same {K : PySem.W.Frag} {H H' : Hp} {a : Addr} {xs : List V} (h : SqL K H a xs) (s : Same H H') : SqL K H' a xs := by
  rcases h with (h | ⟨o, h⟩) | h
  · exact .inl (.inl (s _ _ h))
  · exact .inl (.inr ⟨o, s _ _ h⟩)
  · exact .inr h
end L2
namespace L2
open PySem PySem.Spec PyProof.Rows
section
variable {X : Cx}
theorem strs_of : ∀ {ys : List Str} {us : List Value}, Vals (ys.map V.str) us → StrsAre us ys
  | [], _, h => by cases h; exact .nil
  | y :: ys, _, h => by
    cases h with
    | cons r t =>
      obtain ⟨k, rfl⟩ := r
      exact .cons y k (strs_of t)
def rJoin (K : PySem.W.Frag) : V → List V → Hp → VK → Prop := fun x vs H Q => ∃ sep p ys, x = .str sep ∧ vs = [.ref p] ∧ SqL K H p (List.map V.str ys) ∧ (ys.map (·.length)).sum + ys.length * sep.length ≤ 16777216 ∧ Q (.str (Txt.join sep ys)) H
theorem mt_join : MtM X "str.join" (rJoin X.K) := by
  intro pins s σ H x vs v us Q I rx rv h
  obtain ⟨sep, p, ys, rfl, rfl, hq, hz, q⟩ := h
  obtain ⟨t, rfl⟩ := rx
  obtain ⟨u, rfl, ru⟩ := rv.one
  cases ru
  obtain ⟨its, r, pl, _⟩ := I.list hq
  exact join_list pl.isList (strs_of r) hz fun t' k => ⟨.str (Txt.join sep ys), H, I.tok _, ⟨_, rfl⟩, q⟩
def insV (xs : List V) (k : Nat) (y : V) : List V := xs.take k ++ y :: xs.drop k
def rInsert : V → List V → Hp → VK → Prop := fun x vs H Q => ∃ l xs i y, x = .ref l ∧ vs = [.int i, y] ∧ H l = some (.lst xs) ∧ 0 ≤ i ∧ i < 2 ^ 63 ∧ xs.length < sizeLine ∧ Q .non (upd H l (.lst (insV xs (min i.toNat xs.length) y)))
theorem mt_insert : MtM X "list.insert" rInsert := by
  intro pins s σ H x vs v us Q I rx rv h
  obtain ⟨l, xs, i, y, rfl, rfl, hH, h1, h2, hz, q⟩ := h
  cases rx
  obtain ⟨u, u2, rfl, ru, ru2⟩ := rv.two
  obtain ⟨t, rfl⟩ := ru
  obtain ⟨z, its, n, r, hl, e⟩ := I.lstM hH
  refine call_meets F.slot_list_insert ⟨_, e, rfl⟩ F.entry_list_insert (F.args_list_insert_3 _ _ _) (AutoSeq1.list_insert_list_int_val_1 l its.toArray n i t u2 (by rw [fitsIndex_both (by omega) h2]; decide) (by rw [List.size_toArray]; omega)) ⟨e, ?_⟩
  refine ⟨.non, _, I.lset (its' := its.take (min i.toNat its.length) ++ u2 :: its.drop (min i.toNat its.length)) hH e ?_ (ys := insV xs (min i.toNat xs.length) y) ?_ ?_, rfl, q⟩
  · have hi : ¬ i < 0 := by omega
    simp only [hi, if_false, List.size_toArray]
    simp
    exact List.take_of_length_le (by rw [List.length_drop]; exact Nat.le_refl _)
  · unfold insV
    rw [hl]
    exact (r.take _).append (.cons ru2 (r.drop _))
  · unfold insV
    rw [List.length_append, List.length_cons, List.length_take, List.length_drop]
    omega
end
mutual
inductive DV (K : PySem.W.Frag) (H : Hp) : V → PyData → Prop
  | non : DV K H .non .none
  | bl (b : Bool) : DV K H (.bl b) (.bool b)
  | int (i : Int) : DV K H (.int i) (.int i)
  | str (z : Str) : DV K H (.str z) (.str z)
  | lst {p : Addr} {xs : List V} {ds : List PyData} : SqL K H p xs → DVs K H xs ds → DV K H (.ref p) (.list ds)
  | tup {p : Addr} {xs : List V} {ds : List PyData} : SqT K H p xs → DVs K H xs ds → DV K H (.ref p) (.tuple ds)
inductive DVs (K : PySem.W.Frag) (H : Hp) : List V → List PyData → Prop
  | nil : DVs K H [] []
  | cons {x : V} {xs : List V} {d : PyData} {ds : List PyData} : DV K H x d → DVs K H xs ds → DVs K H (x :: xs) (d :: ds)
end
section
variable {X : Cx} {pins : List (Addr × Obj)} {σ : St} {H H' : Hp} {s : Shared} {K : PySem.W.Frag}
theorem SqT.same {a : Addr} {xs : List V} (h : SqT K H a xs) (s : Same H H') : SqT K H' a xs := by
  rcases h with (h | ⟨o, h⟩) | h
  · exact .inl (.inl (s _ _ h))
  · exact .inl (.inr ⟨o, s _ _ h⟩)
  · exact .inr h
mutual
theorem DV.same (e : Same H H') : ∀ {x : V} {d : PyData}, DV K H x d → DV K H' x d
  | _, _, .non => .non
  | _, _, .bl b => .bl b
  | _, _, .int i => .int i
  | _, _, .str z => .str z
  | _, _, .lst h t => .lst (h.same e) (DVs.same e t)
  | _, _, .tup h t => .tup (h.same e) (DVs.same e t)
theorem DVs.same (e : Same H H') : ∀ {xs : List V} {ds : List PyData}, DVs K H xs ds → DVs K H' xs ds
  | _, _, .nil => .nil
  | _, _, .cons h t => .cons (DV.same e h) (DVs.same e t)
end
mutual
theorem DV.reads (I : Inv X pins σ H s) : ∀ {x : V} {d : PyData} {v : Value}, DV X.K H x d → RelV x v → ∃ as, Reads s.heap v d as
  | _, _, _, .non, r => by cases r; exact ⟨_, .none⟩
  | _, _, _, .bl b, r => by cases r; exact ⟨_, .bool b⟩
  | _, _, _, .int i, r => by obtain ⟨t, rfl⟩ := r; exact ⟨_, .int i t⟩
  | _, _, _, .str z, r => by obtain ⟨t, rfl⟩ := r; exact ⟨_, .str z t⟩
  | _, _, _, .lst h t, r => by
    cases r
    obtain ⟨its, rv, ⟨o, n, e1, e2, _, e3⟩, _⟩ := I.list h
    obtain ⟨as, ra⟩ := DVs.reads I t rv
    exact ⟨_, .list e1 e2 e3 (by simpa using ra)⟩
  | _, _, _, .tup h t, r => by
    cases r
    obtain ⟨its, rv, ⟨o, e1, e2, n, e3⟩, _⟩ := I.tuple h
    obtain ⟨as, ra⟩ := DVs.reads I t rv
    exact ⟨_, .tuple e1 e2 e3 (by simpa using ra)⟩
theorem DVs.reads (I : Inv X pins σ H s) : ∀ {xs : List V} {ds : List PyData} {vs : List Value}, DVs X.K H xs ds → Vals xs vs → ∃ as, ReadsAll s.heap vs ds as
  | _, _, _, .nil, r => by cases r; exact ⟨_, .nil⟩
  | _, _, _, .cons h t, r => by
    cases r with
    | cons r1 r2 =>
      obtain ⟨as, a⟩ := DV.reads I h r1
      obtain ⟨bs, b⟩ := DVs.reads I t r2
      exact ⟨_, .cons a b⟩
end
def rEqD (K : PySem.W.Frag) (u : Nat) (neg : Bool) : R2 := fun x y H Q => ∃ dx dy, DV K H x dx ∧ DV K H y dy ∧ dx.canLay0 = true ∧ dy.canLay0 = true ∧ min dx.depth dy.depth ≤ u ∧ Q (.bl (if neg then !PyData.eqv dx dy else PyData.eqv dx dy)) H
theorem op_neD {u : Nat} (hu : X.A.units + u < cLine) : OpR X (compareOp .NotEq) (rEqD X.K u true) := by
  intro pins s σ H x y v w Q I rx ry h
  obtain ⟨dx, dy, hx, hy, cx, cy, hd, q⟩ := h
  obtain ⟨as, ra⟩ := hx.reads I rx
  obtain ⟨bs, rb⟩ := hy.reads I ry
  exact SeqAt.compareNe_reads ra rb cx cy (by omega) ⟨.bl _, H, I, rfl, q⟩
theorem reads_get {h : Heap} : ∀ {vs : List Value} {ds : List PyData} {as : List Addr} {j : Nat} {v : Value}, ReadsAll h vs ds as → vs[j]? = some v → ∃ d bs, ds[j]? = some d ∧ Reads h v d bs
  | _, _, _, _, _, .nil, e => by cases e
  | _, _, _, 0, _, .cons r t, e => by cases e; exact ⟨_, _, rfl, r⟩
  | _, _, _, j + 1, _, .cons r t, e => by
    obtain ⟨d, bs, h1, h2⟩ := reads_get (j := j) t (by simpa using e)
    exact ⟨d, bs, by simpa using h1, h2⟩
theorem lay_get : ∀ {ds : List PyData} {j : Nat} {d : PyData}, PyData.canLayAll0 ds = true → ds[j]? = some d → d.canLay0 = true
  | [], _, _, _, e => by cases e
  | d :: ds, 0, _, h, e => by
    cases e
    have h' : (d.canLay0 && PyData.canLayAll0 ds) = true := h
    rw [Bool.and_eq_true] at h'
    exact h'.1
  | d :: ds, j + 1, d', h, e => by
    have h' : (d.canLay0 && PyData.canLayAll0 ds) = true := h
    rw [Bool.and_eq_true] at h'
    exact lay_get h'.2 (by simpa using e)
open Classical in
noncomputable def alike (vs : List Value) (ds : List PyData) (dx : PyData) (y : Value) : Bool := decide (∃ (j : Nat) (d : PyData), vs[j]? = some y ∧ ds[j]? = some d ∧ PyData.eqv d dx = true)
open Classical in
theorem alike_at {h : Heap} {vs : List Value} {ds : List PyData} {as : List Addr} {dx : PyData} (r : ReadsAll h vs ds as) (c : PyData.canLayAll0 ds = true) {j : Nat} {y : Value} {d : PyData} (e : vs[j]? = some y) (ed : ds[j]? = some d) : alike vs ds dx y = PyData.eqv d dx := by
  unfold alike
  cases q : PyData.eqv d dx with
  | true => exact decide_eq_true ⟨j, d, e, ed, q⟩
  | false =>
    refine decide_eq_false fun ⟨j', d', e', ed', q'⟩ => ?_
    obtain ⟨d1, b1, x1, r1⟩ := reads_get r e
    obtain ⟨d2, b2, x2, r2⟩ := reads_get r e'
    rw [ed] at x1; cases x1
    rw [ed'] at x2; cases x2
    have := SeqAt.Reads.unique _ _ _ _ _ (lay_get c ed) r1 r2
    rw [← this, q] at q'
    cases q'
theorem alike_any {h : Heap} {dx : PyData} {vs : List Value} {ds : List PyData} {as : List Addr} (r : ReadsAll h vs ds as) (c : PyData.canLayAll0 ds = true) : vs.any (alike vs ds dx) = ds.any fun d => PyData.eqv d dx := by
  have hl := SeqAt.ReadsAll.length _ _ _ r
  rw [Bool.eq_iff_iff, List.any_eq_true, List.any_eq_true]
  constructor
  · rintro ⟨y, hy, q⟩
    obtain ⟨j, hj, e⟩ := List.mem_iff_getElem.mp hy
    obtain ⟨d, _, ed, _⟩ := reads_get r (j := j) (by rw [List.getElem?_eq_getElem hj, e])
    rw [alike_at r c (by rw [List.getElem?_eq_getElem hj, e]) ed] at q
    exact ⟨d, List.mem_of_getElem? ed, q⟩
  · rintro ⟨d, hd, q⟩
    obtain ⟨j, hj, e⟩ := List.mem_iff_getElem.mp hd
    have hj' : j < vs.length := by omega
    refine ⟨vs[j], List.getElem_mem hj', ?_⟩
    rw [alike_at r c (List.getElem?_eq_getElem hj') (by rw [List.getElem?_eq_getElem hj, e])]
    exact q
def rInD (K : PySem.W.Frag) (u : Nat) (neg : Bool) : R2 := fun x y H Q => ∃ dx p ds xs, DV K H x dx ∧ y = .ref p ∧ (SqL K H p xs ∨ SqT K H p xs) ∧ DVs K H xs ds ∧ dx.canLay0 = true ∧ PyData.canLayAll0 ds = true ∧ dx.depth ≤ u ∧
  Q (.bl (if neg then !(ds.any fun d => PyData.eqv d dx) else ds.any fun d => PyData.eqv d dx)) H
theorem op_inD {u : Nat} (hu : X.A.units + 1 + u < cLine) : OpR X (compareOp .In) (rInD X.K u false) := by
  intro pins s σ H x y v w Q I rx ry h
  obtain ⟨dx, p, ds, xs, hx, rfl, hq, hs, cx, cs, hd, q⟩ := h
  cases ry
  obtain ⟨as, ra⟩ := hx.reads I rx
  have key : ∀ {its : List Value}, Vals xs its → (∀ y ∈ its, SeqAt.EqAt X.A.in1 s y v (alike its ds dx y)) ∧ its.any (alike its ds dx) = ds.any fun d => PyData.eqv d dx := fun {its} rv => by
    obtain ⟨bs, rb⟩ := hs.reads I rv
    refine ⟨fun y hy => ?_, alike_any rb cs⟩
    obtain ⟨j, hj, e⟩ := List.mem_iff_getElem.mp hy
    have ej : its[j]? = some y := by rw [List.getElem?_eq_getElem hj, e]
    obtain ⟨d, _, ed, rd⟩ := reads_get rb ej
    rw [alike_at rb cs ej ed]
    exact SeqAt.eqAt_reads d dx _ s y v _ _ rd ra (lay_get cs ed) cx (by show X.A.units + 1 + _ < cLine; omega)
  rcases hq with hq | hq
  · obtain ⟨its, r, pl, hz⟩ := I.list hq
    obtain ⟨k1, k2⟩ := key r
    refine SeqAt.in_listAt (alike its ds dx) pl.isList (fun w hw => k1 w (by simpa using hw)) ⟨.bl _, H, I, rfl, ?_⟩
    rw [List.any_toArray, k2]
    exact q
  · obtain ⟨its, r, pl, hz⟩ := I.tuple hq
    obtain ⟨k1, k2⟩ := key r
    refine SeqAt.in_tupleAt (alike its ds dx) pl (fun w hw => k1 w (by simpa using hw)) ⟨.bl _, H, I, rfl, ?_⟩
    rw [List.any_toArray, k2]
    exact q
def rIndexD (K : PySem.W.Frag) (u : Nat) : V → List V → Hp → VK → Prop := fun o vs H Q => ∃ x dx p ds xs, ∃ j : Nat, vs = [x] ∧ o = .ref p ∧ DV K H x dx ∧ SqL K H p xs ∧ DVs K H xs ds ∧ dx.canLay0 = true ∧ PyData.canLayAll0 ds = true ∧ dx.depth ≤ u ∧
  (∃ d, ds[j]? = some d ∧ PyData.eqv d dx = true) ∧ (∀ (m : Nat) d, m < j → ds[m]? = some d → PyData.eqv d dx = false) ∧ Q (.int (j : Int)) H
theorem mt_indexD {u : Nat} (hu : X.A.units + 3 + u < cLine) : MtM X "list.index" (rIndexD X.K u) := by
  intro pins s σ H o vs v us Q I ro rv h
  obtain ⟨x, dx, p, ds, xs, j, rfl, rfl, hx, hq, hs, cx, cs, hd, ⟨d, hj, ed⟩, hno, q⟩ := h
  cases ro
  obtain ⟨w, rfl, rw'⟩ := rv.one
  obtain ⟨as, ra⟩ := hx.reads I rw'
  obtain ⟨its, r, pl, hz⟩ := I.list hq
  obtain ⟨⟨cls, dict, data, sl⟩, n, e, c1, c2, c3⟩ := pl
  dsimp only at c1 c2 c3
  subst c1 c2 c3
  obtain ⟨bs, rb⟩ := hs.reads I r
  have hlen := SeqAt.ReadsAll.length _ _ _ rb
  have hj' : j < its.length := by
    have := (List.getElem?_eq_some_iff.mp hj).1
    omega
  have hl := r.length
  have hbig : sizeLine < 2 ^ 63 - 1 := by decide
  refine call_meets F.slot_list_index ⟨_, e, rfl⟩ F.entry_list_index (F.args_list_index_2 _ _) (SeqAt.list_indexAt p its.toArray n none sl w (alike its ds dx) j (by simpa using hj') (by omega) ?_ ?_) ⟨e, fun y hy => ?_, ?_⟩
  · rw [List.getElem_toArray, alike_at rb cs (List.getElem?_eq_getElem hj') hj]
    exact ed
  · intro m hm hmj
    have hm' : m < its.length := by simpa using hm
    obtain ⟨d', _, ed', _⟩ := reads_get rb (List.getElem?_eq_getElem hm')
    rw [List.getElem_toArray, alike_at rb cs (List.getElem?_eq_getElem hm') ed']
    exact hno m d' hmj ed'
  · have hy : y ∈ its := by simpa using hy
    obtain ⟨m, hm, em⟩ := List.mem_iff_getElem.mp hy
    have ej : its[m]? = some y := by rw [List.getElem?_eq_getElem hm, em]
    obtain ⟨d', _, ed', rd⟩ := reads_get rb ej
    rw [alike_at rb cs ej ed']
    exact SeqAt.eqAt_reads d' dx _ s y w _ _ rd ra (lay_get cs ed') cx (by show X.A.units + 1 + _ < cLine; omega)
  · exact ⟨.int j, H, I.tok _, ⟨_, rfl⟩, q⟩
end
end L2
namespace L2
open PySem PySem.Spec PyProof.Rows
section
variable {X : Cx}
end
section
variable {X : Cx} {K : PySem.W.Frag} {u : Nat}
theorem op_neDK (h : X.K = K) (hu : X.A.units + u < cLine) : OpR X (compareOp .NotEq) (rEqD K u true) := h ▸ op_neD hu
end
theorem hu64 {A : Around} {k : Nat} (hr : Room k A) : A.units + 64 < cLine := hr.units
theorem hu63 {A : Around} {k : Nat} (hr : Room k A) : A.units + 1 + 63 < cLine := by have := hr.units; omega
theorem hu61 {A : Around} {k : Nat} (hr : Room k A) : A.units + 3 + 61 < cLine := by have := hr.units; omega
section
variable {X : Cx}
end
end L2
namespace L2
open PySem PySem.Spec PyProof.Rows
section
variable {X : Cx}
end
end L2
namespace L2
open PySem PySem.Spec PyProof.Rows
section
variable {X : Cx} {tg : Expr}
end
end L2
namespace L2
open PySem PySem.Spec PyProof.Rows
section
variable {P : Program} {w : World} {A : Around} {E : Value → Shared → Prop} {s : Shared}
end
end L2
namespace L2
open PySem PySem.Spec PyProof.Rows
section
variable {X : Cx}
end
end L2
namespace L2
open PySem PySem.Spec PyProof.Rows
end L2
namespace L2
open PySem PySem.Spec PyProof.Rows
section
variable {X : Cx}
end
end L2
namespace L2
open PySem PySem.Spec PyProof.Rows
section
variable {X : Cx}
end
section
variable {X : Cx}
end
end L2
set_option maxHeartbeats 4000000
namespace Srt
open PySem PySem.W PyProof.Rows
def Ok {α : Type} (n : Nat) (lt : Nat → Nat → Bool) (P : α → Prop) : KasT α → Prop
  | .ret a => P a
  | .ask i j k => i < n ∧ j < n ∧ Ok n lt P (k (lt i j))
section
variable {α β : Type} {n : Nat} {lt : Nat → Nat → Bool}
theorem Ok.mono {P R : α → Prop} (h : ∀ a, P a → R a) : ∀ {t : KasT α}, Ok n lt P t → Ok n lt R t
  | .ret _, q => h _ q
  | .ask _ _ _, q => ⟨q.1, q.2.1, Ok.mono h q.2.2⟩
theorem Ok.bind {R : β → Prop} {f : α → KasT β} : ∀ {t : KasT α}, Ok n lt (fun a => Ok n lt R (f a)) t → Ok n lt R (t.bind f)
  | .ret _, q => q
  | .ask _ _ k, q => ⟨q.1, q.2.1, Ok.bind (t := k _) q.2.2⟩
theorem Ok.wp {P : α → Prop} {cmp : Nat → Nat → (Bool → Shared → Prop) → Shared → Prop} {s : Shared} {Q : α → Shared → Prop} (hc : ∀ i j C, i < n → j < n → C (lt i j) s → cmp i j C s) (hq : ∀ a, P a → Q a s) :
    ∀ {t : KasT α}, Ok n lt P t → t.kasWp cmp Q s
  | .ret _, q => hq _ q
  | .ask i j k, q => hc i j _ q.1 q.2.1 (Ok.wp hc hq (t := k _) q.2.2)
end
structure Swo (lt : Nat → Nat → Bool) : Prop where
  irr : ∀ a, lt a a = false
  tr : ∀ a b c, lt a b = true → lt b c = true → lt a c = true
  nt : ∀ a b c, lt a c = true → lt a b = true ∨ lt b c = true
section
variable {n : Nat} {lt : Nat → Nat → Bool} (W : Swo lt)
include W
theorem Swo.le_of_lt {a b : Nat} (h : lt a b = true) : lt b a = false := by
  cases e : lt b a with
  | false => rfl
  | true => rw [← W.irr a, ← W.tr a b a h e]
theorem Swo.le_tr {a b c : Nat} (h1 : lt b a = false) (h2 : lt c b = false) : lt c a = false := by
  cases e : lt c a with
  | false => rfl
  | true => rcases W.nt c b a e with q | q
            · rw [q] at h2; cases h2
            · rw [q] at h1; cases h1
theorem Swo.lt_le {a b c : Nat} (h1 : lt a b = true) (h2 : lt c b = false) : lt a c = true := by
  rcases W.nt a c b h1 with q | q
  · exact q
  · rw [q] at h2; cases h2
end
abbrev g (p : Array Nat) (i : Nat) : Nat := p.getD i 0
def Up (lt : Nat → Nat → Bool) (p : Array Nat) (n : Nat) : Prop := ∀ i j, i ≤ j → j < n → lt (g p j) (g p i) = false
def Dn (lt : Nat → Nat → Bool) (p : Array Nat) (n : Nat) : Prop := ∀ i j, i ≤ j → j < n → lt (g p i) (g p j) = false
def Bd (n : Nat) (p : Array Nat) : Prop := p.size = n ∧ ∀ i, g p i < n
theorem g_of {p q : Array Nat} {i j : Nat} (h : p[i]? = q[j]?) : g p i = g q j := by
  unfold g
  rw [Array.getD_eq_getD_getElem?, Array.getD_eq_getD_getElem?, h]
theorem bd_perm {n : Nat} {p q : Array Nat} (hn : 0 < n) (h : q.Perm p) (b : Bd n p) : Bd n q := by
  refine ⟨by rw [h.size_eq]; exact b.1, fun i => ?_⟩
  unfold g
  rw [Array.getD_eq_getD_getElem?]
  cases e : q[i]? with
  | none => exact hn
  | some x =>
    have hx : x ∈ q := Array.mem_of_getElem? e
    have hx2 : x ∈ p := (h.mem_iff).mp hx
    obtain ⟨j, hj, ej⟩ := Array.mem_iff_getElem.mp hx2
    have := b.2 j
    unfold g at this
    rw [Array.getD_eq_getD_getElem?, Array.getElem?_eq_getElem hj, ej] at this
    exact this
section
variable {n : Nat} {lt : Nat → Nat → Bool} (W : Swo lt) (hn : 0 < n)
theorem up_more {p : Array Nat} {k : Nat} (W : Swo lt) (h0 : 1 ≤ k) (h : Up lt p k) (hk : lt (g p k) (g p (k - 1)) = false) : Up lt p (k + 1) := by
  intro i j hij hj
  by_cases e : j = k
  · subst e
    by_cases e2 : i = j
    · subst e2; exact W.irr _
    · exact W.le_tr (h i (j - 1) (by omega) (by omega)) hk
  · exact h i j hij (by omega)
theorem dn_more {p : Array Nat} {k : Nat} (W : Swo lt) (h0 : 1 ≤ k) (h : Dn lt p k) (hk : lt (g p (k - 1)) (g p k) = false) : Dn lt p (k + 1) := by
  intro i j hij hj
  by_cases e : j = k
  · subst e
    by_cases e2 : i = j
    · subst e2; exact W.irr _
    · exact W.le_tr hk (h i (j - 1) (by omega) (by omega))
  · exact h i j hij (by omega)
theorem asc_ok (W : Swo lt) {p : Array Nat} (b : Bd n p) : ∀ (f k : Nat), 1 ≤ k → Up lt p k → Ok n lt (fun m => k ≤ m ∧ m ≤ k + f ∧ Up lt p m ∧ (m < k + f → lt (g p m) (g p (m - 1)) = true)) (kas_asc p f k)
  | 0, k, _, h => ⟨Nat.le_refl _, Nat.le_refl _, h, fun z => absurd z (by simp)⟩
  | f + 1, k, h0, h => by
    refine ⟨b.2 _, b.2 _, ?_⟩
    cases e : lt (p.getD k 0) (p.getD (k - 1) 0) with
    | true =>
      show Ok n lt _ (if true = true then _ else _)
      rw [if_pos rfl]
      exact ⟨Nat.le_refl _, Nat.le_add_right _ _, h, fun _ => e⟩
    | false =>
      show Ok n lt _ (if false = true then _ else _)
      rw [if_neg (by decide)]
      exact (asc_ok W b f (k + 1) (by omega) (up_more W h0 h e)).mono fun m hm => ⟨by omega, by omega, hm.2.2.1, fun z => hm.2.2.2 (by omega)⟩
theorem rev_like {p : Array Nat} {i j : Nat} (W : Swo lt) (hj : j ≤ p.size) (he : ∀ k, i ≤ k → k < j → lt (g p k) (g p (j - 1)) = false ∧ lt (g p (j - 1)) (g p k) = false) (k : Nat) :
    lt (g (kas_rev p i j) k) (g p k) = false ∧ lt (g p k) (g (kas_rev p i j) k) = false := by
  have e := getElem?_mirror_all (i := i) hj k
  by_cases h : i ≤ k ∧ k < j
  · rw [if_pos h] at e
    have e' : g (kas_rev p i j) k = g p (i + j - 1 - k) := g_of e
    rw [e']
    have a := he (i + j - 1 - k) (by omega) (by omega)
    have c := he k h.1 h.2
    exact ⟨W.le_tr c.2 a.1, W.le_tr a.2 c.1⟩
  · rw [if_neg h] at e
    have e' : g (kas_rev p i j) k = g p k := g_of e
    rw [e']
    exact ⟨W.irr _, W.irr _⟩
theorem dn_like {p q : Array Nat} {k : Nat} (W : Swo lt) (hl : ∀ i, lt (g q i) (g p i) = false ∧ lt (g p i) (g q i) = false) (h : Dn lt p k) : Dn lt q k := fun i j hij hj =>
  W.le_tr (W.le_tr (hl j).2 (h i j hij hj)) (hl i).1
theorem rev_up {p : Array Nat} {k : Nat} (hk : k ≤ p.size) (h : Dn lt p k) : Up lt (kas_rev p 0 k) k := by
  intro i j hij hj
  have e1 := getElem?_mirror_all (i := 0) hk i
  have e2 := getElem?_mirror_all (i := 0) hk j
  rw [if_pos ⟨Nat.zero_le _, by omega⟩] at e1 e2
  have e1' : g (kas_rev p 0 k) i = g p (0 + k - 1 - i) := g_of e1
  have e2' : g (kas_rev p 0 k) j = g p (0 + k - 1 - j) := g_of e2
  rw [e1', e2']
  exact h _ _ (by omega) (by omega)
theorem rev_perm (p : Array Nat) (i j : Nat) : (kas_rev p i j).Perm p := mirror_perm p i j _
def Like (lt : Nat → Nat → Bool) (p : Array Nat) (k q : Nat) : Prop := q + 1 ≤ k ∧ ∀ m, k - (q + 1) ≤ m → m < k → lt (g p m) (g p (k - 1)) = false ∧ lt (g p (k - 1)) (g p m) = false
theorem like0 {p : Array Nat} {k : Nat} (W : Swo lt) (h : 1 ≤ k) : Like lt p k 0 := ⟨by omega, fun m h1 h2 => by
  have : m = k - 1 := by omega
  subst this
  exact ⟨W.irr _, W.irr _⟩⟩
theorem desc_ok (W : Swo lt) (hn : 0 < n) : ∀ (f : Nat) (p : Array Nat) (k q : Nat), Bd n p → 1 ≤ k → k + f ≤ n → Dn lt p k → Like lt p k q →
    Ok n lt (fun r => r.1.Perm p ∧ k ≤ r.2.1 ∧ r.2.1 ≤ k + f ∧ Dn lt r.1 r.2.1 ∧ Like lt r.1 r.2.1 r.2.2) (kas_desc f p k q)
  | 0, p, k, q, _, _, _, hd, hl => ⟨.refl _, Nat.le_refl _, Nat.le_refl _, hd, hl⟩
  | f + 1, p, k, q, b, h0, hf, hd, hl => by
    refine ⟨b.2 _, b.2 _, ?_⟩
    cases e : lt (p.getD k 0) (p.getD (k - 1) 0) with
    | true =>
      show Ok n lt _ (if true = true then _ else _)
      rw [if_pos rfl]
      by_cases hq : q > 0
      · rw [if_pos hq]
        have hk : k ≤ p.size := by rw [b.1]; omega
        have lk := rev_like W hk hl.2
        have pm := rev_perm p (k - (q + 1)) k
        have ek : g (kas_rev p (k - (q + 1)) k) k = g p k := g_of (by
          have := getElem?_mirror_all (i := k - (q + 1)) hk k
          rw [if_neg (by omega)] at this
          exact this)
        have d1 : Dn lt (kas_rev p (k - (q + 1)) k) (k + 1) := dn_more W h0 (dn_like W lk hd) (by
          rw [ek]
          exact W.le_tr (W.le_of_lt e) (lk (k - 1)).1)
        exact (desc_ok W hn f _ (k + 1) 0 (bd_perm hn pm b) (by omega) (by omega) d1 (like0 W (by omega))).mono fun r hr => ⟨hr.1.trans pm, by omega, by omega, hr.2.2.2⟩
      · rw [if_neg hq]
        exact (desc_ok W hn f p (k + 1) 0 b (by omega) (by omega) (dn_more W h0 hd (W.le_of_lt e)) (like0 W (by omega))).mono fun r hr => ⟨hr.1, by omega, by omega, hr.2.2.2⟩
    | false =>
      show Ok n lt _ (if false = true then _ else _)
      rw [if_neg (by decide)]
      refine ⟨b.2 _, b.2 _, ?_⟩
      cases e2 : lt (p.getD (k - 1) 0) (p.getD k 0) with
      | true =>
        show Ok n lt _ (if true = true then _ else _)
        rw [if_pos rfl]
        exact ⟨.refl _, Nat.le_refl _, Nat.le_add_right _ _, hd, hl⟩
      | false =>
        show Ok n lt _ (if false = true then _ else _)
        rw [if_neg (by decide)]
        refine (desc_ok W hn f p (k + 1) (q + 1) b (by omega) (by omega) (dn_more W h0 hd e2) ⟨by have := hl.1; omega, fun m h1 h2 => ?_⟩).mono fun r hr => ⟨hr.1, by omega, by omega, hr.2.2.2⟩
        show lt (g p m) (g p k) = false ∧ lt (g p k) (g p m) = false
        by_cases em : m = k
        · subst em; exact ⟨W.irr _, W.irr _⟩
        · have := hl.2 m (by omega) (by omega)
          exact ⟨W.le_tr e2 this.1, W.le_tr this.2 e⟩
theorem tail3_ok (W : Swo lt) (hn : 0 < n) {p : Array Nat} {k : Nat} (b : Bd n p) (h1 : 1 ≤ k) (hk : k ≤ n) (hd : Dn lt p k) : Ok n lt (fun r => 1 ≤ r.1 ∧ r.1 ≤ n ∧ r.2.Perm p ∧ Up lt r.2 r.1) (kas_tail3 k n p) := by
  unfold kas_tail3
  have pm := rev_perm p 0 k
  refine Ok.bind ((asc_ok W (bd_perm hn pm b) (n - k) k h1 (rev_up (by rw [b.1]; exact hk) hd)).mono fun m hm => ?_)
  exact ⟨by omega, by omega, pm, hm.2.2.1⟩
theorem descPart_ok (W : Swo lt) (hn : 0 < n) {p : Array Nat} {k : Nat} (b : Bd n p) (h1 : 1 ≤ k) (hk : k + 1 ≤ n) (hd : Dn lt p (k + 1)) : Ok n lt (fun r => 1 ≤ r.1 ∧ r.1 ≤ n ∧ r.2.Perm p ∧ Up lt r.2 r.1) (kas_descPart k n p) := by
  unfold kas_descPart
  refine Ok.bind ((desc_ok W hn (n - (k + 1)) p (k + 1) 0 b (by omega) (by omega) hd (like0 W (by omega))).mono fun r hr => ?_)
  obtain ⟨pm, a1, a2, dn, lk⟩ := hr
  have br := bd_perm hn pm b
  split
  · have hk' : r.2.1 ≤ r.1.size := by rw [br.1]; omega
    have pm2 := rev_perm r.1 (r.2.1 - (r.2.2 + 1)) r.2.1
    exact (tail3_ok W hn (bd_perm hn pm2 br) (by omega) (by omega) (dn_like W (rev_like W hk' lk.2) dn)).mono fun x hx => ⟨hx.1, hx.2.1, (hx.2.2.1.trans pm2).trans pm, hx.2.2.2⟩
  · exact (tail3_ok W hn br (by omega) (by omega) dn).mono fun x hx => ⟨hx.1, hx.2.1, hx.2.2.1.trans pm, hx.2.2.2⟩
theorem dn_of_like {p : Array Nat} {k : Nat} (W : Swo lt) (h : Up lt p k) (h0 : lt (g p 0) (g p (k - 1)) = false) : Dn lt p k := fun i j hij hj => by
  have a := h 0 i (by omega) (by omega)
  have c := h j (k - 1) (by omega) (by omega)
  exact W.le_tr (W.le_tr c h0) a
theorem count_ok (W : Swo lt) (hn : 0 < n) {p : Array Nat} (b : Bd n p) : Ok n lt (fun r => 1 ≤ r.1 ∧ r.1 ≤ n ∧ r.2.Perm p ∧ Up lt r.2 r.1) (kas_count n p) := by
  unfold kas_count
  have u1 : Up lt p 1 := fun i j hij hj => by
    have : i = j := by omega
    subst this
    exact W.irr _
  refine Ok.bind ((asc_ok W b (n - 1) 1 (by omega) u1).mono fun k hk => ?_)
  obtain ⟨h1, h2, up, h3⟩ := hk
  by_cases e : (k == n) = true
  · rw [if_pos e]
    exact ⟨h1, by omega, .refl _, up⟩
  · rw [if_neg e]
    have hne : k ≠ n := fun z => e (by rw [z]; simp)
    have hlt := h3 (by omega)
    by_cases hk1 : k > 1
    · rw [if_pos hk1]
      refine ⟨b.2 _, b.2 _, ?_⟩
      cases e2 : lt (p.getD 0 0) (p.getD (k - 1) 0) with
      | true =>
        show Ok n lt _ (if true = true then _ else _)
        rw [if_pos rfl]
        exact ⟨h1, by show k ≤ n; omega, .refl _, up⟩
      | false =>
        show Ok n lt _ (if false = true then _ else _)
        rw [if_neg (by decide)]
        have hks : k ≤ p.size := by rw [b.1]; omega
        have dn := dn_of_like W up e2
        have pm := rev_perm p 0 k
        have lk := rev_like (i := 0) W hks fun m _ hm => ⟨dn m (k - 1) (by omega) (by omega) |> fun z => z, up m (k - 1) (by omega) (by omega)⟩
        have ek : g (kas_rev p 0 k) k = g p k := g_of (by
          have := getElem?_mirror_all (i := 0) hks k
          rw [if_neg (by omega)] at this
          exact this)
        have d1 : Dn lt (kas_rev p 0 k) (k + 1) := dn_more W h1 (dn_like W lk dn) (by
          rw [ek]
          exact W.le_tr (W.le_of_lt hlt) (lk (k - 1)).1)
        exact (descPart_ok W hn (bd_perm hn pm b) h1 (by omega) d1).mono fun r hr => ⟨hr.1, hr.2.1, hr.2.2.1.trans pm, hr.2.2.2⟩
    · rw [if_neg hk1]
      have : k = 1 := by omega
      subst this
      have d1 : Dn lt p 1 := fun i j hij hj => by
        have : i = j := by omega
        subst this
        exact W.irr _
      exact descPart_ok W hn b h1 (by omega) (dn_more W h1 d1 (W.le_of_lt hlt))
theorem place_ok (W : Swo lt) {p : Array Nat} {k : Nat} (b : Bd n p) (up : Up lt p k) : ∀ (f l r : Nat), l ≤ r → r ≤ k → r - l ≤ f → (∀ i, i < l → lt (g p k) (g p i) = false) → (∀ i, r ≤ i → i < k → lt (g p k) (g p i) = true) →
    Ok n lt (fun m => m ≤ k ∧ (∀ i, i < m → lt (g p k) (g p i) = false) ∧ ∀ i, m ≤ i → i < k → lt (g p k) (g p i) = true) (kas_place p k f l r)
  | 0, l, r, h1, h2, h3, hl, hr => ⟨by omega, hl, fun i hi hk => hr i (by omega) hk⟩
  | f + 1, l, r, h1, h2, h3, hl, hr => by
    unfold kas_place
    by_cases e : l ≥ r
    · rw [if_pos e]
      exact ⟨by omega, hl, fun i hi hk => hr i (by omega) hk⟩
    · rw [if_neg e]
      refine ⟨b.2 _, b.2 _, ?_⟩
      cases e2 : lt (p.getD k 0) (p.getD ((l + r) / 2) 0) with
      | true =>
        show Ok n lt _ (if true = true then _ else _)
        rw [if_pos rfl]
        exact place_ok W b up f l ((l + r) / 2) (by omega) (by omega) (by omega) hl fun i hi hk => W.lt_le e2 (up _ i hi hk)
      | false =>
        show Ok n lt _ (if false = true then _ else _)
        rw [if_neg (by decide)]
        exact place_ok W b up f ((l + r) / 2 + 1) r (by omega) h2 (by omega) (fun i hi => W.le_tr (up i ((l + r) / 2) (by omega) (by omega)) e2) hr
theorem bin_ok (W : Swo lt) (hn : 0 < n) : ∀ (f : Nat) (p : Array Nat) (k : Nat), Bd n p → k + f = n → Up lt p k → Ok n lt (fun q => q.Perm p ∧ Up lt q n) (kas_bin f p k)
  | 0, p, k, _, hk, up => ⟨.refl _, by rw [← hk]; exact up⟩
  | f + 1, p, k, b, hk, up => by
    unfold kas_bin
    refine Ok.bind ((place_ok W b up k 0 k (Nat.zero_le _) (Nat.le_refl _) (by omega) (fun i hi => absurd hi (by omega)) fun i h1 h2 => absurd h2 (by omega)).mono fun l hl => ?_)
    obtain ⟨l1, l2, l3⟩ := hl
    have pm := bubble_perm p k (k - l)
    have hs : k < p.size := by rw [b.1]; omega
    have at' : ∀ i, g (bubble p k (k - l)) i = if i = l then g p k else if l < i ∧ i ≤ k then g p (i - 1) else g p i := fun i => by
      have e := getElem?_bubble hs (k - l) (by omega) i
      rw [show k - (k - l) = l by omega] at e
      by_cases h1 : i = l
      · rw [if_pos h1] at e ⊢; exact g_of e
      · rw [if_neg h1] at e ⊢
        by_cases h2 : l < i ∧ i ≤ k
        · rw [if_pos h2] at e ⊢; exact g_of e
        · rw [if_neg h2] at e ⊢; exact g_of e
    have up2 : Up lt (bubble p k (k - l)) (k + 1) := by
      intro i j hij hj
      rw [at' i, at' j]
      by_cases i1 : i = l
      · rw [if_pos i1]
        by_cases j1 : j = l
        · rw [if_pos j1]; exact W.irr _
        · rw [if_neg j1, if_pos ⟨by omega, by omega⟩]
          exact W.le_of_lt (l3 (j - 1) (by omega) (by omega))
      · rw [if_neg i1]
        by_cases i2 : l < i ∧ i ≤ k
        · rw [if_pos i2, if_neg (by omega), if_pos ⟨by omega, by omega⟩]
          exact up _ _ (by omega) (by omega)
        · rw [if_neg i2]
          by_cases j1 : j = l
          · rw [if_pos j1]; exact l2 i (by omega)
          · rw [if_neg j1]
            by_cases j2 : l < j ∧ j ≤ k
            · rw [if_pos j2]; exact up _ _ (by omega) (by omega)
            · rw [if_neg j2]; exact up _ _ (by omega) (by omega)
    exact (bin_ok W hn f _ (k + 1) (bd_perm hn pm b) (by omega) up2).mono fun q hq => ⟨hq.1.trans pm, hq.2⟩
theorem sort_ok (W : Swo lt) (hn : 0 < n) : Ok n lt (fun q => q.Perm (List.toArray (List.range n)) ∧ Up lt q n) (kas_sort n) := by
  unfold kas_sort
  have b : Bd n (List.toArray (List.range n)) := by
    refine ⟨by simp, fun i => ?_⟩
    unfold g
    rw [Array.getD_eq_getD_getElem?]
    by_cases h : i < n
    · simp [h]
    · simp [h, hn]
  refine Ok.bind ((count_ok W hn b).mono fun r hr => ?_)
  obtain ⟨h1, h2, pm, up⟩ := hr
  split
  · rename_i hlt
    have e : max r.1 1 = r.1 := by omega
    rw [e]
    exact (bin_ok W hn _ _ _ (bd_perm hn pm b) (by omega) up).mono fun q hq => ⟨hq.1.trans pm, hq.2⟩
  · have e : r.1 = n := by omega
    exact ⟨pm, by rw [← e]; exact up⟩
end
end Srt
namespace L2
open PySem PySem.Spec PyProof.Rows
mutual
inductive DT (H : Hp) : V → PyData → Prop
  | non : DT H .non .none
  | bl (b : Bool) : DT H (.bl b) (.bool b)
  | int (i : Int) : DT H (.int i) (.int i)
  | str (z : Str) : DT H (.str z) (.str z)
  | tup {p : Addr} {xs : List V} {ds : List PyData} : H p = some (.tup xs) → DTs H xs ds → DT H (.ref p) (.tuple ds)
inductive DTs (H : Hp) : List V → List PyData → Prop
  | nil : DTs H [] []
  | cons {x : V} {xs : List V} {d : PyData} {ds : List PyData} : DT H x d → DTs H xs ds → DTs H (x :: xs) (d :: ds)
end
mutual
theorem DT.dv {K : PySem.W.Frag} {H : Hp} : ∀ {x : V} {d : PyData}, DT H x d → DV K H x d
  | _, _, .non => .non
  | _, _, .bl b => .bl b
  | _, _, .int i => .int i
  | _, _, .str z => .str z
  | _, _, .tup h t => .tup (SqT.of h) (DTs.dv t)
theorem DTs.dv {K : PySem.W.Frag} {H : Hp} : ∀ {xs : List V} {ds : List PyData}, DTs H xs ds → DVs K H xs ds
  | _, _, .nil => .nil
  | _, _, .cons h t => .cons (DT.dv h) (DTs.dv t)
end
section
variable {H : Hp}
end
theorem tup_ne {H : Hp} {a b : Addr} {xs : List V} {o : HO} (ha : H a = some (.tup xs)) (hb : H b = some o) (ho : ∀ ys, o ≠ .tup ys) : a ≠ b := fun e => by
  subst e
  rw [ha] at hb
  exact ho xs (Option.some.inj hb).symm
theorem lays_all : ∀ {xs : List PyData}, (∀ x ∈ xs, x.canLay0 = true) → PyData.canLayAll0 xs = true
  | [], _ => rfl
  | x :: xs, h => by
    show (x.canLay0 && PyData.canLayAll0 xs) = true
    rw [h x List.mem_cons_self, lays_all fun y hy => h y (List.mem_cons_of_mem _ hy)]
    rfl
theorem nd_add {α : Type} {l : List α} {x : α} (h : l.Nodup) (hx : x ∉ l) : (l ++ [x]).Nodup :=
  List.nodup_append.mpr ⟨h, List.nodup_cons.mpr ⟨fun z => (List.not_mem_nil z).elim, List.nodup_nil⟩, fun a ha b hb e => hx (by rw [List.mem_singleton.mp hb] at e; rw [← e]; exact ha)⟩
end L2
set_option maxHeartbeats 4000000
namespace L2
open PySem PySem.Spec PyProof.Rows
mutual
def sk : PyData → PyData → Bool
  | .none, .none => true
  | .bool _, .bool _ => true
  | .int _, .int _ => true
  | .str _, .str _ => true
  | .tuple xs, .tuple ys => sks xs ys
  | _, _ => false
def sks : List PyData → List PyData → Bool
  | [], _ => true
  | _ :: _, [] => true
  | x :: xs, y :: ys => sk x y && sks xs ys
end
mutual
def ltD : PyData → PyData → Bool
  | .bool a, .bool b => !a && b
  | .int i, .int j => decide (i < j)
  | .str x, .str y => decide (x.cps.toList < y.cps.toList)
  | .tuple xs, .tuple ys => ltDs xs ys
  | _, _ => false
def ltDs : List PyData → List PyData → Bool
  | [], [] => false
  | [], _ :: _ => true
  | _ :: _, [] => false
  | x :: xs, y :: ys => if PyData.eqv x y = true then ltDs xs ys else ltD x y
end
mutual
theorem sk_eq : ∀ (a b : PyData), sk a b = true → (PyData.eqv a b = true ↔ a = b)
  | .tuple xs, b, h => by
    cases b with
    | tuple ys => simp only [PyData.eqv, PyData.tuple.injEq]; exact sks_eq xs ys (by simpa [sk] using h)
    | _ => simp [sk] at h
  | .none, b, h => by cases b <;> simp_all [sk, PyData.eqv]
  | .bool _, b, h => by cases b <;> simp_all [sk, PyData.eqv]
  | .int _, b, h => by cases b <;> simp_all [sk, PyData.eqv]
  | .str _, b, h => by cases b <;> simp_all [sk, PyData.eqv]
  | .list _, b, h => by cases b <;> simp [sk] at h
  | .dict _, b, h => by cases b <;> simp [sk] at h
theorem sks_eq : ∀ (xs ys : List PyData), sks xs ys = true → (PyData.eqvAll xs ys = true ↔ xs = ys)
  | [], ys, _ => by cases ys <;> simp [PyData.eqvAll]
  | x :: xs, [], _ => by simp [PyData.eqvAll]
  | x :: xs, y :: ys, h => by
    rw [sks, Bool.and_eq_true] at h
    simp only [PyData.eqvAll, Bool.and_eq_true, sk_eq x y h.1, sks_eq xs ys h.2, List.cons.injEq]
end
theorem str_ext {x y : Str} (h : x.cps.toList = y.cps.toList) : x = y := by
  obtain ⟨a⟩ := x
  obtain ⟨b⟩ := y
  exact congrArg Str.mk (Array.ext' h)
mutual
theorem ltD_irr : ∀ a : PyData, ltD a a = false
  | .tuple xs => by rw [ltD]; exact ltDs_irr xs
  | .none => rfl
  | .bool b => by cases b <;> rfl
  | .int i => by simp [ltD]
  | .str x => by simp [ltD, List.lt_irrefl]
  | .list _ => rfl
  | .dict _ => rfl
theorem ltDs_irr : ∀ xs : List PyData, ltDs xs xs = false
  | [] => rfl
  | x :: xs => by
    rw [ltDs, ltDs_irr xs, ltD_irr x]
    split <;> rfl
end
mutual
theorem ltD_tot : ∀ (a b : PyData), sk a b = true → ltD a b = false → ltD b a = false → a = b
  | .tuple xs, b, h, h1, h2 => by
    cases b with
    | tuple ys => exact congrArg PyData.tuple (ltDs_tot xs ys (by simpa [sk] using h) (by simpa [ltD] using h1) (by simpa [ltD] using h2))
    | _ => simp [sk] at h
  | .none, b, h, _, _ => by cases b <;> simp_all [sk]
  | .bool a, b, h, h1, h2 => by
    cases b with
    | bool c => cases a <;> cases c <;> simp_all [ltD]
    | _ => simp [sk] at h
  | .int i, b, h, h1, h2 => by
    cases b with
    | int j => simp only [ltD, decide_eq_false_iff_not] at h1 h2; exact congrArg _ (by omega)
    | _ => simp [sk] at h
  | .str x, b, h, h1, h2 => by
    cases b with
    | str y =>
      simp only [ltD, decide_eq_false_iff_not] at h1 h2
      exact congrArg _ (str_ext (List.le_antisymm (List.not_lt.mp h2) (List.not_lt.mp h1)))
    | _ => simp [sk] at h
  | .list _, b, h, _, _ => by cases b <;> simp [sk] at h
  | .dict _, b, h, _, _ => by cases b <;> simp [sk] at h
theorem ltDs_tot : ∀ (xs ys : List PyData), sks xs ys = true → ltDs xs ys = false → ltDs ys xs = false → xs = ys
  | [], [], _, _, _ => rfl
  | [], _ :: _, _, h, _ => by simp [ltDs] at h
  | _ :: _, [], _, _, h => by simp [ltDs] at h
  | x :: xs, y :: ys, h, h1, h2 => by
    rw [sks, Bool.and_eq_true] at h
    by_cases e : x = y
    · subst e
      have ex : PyData.eqv x x = true := (sk_eq x x h.1).mpr rfl
      rw [ltDs, if_pos ex] at h1 h2
      rw [ltDs_tot xs ys h.2 h1 h2]
    · have e1 : ¬ PyData.eqv x y = true := fun z => e ((sk_eq x y h.1).mp z)
      have hs : sk y x = true := sk_symm x y h.1
      have e2 : ¬ PyData.eqv y x = true := fun z => e ((sk_eq y x hs).mp z).symm
      rw [ltDs, if_neg e1] at h1
      rw [ltDs, if_neg e2] at h2
      exact absurd (ltD_tot x y h.1 h1 h2) e
theorem sk_symm : ∀ (a b : PyData), sk a b = true → sk b a = true
  | .tuple xs, b, h => by
    cases b with
    | tuple ys => rw [sk]; exact sks_symm xs ys (by simpa [sk] using h)
    | _ => simp [sk] at h
  | .none, b, h => by cases b <;> simp_all [sk]
  | .bool _, b, h => by cases b <;> simp_all [sk]
  | .int _, b, h => by cases b <;> simp_all [sk]
  | .str _, b, h => by cases b <;> simp_all [sk]
  | .list _, b, h => by cases b <;> simp [sk] at h
  | .dict _, b, h => by cases b <;> simp [sk] at h
theorem sks_symm : ∀ (xs ys : List PyData), sks xs ys = true → sks ys xs = true
  | [], [], _ => rfl
  | [], _ :: _, _ => rfl
  | _ :: _, [], _ => rfl
  | x :: xs, y :: ys, h => by
    rw [sks, Bool.and_eq_true] at h ⊢
    exact ⟨sk_symm x y h.1, sks_symm xs ys h.2⟩
end
mutual
theorem ltD_tr : ∀ (a b c : PyData), sk a b = true → sk b c = true → sk a c = true → ltD a b = true → ltD b c = true → ltD a c = true
  | .tuple xs, b, c, h1, h2, h3, l1, l2 => by
    cases b with
    | tuple ys =>
      cases c with
      | tuple zs => rw [ltD]; exact ltDs_tr xs ys zs (by simpa [sk] using h1) (by simpa [sk] using h2) (by simpa [sk] using h3) (by simpa [ltD] using l1) (by simpa [ltD] using l2)
      | _ => simp [sk] at h3
    | _ => simp [sk] at h1
  | .none, b, c, _, _, _, l1, _ => by cases b <;> simp [ltD] at l1
  | .bool a, b, c, h1, h2, h3, l1, l2 => by
    cases b with
    | bool y =>
      cases c with
      | bool z => cases a <;> cases y <;> cases z <;> simp_all [ltD]
      | _ => simp [sk] at h3
    | _ => simp [sk] at h1
  | .int i, b, c, h1, h2, h3, l1, l2 => by
    cases b with
    | int y =>
      cases c with
      | int z => simp only [ltD, decide_eq_true_eq] at *; omega
      | _ => simp [sk] at h3
    | _ => simp [sk] at h1
  | .str i, b, c, h1, h2, h3, l1, l2 => by
    cases b with
    | str y =>
      cases c with
      | str z => simp only [ltD, decide_eq_true_eq] at *; exact List.lt_trans l1 l2
      | _ => simp [sk] at h3
    | _ => simp [sk] at h1
  | .list _, b, c, _, _, _, l1, _ => by cases b <;> simp [ltD] at l1
  | .dict _, b, c, _, _, _, l1, _ => by cases b <;> simp [ltD] at l1
theorem ltDs_tr : ∀ (xs ys zs : List PyData), sks xs ys = true → sks ys zs = true → sks xs zs = true → ltDs xs ys = true → ltDs ys zs = true → ltDs xs zs = true
  | _, _, [], _, _, _, _, l2 => by
    rename_i ys _ _ _ _
    cases ys <;> simp [ltDs] at l2
  | [], _, _ :: _, _, _, _, _, _ => rfl
  | x :: xs, [], _ :: _, _, _, _, l1, _ => by simp [ltDs] at l1
  | x :: xs, y :: ys, z :: zs, h1, h2, h3, l1, l2 => by
    rw [sks, Bool.and_eq_true] at h1 h2 h3
    by_cases e1 : x = y
    · subst e1
      have q1 : PyData.eqv x x = true := (sk_eq x x h1.1).mpr rfl
      rw [ltDs, if_pos q1] at l1
      by_cases e2 : x = z
      · subst e2
        rw [ltDs, if_pos q1] at l2 ⊢
        exact ltDs_tr xs ys zs h1.2 h2.2 h3.2 l1 l2
      · have q2 : ¬ PyData.eqv x z = true := fun w => e2 ((sk_eq x z h3.1).mp w)
        rw [ltDs, if_neg q2] at l2 ⊢
        exact l2
    · have q1 : ¬ PyData.eqv x y = true := fun w => e1 ((sk_eq x y h1.1).mp w)
      rw [ltDs, if_neg q1] at l1
      by_cases e2 : y = z
      · subst e2
        rw [ltDs, if_neg q1]
        exact l1
      · have q2 : ¬ PyData.eqv y z = true := fun w => e2 ((sk_eq y z h2.1).mp w)
        rw [ltDs, if_neg q2] at l2
        have l3 := ltD_tr x y z h1.1 h2.1 h3.1 l1 l2
        have q3 : ¬ PyData.eqv x z = true := fun w => by
          have := (sk_eq x z h3.1).mp w
          subst this
          rw [ltD_irr] at l3
          cases l3
        rw [ltDs, if_neg q3]
        exact l3
end
mutual
theorem ltD_nt : ∀ (a b c : PyData), sk a b = true → sk b c = true → sk a c = true → ltD a c = true → ltD a b = true ∨ ltD b c = true
  | .tuple xs, b, c, h1, h2, h3, l => by
    cases b with
    | tuple ys =>
      cases c with
      | tuple zs => rw [ltD, ltD]; exact ltDs_nt xs ys zs (by simpa [sk] using h1) (by simpa [sk] using h2) (by simpa [sk] using h3) (by simpa [ltD] using l)
      | _ => simp [sk] at h3
    | _ => simp [sk] at h1
  | .none, b, c, _, _, _, l => by cases c <;> simp [ltD] at l
  | .bool a, b, c, h1, h2, h3, l => by
    cases b with
    | bool y =>
      cases c with
      | bool z => cases a <;> cases y <;> cases z <;> simp_all [ltD]
      | _ => simp [sk] at h3
    | _ => simp [sk] at h1
  | .int i, b, c, h1, h2, h3, l => by
    cases b with
    | int y =>
      cases c with
      | int z => simp only [ltD, decide_eq_true_eq] at *; omega
      | _ => simp [sk] at h3
    | _ => simp [sk] at h1
  | .str i, b, c, h1, h2, h3, l => by
    cases b with
    | str y =>
      cases c with
      | str z =>
        simp only [ltD, decide_eq_true_eq] at *
        by_cases hab : i.cps.toList < y.cps.toList
        · exact .inl hab
        · exact .inr (List.lt_of_le_of_lt (List.not_lt.mp hab) l)
      | _ => simp [sk] at h3
    | _ => simp [sk] at h1
  | .list _, b, c, _, _, _, l => by cases c <;> simp [ltD] at l
  | .dict _, b, c, _, _, _, l => by cases c <;> simp [ltD] at l
theorem ltDs_nt : ∀ (xs ys zs : List PyData), sks xs ys = true → sks ys zs = true → sks xs zs = true → ltDs xs zs = true → ltDs xs ys = true ∨ ltDs ys zs = true
  | xs, _, [], _, _, _, l => by cases xs <;> simp [ltDs] at l
  | [], [], _ :: _, _, _, _, _ => .inr rfl
  | [], _ :: _, _ :: _, _, _, _, _ => .inl rfl
  | x :: xs, [], _ :: _, _, _, _, _ => .inr rfl
  | x :: xs, y :: ys, z :: zs, h1, h2, h3, l => by
    rw [sks, Bool.and_eq_true] at h1 h2 h3
    by_cases e3 : x = z
    · subst e3
      have q3 : PyData.eqv x x = true := (sk_eq x x h3.1).mpr rfl
      rw [ltDs, if_pos q3] at l
      by_cases e1 : x = y
      · subst e1
        rw [ltDs, if_pos q3, ltDs, if_pos q3]
        exact ltDs_nt xs ys zs h1.2 h2.2 h3.2 l
      · have q1 : ¬ PyData.eqv x y = true := fun w => e1 ((sk_eq x y h1.1).mp w)
        have q2 : ¬ PyData.eqv y x = true := fun w => e1 ((sk_eq y x h2.1).mp w).symm
        rw [ltDs, if_neg q1, ltDs, if_neg q2]
        cases p1 : ltD x y with
        | true => exact .inl rfl
        | false =>
          cases p2 : ltD y x with
          | true => exact .inr rfl
          | false => exact absurd (ltD_tot x y h1.1 p1 p2) e1
    · have q3 : ¬ PyData.eqv x z = true := fun w => e3 ((sk_eq x z h3.1).mp w)
      rw [ltDs, if_neg q3] at l
      rcases ltD_nt x y z h1.1 h2.1 h3.1 l with p | p
      · left
        have q1 : ¬ PyData.eqv x y = true := fun w => by
          have := (sk_eq x y h1.1).mp w
          subst this
          rw [ltD_irr] at p
          cases p
        rw [ltDs, if_neg q1]
        exact p
      · right
        have q2 : ¬ PyData.eqv y z = true := fun w => by
          have := (sk_eq y z h2.1).mp w
          subst this
          rw [ltD_irr] at p
          cases p
        rw [ltDs, if_neg q2]
        exact p
end
end L2
set_option maxHeartbeats 4000000
namespace L2
open PySem PySem.Spec PyProof.Rows
def LtAt (A : Around) (s : Shared) (x y : Value) (b : Bool) : Prop := ∀ (prog : Program) (w : World) (E : Value → Shared → Prop) (Q : Value → Shared → Prop), Q (.bool b) s → wpAny (model prog w) A (richCompare .Lt x y) Q E s
open SeqAt in
theorem tuple_ltAt (l b : Addr) (us vs : Array Value) (n n2 : Nat) (dd dd2 : Option Addr) (sl sl2 : Array (Option Value)) (e : Nat → Bool) (c : Bool) :
    Meets (Builtin.«tuple.__lt__» ⟨[.ref l, .ref b], []⟩)
      (fun A R s => s.heap.get? l = some { cls := .type "tuple", dict := dd, data := .seq us n, slots := sl } ∧ s.heap.get? b = some { cls := .type "tuple", dict := dd2, data := .seq vs n2, slots := sl2 } ∧
        (∀ j (h1 : j < us.size) (h2 : j < vs.size), EqAt A.in1 s us[j] vs[j] (e j)) ∧
        (∀ i (h1 : i < us.size) (h2 : i < vs.size), (∀ j, j < i → e j = true) → e i = false → LtAt A.in1 s us[i] vs[i] c) ∧
        ((∀ j, j < min us.size vs.size → e j = true) → c = decide (us.size < vs.size)) ∧ R (.ok (.ret (.bool c))) s) :=
  .of_wp fun prog w A R s h => by
    obtain ⟨hp, g, d, tk, os⟩ := s
    obtain ⟨hl, hb, he, hlt, hall, h⟩ := h
    have f2 := AutoSeq1.sub_tuple_tuple
    have hZ : (us.toList.zip vs.toList).length = min us.size vs.size := by simp
    wp_walk using wpAny_loadPart' hl, wpAny_loadPart' hb, wpAny_forIn_list _ (fun rest b s' => b.1 = none ∧ s' = ⟨hp, g, d, tk, os⟩ ∧ ∃ i, rest = (us.toList.zip vs.toList).drop i ∧ ∀ j, j < i → e j = true) _
    case turn =>
      rintro ⟨y, x⟩ rest b s' ⟨hb', rfl, i, hz, hi⟩
      have hlt' : i < (us.toList.zip vs.toList).length := by
        rcases Nat.lt_or_ge i (us.toList.zip vs.toList).length with h' | h'
        · exact h'
        · rw [List.drop_of_length_le h'] at hz; cases hz
      have h1 : i < us.size := by omega
      have h2 : i < vs.size := by omega
      rw [List.drop_eq_getElem_cons hlt'] at hz
      injection hz with hyx hrest
      have hy : y = us[i] := by have := congrArg Prod.fst hyx; simpa using this
      have hx : x = vs[i] := by have := congrArg Prod.snd hyx; simpa using this
      subst hy hx
      refine wpAny_bind (he i h1 h2 prog w _ _ ?_)
      cases hy : e i with
      | true =>
        wp_walk
        exact ⟨rfl, rfl, i + 1, hrest, fun j hj => by
          by_cases z : j = i
          · rw [z]; exact hy
          · exact hi j (by omega)⟩
      | false =>
        have q := hlt i h1 h2 hi hy
        dsimp only
        rw [if_pos (by rfl)]
        refine wpAny_bind (wpAny_rule (wpAny_bind (q prog w _ _ ?_)))
        exact wpAny_bind (wpAny_pure (wpAny_pure (wpAny_pure ⟨_, rfl, h⟩)))
    case fin =>
      rintro ⟨b1, b2⟩ s' ⟨hb', rfl, i, hz, hi⟩
      simp only at hb'
      subst hb'
      have hge : min us.size vs.size ≤ i := by
        rcases Nat.lt_or_ge i (us.toList.zip vs.toList).length with h' | h'
        · rw [List.drop_eq_getElem_cons h'] at hz; cases hz
        · omega
      have := hall fun j hj => hi j (by omega)
      wp_walk
      exact ⟨_, rfl, by rw [this] at h; simpa [Builtin.Tuple.tupleCompareSizes] using h⟩
    case h =>
      exact ⟨rfl, rfl, 0, rfl, fun j hj => absurd hj (Nat.not_lt_zero _)⟩
theorem LtAt.tuples {A : Around} {s : Shared} {l b : Addr} {us vs : Array Value} {e : Nat → Bool} {c : Bool} (hl : s.heap.IsTuple l us) (hb : s.heap.IsTuple b vs) (hu : A.units < cLine)
    (he : ∀ j (h1 : j < us.size) (h2 : j < vs.size), SeqAt.EqAt A.in1 s us[j] vs[j] (e j)) (hlt : ∀ i (h1 : i < us.size) (h2 : i < vs.size), (∀ j, j < i → e j = true) → e i = false → LtAt A.in1 s us[i] vs[i] c)
    (hall : (∀ j, j < min us.size vs.size → e j = true) → c = decide (us.size < vs.size)) : LtAt A s (.ref l) (.ref b) c := fun prog w E Q h => by
  obtain ⟨⟨cls, dd, data, sl⟩, ho, hc, n, hd⟩ := id hl
  obtain ⟨⟨cls2, dd2, data2, sl2⟩, ho2, hc2, n2, hd2⟩ := id hb
  simp only at hc hd hc2 hd2
  subst hc hd hc2 hd2
  exact richCompare_meets_room (op := .Lt) ⟨_, ho, rfl⟩ ⟨_, ho2, rfl⟩ F.slot_tuple_lt F.entry_tuple_lt (F.args_tuple_lt_2 _ _) (tuple_ltAt l b us vs n n2 dd dd2 sl sl2 e c)
    ⟨ho, ho2, he, hlt, hall, show Value.bool c ≠ Value.notImplemented ∧ Q (.bool c) s from ⟨(fun x => nomatch x), h⟩⟩ hu
theorem LtAt.ints {A : Around} {s : Shared} (i j : Int) (t u : Tok) : LtAt A s (.int i t) (.int j u) (decide (i < j)) := fun prog w E Q h => PyProof.Rows.lt_int h
theorem LtAt.strs {A : Around} {s : Shared} (i j : Str) (t u : Tok) : LtAt A s (.str i t) (.str j u) (decide (i.cps.toList < j.cps.toList)) := fun prog w E Q h => PyProof.Rows.lt_str h
theorem LtAt.bools {A : Around} {s : Shared} (i j : Bool) : LtAt A s (.bool i) (.bool j) (!i && j) := fun prog w E Q h => by
  refine PyProof.Rows.lt_bool ?_
  cases i <;> cases j <;> exact h
open SeqAt in
theorem ltDs_at : ∀ (xs ys : List PyData) (i : Nat), i < xs.length → i < ys.length → (∀ j, j < i → pairEq xs ys j = true) → pairEq xs ys i = false → ltDs xs ys = ltD (xs.getD i .none) (ys.getD i .none)
  | x :: xs, y :: ys, 0, _, _, _, h => by
    have h' : PyData.eqv x y = false := h
    rw [ltDs, if_neg (by rw [h']; decide)]
    rfl
  | x :: xs, y :: ys, i + 1, h1, h2, hj, h => by
    have h' : PyData.eqv x y = true := hj 0 (by omega)
    rw [ltDs, if_pos h']
    exact ltDs_at xs ys i (by simpa using h1) (by simpa using h2) (fun j hlt => hj (j + 1) (by omega)) h
  | [], _, _, h1, _, _, _ => absurd h1 (Nat.not_lt_zero _)
  | _ :: _, [], _, _, h2, _, _ => absurd h2 (Nat.not_lt_zero _)
open SeqAt in
theorem ltDs_all : ∀ (xs ys : List PyData), (∀ j, j < min xs.length ys.length → pairEq xs ys j = true) → ltDs xs ys = decide (xs.length < ys.length)
  | [], [], _ => rfl
  | [], _ :: _, _ => by simp [ltDs]
  | _ :: _, [], _ => by simp [ltDs]
  | x :: xs, y :: ys, h => by
    have h' : PyData.eqv x y = true := h 0 (by simp)
    rw [ltDs, if_pos h', ltDs_all xs ys fun j hj => h (j + 1) (by simp only [List.length_cons]; omega)]
    simp
theorem sks_at : ∀ (xs ys : List PyData) (i : Nat), i < xs.length → i < ys.length → sks xs ys = true → sk (xs.getD i .none) (ys.getD i .none) = true
  | x :: xs, y :: ys, 0, _, _, h => by rw [sks, Bool.and_eq_true] at h; exact h.1
  | x :: xs, y :: ys, i + 1, h1, h2, h => by
    rw [sks, Bool.and_eq_true] at h
    exact sks_at xs ys i (by simpa using h1) (by simpa using h2) h.2
  | [], _, _, h1, _, _ => absurd h1 (Nat.not_lt_zero _)
  | _ :: _, [], _, _, h2, _ => absurd h2 (Nat.not_lt_zero _)
theorem depth_at : ∀ (xs : List PyData) (i : Nat), i < xs.length → (xs.getD i .none).depth ≤ PyData.depthAll xs
  | x :: xs, 0, _ => by show x.depth ≤ max x.depth _; omega
  | x :: xs, i + 1, h => by
    have := depth_at xs i (by simpa using h)
    show (xs.getD i .none).depth ≤ max x.depth (PyData.depthAll xs)
    omega
  | [], _, h => absurd h (Nat.not_lt_zero _)
theorem reads_at {h : Heap} : ∀ {vs : List Value} {ds : List PyData} {as : List Addr} {i : Nat} (hi : i < vs.length), ReadsAll h vs ds as → ∃ bs, Reads h vs[i] (ds.getD i .none) bs
  | _, _, _, 0, _, .cons r _ => ⟨_, r⟩
  | _, _, _, i + 1, hi, .cons _ t => reads_at (i := i) (by simpa using hi) t
theorem lays_at {ds : List PyData} {i : Nat} (h : PyData.canLayAll0 ds = true) (hi : i < ds.length) : (ds.getD i .none).canLay0 = true :=
  lay_get (j := i) h (by rw [List.getD_eq_getElem?_getD, List.getElem?_eq_getElem hi]; rfl)
open SeqAt in
theorem lt_reads : ∀ (n : Nat) (da db : PyData) (A : Around) (s : Shared) (a b : Value) (as bs : List Addr), da.depth ≤ n → Reads s.heap a da as → Reads s.heap b db bs → da.canLay0 = true → db.canLay0 = true → sk da db = true → da ≠ .none →
    A.units + n < cLine → LtAt A s a b (ltD da db)
  | n, .int i, db, A, s, a, b, as, bs, _, ra, rb, _, _, hk, _, _ => by
    cases db <;> simp [sk] at hk
    cases ra; cases rb
    exact LtAt.ints _ _ _ _
  | n, .str i, db, A, s, a, b, as, bs, _, ra, rb, _, _, hk, _, _ => by
    cases db <;> simp [sk] at hk
    cases ra; cases rb
    exact LtAt.strs _ _ _ _
  | n, .bool i, db, A, s, a, b, as, bs, _, ra, rb, _, _, hk, _, _ => by
    cases db <;> simp [sk] at hk
    cases ra; cases rb
    exact LtAt.bools _ _
  | n, .none, db, A, s, a, b, as, bs, _, _, _, _, _, _, hn, _ => absurd rfl hn
  | n, .list _, db, A, s, a, b, as, bs, _, _, _, _, _, hk, _, _ => by cases db <;> simp [sk] at hk
  | n, .dict _, db, A, s, a, b, as, bs, _, _, _, _, _, hk, _, _ => by cases db <;> simp [sk] at hk
  | 0, .tuple xs, db, A, s, a, b, as, bs, hd, _, _, _, _, _, _, _ => by
    have : PyData.depthAll xs + 1 ≤ 0 := hd
    omega
  | n + 1, .tuple xs, db, A, s, a, b, as, bs, hd, ra, rb, ca, cb, hk, _, hu => by
    cases db with
    | tuple ys =>
      have hks : sks xs ys = true := by simpa [sk] using hk
      have hd' : PyData.depthAll xs ≤ n := by
        have : PyData.depthAll xs + 1 ≤ n + 1 := hd
        omega
      cases ra with
      | tuple h1 h2 h3 h4 =>
        cases rb with
        | tuple k1 k2 k3 k4 =>
          rename_i l o us m b' o' vs m'
          have lx := ReadsAll.length _ _ _ h4
          have ly := ReadsAll.length _ _ _ k4
          rw [Array.length_toList] at lx ly
          have e : ltD (.tuple xs) (.tuple ys) = ltDs xs ys := by rw [ltD]
          rw [e]
          have eq' : ∀ j (g1 : j < us.size) (g2 : j < vs.size), EqAt A.in1 s us[j] vs[j] (pairEq xs ys j) := fun j g1 g2 => by
            obtain ⟨p1, r1⟩ := reads_at (i := j) (by rw [Array.length_toList]; exact g1) h4
            obtain ⟨p2, r2⟩ := reads_at (i := j) (by rw [Array.length_toList]; exact g2) k4
            have dj := depth_at xs j (by omega)
            have := eqAt_reads (xs.getD j .none) (ys.getD j .none) A.in1 s _ _ _ _ r1 r2 (lays_at ca (by omega)) (lays_at cb (by omega)) (by show A.units + 1 + _ < cLine; omega)
            simp only [Array.getElem_toList] at this
            exact this
          refine LtAt.tuples ⟨_, h1, h2, _, h3⟩ ⟨_, k1, k2, _, k3⟩ (by omega) eq' (fun i g1 g2 hj hf => ?_) fun hj => ?_
          · obtain ⟨p1, r1⟩ := reads_at (i := i) (by rw [Array.length_toList]; exact g1) h4
            obtain ⟨p2, r2⟩ := reads_at (i := i) (by rw [Array.length_toList]; exact g2) k4
            rw [ltDs_at xs ys i (by omega) (by omega) hj hf]
            have ski := sks_at xs ys i (by omega) (by omega) hks
            have := lt_reads n (xs.getD i .none) (ys.getD i .none) A.in1 s _ _ _ _ (Nat.le_trans (depth_at xs i (by omega)) hd') r1 r2 (lays_at ca (by omega)) (lays_at cb (by omega)) ski (fun z => by
              have hf' : PyData.eqv (xs.getD i .none) (ys.getD i .none) = false := hf
              rw [z] at ski hf'
              cases e2 : ys.getD i .none <;> rw [e2] at ski hf' <;> simp [sk, PyData.eqv] at ski hf') (by show A.units + 1 + _ < cLine; omega)
            simpa using this
          · rw [ltDs_all xs ys fun j h => hj j (by omega), lx, ly]
    | _ => simp [sk] at hk
end L2
set_option maxHeartbeats 4000000
namespace L2
open PySem PySem.Spec PySem.W PyProof.Rows
section
variable {prog : Program} {w : World} {A : Around} {E : Value → Shared → Prop} {s : Shared}
def Ext (h h' : Heap) : Prop := ∀ b o, h.get? b = some o → h'.get? b = some o
theorem Ext.trans {h h' h'' : Heap} (a : Ext h h') (b : Ext h' h'') : Ext h h'' := fun c o e => b c o (a c o e)
theorem Ext.push (h : Heap) (o : Obj) : Ext h (h.push o) := fun _ _ e => Heap.get?_push_of_some _ e
theorem Ext.upd {h h' : Heap} {a : Addr} {f : Obj → Obj} (x : Ext h h') (ha : h.objs.size ≤ a) : Ext h (h'.update a f) := fun b o e => by
  rw [Heap.get?_update_ne _ _ _ _ (Nat.ne_of_lt (Nat.lt_of_lt_of_le (Heap.lt_size e) ha))]
  exact x b o e
def Answers (prog : Program) (w : World) (A : Around) (s : Shared) (ks : List Value) (lt : Nat → Nat → Bool) : Prop :=
  ∃ κ, (∀ (Q : SortKind → Shared → Prop), Q κ s → wpAny (model prog w) A (keyKind' ks.toArray) Q (fun _ _ => False) s) ∧ ∀ i j C, i < ks.length → j < ks.length → C (lt i j) s → kas_ask prog w A κ ks i j C s
def Arr (n : Nat) (lt : Nat → Nat → Bool) (p : Array Nat) : Prop := p.Perm (List.toArray (List.range n)) ∧ Srt.Up lt p n
theorem arr_small {n : Nat} {lt : Nat → Nat → Bool} (W : Srt.Swo lt) (h : n < 2) : Arr n lt (List.toArray (List.range n)) := by
  refine ⟨.refl _, fun i j hij hj => ?_⟩
  have : i = j := by omega
  subst this
  exact W.irr _
theorem sort_run {vs ks : List Value} {lt : Nat → Nat → Bool} (W : Srt.Swo lt) (hl : ks.length = vs.length) (h64 : vs.length < 64) (h2 : ¬ vs.length < 2) {κ : SortKind} (hq : ∀ i j C, i < ks.length → j < ks.length → C (lt i j) s → kas_ask prog w A κ ks i j C s) {R : SortSt → Shared → Prop}
    (hR : ∀ st p, Arr vs.length lt p → (arrOf st).map (·.2) = List.toArray (p.toList.map fun i => vs.getD i Value.none) → failedOf st = none → R st s) :
    wpAny (model prog w) A ((sortRuns').run (SortSt.mk' κ (ks.toArray.zip vs.toArray) #[] 7 none)) (fun r s' => R r.2 s') E s := by
  refine kat_run (G := fun p s' => s' = s ∧ Arr vs.length lt p) hl (by omega) h64 (fun p st s' _ a2 a3 a4 => ?_) ?_
  · obtain ⟨rfl, ar⟩ := a4
    exact hR st p ar (kat_snds hl a2) a3
  · exact (Srt.sort_ok W (by omega)).wp (fun i j C h1 h2' c => hq i j C (by omega) (by omega) c) fun p hp => ⟨rfl, hp⟩
theorem list_sort_at {a : Addr} {vs : List Value} {n : Nat} {P : PySem.Fin → Shared → Prop} {lt : Nat → Nat → Bool} (W : Srt.Swo lt) (ho : s.heap.get? a = some (seqObj "list" vs.toArray n)) (h64 : vs.length < 64) {h0 : Heap} (ha0 : h0.objs.size ≤ a) (x0 : Ext h0 s.heap)
    (hans : ∀ h', Ext h0 h' → 2 ≤ vs.length → Answers prog w A { s with heap := h' } vs lt)
    (h : ∀ h' p c, Ext h0 h' → Arr vs.length lt p → h'.get? a = some (seqObj "list" (List.toArray (p.toList.map fun i => vs.getD i Value.none)) c) → P (.done (.ret .none)) { s with heap := h' }) :
    wpAny (model prog w) A (Builtin.«list.sort» ⟨[.ref a], []⟩) P E s := by
  obtain ⟨c1, o1⟩ : ∃ c1, (s.heap.update a (Obj.mapSeq fun _ => #[])).get? a = some (seqObj "list" #[] c1) := ⟨_, get?_update_seq ho (fun _ => #[])⟩
  have x1 : Ext h0 (((s.heap.update a (Obj.mapSeq fun _ => #[])).push (seqObj "tuple" vs.toArray 0)).push (seqObj "list" #[] 0)) := (((x0.upd ha0).trans (.push _ _)).trans (.push _ _))
  have o3 : (((s.heap.update a (Obj.mapSeq fun _ => #[])).push (seqObj "tuple" vs.toArray 0)).push (seqObj "list" #[] 0)).get? a = some (seqObj "list" #[] c1) := Heap.get?_push_of_some _ (Heap.get?_push_of_some _ o1)
  have zl : vs.length ≤ sizeLine := by rw [sizeLine_eq]; omega
  have last : ∀ p, Arr vs.length lt p → ∀ (out : Array Value), out = List.toArray (p.toList.map fun i => vs.getD i Value.none) → out.size ≤ sizeLine + 1 ∧ P (.done (.ret .none)) { s with heap := (((s.heap.update a (Obj.mapSeq fun _ => #[])).push (seqObj "tuple" vs.toArray 0)).push (seqObj "list" #[] 0)).update a (Obj.mapSeq fun _ => out) } := fun p ar out eo => by
    obtain ⟨c2, o2⟩ : ∃ c2, ((((s.heap.update a (Obj.mapSeq fun _ => #[])).push (seqObj "tuple" vs.toArray 0)).push (seqObj "list" #[] 0)).update a (Obj.mapSeq fun _ => out)).get? a = some (seqObj "list" out c2) := ⟨_, get?_update_seq o3 (fun _ => out)⟩
    refine ⟨?_, h _ p c2 (x1.upd ha0) ar (by rw [← eo]; exact o2)⟩
    rw [eo, List.size_toArray, List.length_map, Array.length_toList, ar.1.size_eq]
    simp
    omega
  rw [list_sort_plain]
  refine wpAny_bind (listItems_at ho rfl (wpAny_bind (listUpdate_at ho rfl (wpAny_bind (seqEpoch_at o1 rfl (wpAny_bind (wpAny_newTuple (wpAny_bind (wpAny_newList (wpAny_holding ?_) (Nat.zero_le _))) zl)))) (by rw [List.size_toArray]; exact zl) (Nat.zero_le _))))
  show wpAny (model prog w) A _ P E { s with heap := ((s.heap.update a (Obj.mapSeq fun _ => #[])).push (seqObj "tuple" vs.toArray 0)).push (seqObj "list" #[] 0) }
  dsimp only
  by_cases h2 : vs.toArray.size < 2
  · rw [if_pos h2, if_pos h2]
    have h2' : vs.length < 2 := by simpa using h2
    have l := last _ (arr_small W h2') (vs.toArray) (by
      apply Array.toList_inj.mp
      simp only [List.toList_toArray]
      apply List.ext_getElem?
      intro i
      by_cases hi : i < vs.length
      · simp [hi]
      · simp [hi])
    refine wpAny_bind (wpAny_pure ?_)
    rw [StateT.run_pure]
    refine wpAny_bind (wpAny_pure ?_)
    dsimp only
    have e1 : (arrOf (SortSt.mk' general' (vs.toArray.zip vs.toArray) #[] 7 none)).map (·.2) = vs.toArray := by
      apply Array.toList_inj.mp
      show ((vs.toArray.zip vs.toArray).map (·.2)).toList = vs
      rw [Array.toList_map, Array.toList_zip]
      exact List.map_snd_zip (Nat.le_refl _)
    rw [e1]
    refine wpAny_bind (seqEpoch_at o3 rfl (wpAny_bind (listUpdate_at o3 rfl ?_ (Nat.zero_le _) l.1)))
    simp only [bne_self_eq_false, Bool.false_eq_true, if_false]
    exact wpAny_pure l.2
  · rw [if_neg h2, if_neg h2]
    have h2' : ¬ vs.length < 2 := by simpa using h2
    obtain ⟨κ, hk, hq⟩ := hans _ x1 (by omega)
    refine wpAny_bind (wpAny_mono (hk (fun k s' => k = κ ∧ s' = { s with heap := ((s.heap.update a (Obj.mapSeq fun _ => #[])).push (seqObj "tuple" vs.toArray 0)).push (seqObj "list" #[] 0) }) ⟨rfl, rfl⟩) ?_ fun _ _ z => z.elim)
    rintro k s' ⟨rfl, rfl⟩
    refine wpAny_bind (wpAny_mono (sort_run (E := E) (R := fun st s' => s' = { s with heap := ((s.heap.update a (Obj.mapSeq fun _ => #[])).push (seqObj "tuple" vs.toArray 0)).push (seqObj "list" #[] 0) } ∧ ∃ p, Arr vs.length lt p ∧ (arrOf st).map (·.2) = List.toArray (p.toList.map fun i => vs.getD i Value.none) ∧ failedOf st = none) W rfl h64 h2' hq fun st p a1 a2 a3 => ⟨rfl, p, a1, a2, a3⟩) ?_ fun _ _ z => z)
    rintro ⟨⟨⟩, st⟩ s' ⟨rfl, p, ar, eo, hf⟩
    have l := last p ar _ eo
    dsimp only
    refine wpAny_bind (seqEpoch_at o3 rfl (wpAny_bind (listUpdate_at o3 rfl ?_ (Nat.zero_le _) l.1)))
    rw [hf]
    simp only [bne_self_eq_false, Bool.false_eq_true, if_false]
    exact wpAny_pure l.2
theorem sorted_at {l : Addr} {vs : List Value} {Q : Value → Shared → Prop} {lt : Nat → Nat → Bool} (W : Srt.Swo lt) (hl : s.heap.IsList l vs.toArray) (h64 : vs.length < 64)
    (hans : ∀ h', Ext s.heap h' → 2 ≤ vs.length → Answers prog w A.in1.in1 { s with heap := h' } vs lt)
    (h : ∀ h' a p c, Ext s.heap h' → s.heap.objs.size ≤ a → Arr vs.length lt p → h'.get? a = some (seqObj "list" (List.toArray (p.toList.map fun i => vs.getD i Value.none)) c) → Q (.ref a) { s with heap := h' }) :
    wpAny (model prog w) A (call (.builtin "sorted") [.ref l]) Q E s := by
  have zl : vs.length ≤ sizeLine := by rw [sizeLine_eq]; omega
  refine Calls.call_function_entry kind_sorted plain_sorted entry_sorted (args_sorted1 _) ?_
  unfold Builtin.«sorted»
  refine wpAny_bind (m := checkCount "sorted" 1 1 _) (wpAny_pure (wpAny_bind (collect_list hl (wpAny_bind (wpAny_newList ?_ zl)) zl)))
  have hsz : ((s.heap.push (seqObj "list" #[] 0)).update s.heap.objs.size (Obj.mapSeq (· ++ vs.toArray))).objs.size = s.heap.objs.size + 1 := (Heap.size_update _ _ _).trans (size_push' _ _)
  have x1 : Ext s.heap (((s.heap.push (seqObj "list" #[] 0)).update s.heap.objs.size (Obj.mapSeq (· ++ vs.toArray))).push (seqObj "list" vs.toArray 0)) := ((Ext.push _ _).upd (Nat.le_refl _)).trans (.push _ _)
  have o1 : (((s.heap.push (seqObj "list" #[] 0)).update s.heap.objs.size (Obj.mapSeq (· ++ vs.toArray))).push (seqObj "list" vs.toArray 0)).get? (s.heap.objs.size + 1) = some (seqObj "list" vs.toArray 0) := hsz ▸ Heap.get?_push_size _ rfl
  show wpAny (model prog w) _ _ _ _ { s with heap := ((s.heap.push (seqObj "list" #[] 0)).update s.heap.objs.size (Obj.mapSeq (· ++ vs.toArray))).push (seqObj "list" vs.toArray 0) }
  rw [hsz]
  refine wpAny_bind (wpAny_holding (wpAny_call_entry slot_list_sort ⟨_, o1, rfl⟩ entry_list_sort (list_sort_at W o1 h64 (h0 := s.heap) (Nat.le_succ _) x1 hans fun h' p c x ar e => ?_) (args_list_sort _)))
  exact ⟨_, rfl, wpAny_pure ⟨_, rfl, h h' _ p c x (Nat.le_succ _) ar e⟩⟩
end
end L2
set_option maxHeartbeats 4000000
namespace L2
open PySem PySem.Spec PySem.W PyProof.Rows
def isK : Nat → PyData → Prop
  | 0, .int _ => True
  | 1, .str _ => True
  | 2, .tuple (.int _ :: _) => True
  | 3, .tuple (.str _ :: _) => True
  | 4, .tuple (.tuple _ :: _) => True
  | _, _ => False
theorem isK_big (t : Nat) (d : PyData) : ¬ isK (t + 5) d := by
  intro h
  cases d with
  | tuple xs =>
    cases xs with
    | nil => exact h
    | cons x xs => cases x <;> exact h
  | _ => exact h
section
variable {prog : Program} {w : World} {A : Around} {s : Shared}
theorem oneLt_of {x y : Value} {c : Bool} (h : LtAt A s x y c) {Q : Bool → Shared → Prop} {E : Value → Shared → Prop} (q : Q c s) : wpAny (model prog w) A (oneLt' false x y) Q E s :=
  kat_one x y (h prog w E _ q)
theorem katlex {b fin : Bool} {Q : Bool → Shared → Prop} : ∀ (us vs : List Value) (xs ys : List PyData) (as bs : List Addr) (i : Nat), ReadsAll s.heap us xs as → ReadsAll s.heap vs ys bs → PyData.canLayAll0 xs = true → PyData.canLayAll0 ys = true → sks xs ys = true →
    PyData.depthAll xs ≤ 60 → A.units + 60 < cLine → (i = 0 → b = true → (∃ p q r r', xs = .int p :: r ∧ ys = .int q :: r') ∨ ∃ p q r r', xs = .str p :: r ∧ ys = .str q :: r') → fin = decide (us.length < vs.length) → Q (ltDs xs ys) s → KatLex prog w A b fin Q (us.zip vs) i s
  | [], vs, _, ys, _, _, i, .nil, rb, _, _, _, _, _, _, hf, q => by
    have ly := SeqAt.ReadsAll.length _ _ _ rb
    show Q fin s
    rw [hf]
    cases ys with
    | nil => rw [List.length_nil] at ly ⊢; rw [ly]; exact q
    | cons y ys => rw [ly]; exact q
  | u :: us, [], xs, _, _, _, i, ra, .nil, _, _, _, _, _, _, hf, q => by
    cases ra
    show Q fin s
    rw [hf]
    exact q
  | u :: us, v :: vs, _, _, _, _, i, .cons (d := x) (ds := xs) r1 t1, .cons (d := y) (ds := ys) r2 t2, ca, cb, hk, hd, hu, h0, hf, q => by
    have ca' : (x.canLay0 && PyData.canLayAll0 xs) = true := ca
    have cb' : (y.canLay0 && PyData.canLayAll0 ys) = true := cb
    rw [Bool.and_eq_true] at ca' cb'
    rw [sks, Bool.and_eq_true] at hk
    have hdx : x.depth ≤ 60 ∧ PyData.depthAll xs ≤ 60 := by
      have : max x.depth (PyData.depthAll xs) ≤ 60 := hd
      omega
    have eq' := SeqAt.eqAt_reads x y A s u v _ _ r1 r2 ca'.1 cb'.1 (by omega)
    refine kat_cons (eq' prog w _ _ ?_)
    cases e : PyData.eqv x y with
    | true =>
      rw [ltDs, if_pos e] at q
      refine kat_yes (katlex us vs xs ys _ _ (i + 1) t1 t2 ca'.2 cb'.2 hk.2 hdx.2 hu (fun z => by omega) ?_ q)
      rw [hf]
      simp
    | false =>
      rw [ltDs, if_neg (by rw [e]; decide)] at q
      refine kat_no ?_
      by_cases hb : (b && i == 0) = true
      · rw [hb]
        rw [Bool.and_eq_true] at hb
        rcases h0 (by simpa using hb.2) hb.1 with ⟨p, p', r, r', e1, e2⟩ | ⟨p, p', r, r', e1, e2⟩
        · cases e1; cases e2
          cases r1; cases r2
          exact oneLt_int q
        · cases e1; cases e2
          cases r1; cases r2
          exact oneLt_str q
      · rw [Bool.not_eq_true] at hb
        rw [hb]
        exact oneLt_of (lt_reads 60 x y A s u v _ _ hdx.1 r1 r2 ca'.1 cb'.1 hk.1 (fun z => by
          subst z
          have := hk.1
          cases y <;> simp [sk, PyData.eqv] at this e) hu) q
theorem firsts_of {s : Shared} : ∀ {vs : List Value} {ds : List PyData} {as : List Addr}, ReadsAll s.heap vs ds as → (∀ d ∈ ds, ∃ f r, d = .tuple (f :: r)) → ∃ fs, KatTups s.heap vs fs ∧ fs.length = vs.length ∧ ∀ v ∈ fs, ∃ f r bs, PyData.tuple (f :: r) ∈ ds ∧ Reads s.heap v f bs
  | [], _, _, .nil, _ => ⟨[], trivial, rfl, fun _ z => nomatch z⟩
  | v :: vs, _, _, .cons (d := d) (ds := ds) r t, h => by
    obtain ⟨fs, k1, k2, k3⟩ := firsts_of t fun x hx => h x (List.mem_cons_of_mem _ hx)
    obtain ⟨f, r', e⟩ := h d List.mem_cons_self
    subst e
    cases r with
    | tuple h1 h2 h3 h4 =>
      rename_i a o us n
      cases e : us.toList with
      | nil => rw [e] at h4; cases h4
      | cons u ut =>
        rw [e] at h4
        cases h4 with
        | cons q1 q2 =>
          refine ⟨u :: fs, KatTups.cons h1 h2 h3 (by rw [← Array.getElem?_toList, e]; rfl) k1, by rw [List.length_cons, List.length_cons, k2], fun v hv => ?_⟩
          rcases List.mem_cons.mp hv with rfl | hv
          · exact ⟨f, r', _, List.mem_cons_self, q1⟩
          · obtain ⟨f', r'', bs, m, q⟩ := k3 v hv
            exact ⟨f', r'', bs, List.mem_cons_of_mem _ m, q⟩
def keyAt (ds : List PyData) (i : Nat) : PyData := ds.getD i (ds.headD .none)
theorem keyAt_mem {ds : List PyData} (h : ds ≠ []) (i : Nat) : keyAt ds i ∈ ds := by
  unfold keyAt
  rw [List.getD_eq_getElem?_getD]
  cases e : ds[i]? with
  | some x => exact List.mem_of_getElem? e
  | none =>
    cases ds with
    | nil => exact absurd rfl h
    | cons a b => exact List.mem_cons_self
def ltK (ds : List PyData) (i j : Nat) : Bool := ltD (keyAt ds i) (keyAt ds j)
theorem swo_of {ds : List PyData} (h : ∀ a ∈ ds, ∀ b ∈ ds, sk a b = true) : Srt.Swo (ltK ds) := by
  by_cases e : ds = []
  · subst e
    exact ⟨fun _ => rfl, fun _ _ _ z => (by cases z), fun _ _ _ z => (by cases z)⟩
  · have m := keyAt_mem e
    exact ⟨fun _ => ltD_irr _, fun a b c => ltD_tr _ _ _ (h _ (m a) _ (m b)) (h _ (m b) _ (m c)) (h _ (m a) _ (m c)), fun a b c => ltD_nt _ _ _ (h _ (m a) _ (m b)) (h _ (m b) _ (m c)) (h _ (m a) _ (m c))⟩
structure KeysAre (ds : List PyData) (t : Nat) : Prop where
  lay : PyData.canLayAll0 ds = true
  kind : ∀ d ∈ ds, isK t d
  one : ∀ a ∈ ds, ∀ b ∈ ds, sk a b = true
  deep : ∀ d ∈ ds, d.depth ≤ 60
theorem answers_of {ks : List Value} {ds : List PyData} {as : List Addr} {t : Nat} (r : ReadsAll s.heap ks ds as) (K : KeysAre ds t) (h2 : 2 ≤ ks.length) (hu : A.units + 60 < cLine) : Answers prog w A s ks (ltK ds) := by
  have hl := SeqAt.ReadsAll.length _ _ _ r
  have look : ∀ i, i < ks.length → ∃ bs, Reads s.heap (ks.getD i Value.none) (keyAt ds i) bs ∧ keyAt ds i ∈ ds := fun i hi => by
    obtain ⟨bs, q⟩ := reads_at hi r
    have e1 : ks.getD i Value.none = ks[i] := by simp [hi]
    have e2 : keyAt ds i = ds.getD i .none := by
      have hi' : i < ds.length := by omega
      unfold keyAt
      rw [List.getD_eq_getElem?_getD, List.getD_eq_getElem?_getD, List.getElem?_eq_getElem hi']
      rfl
    refine ⟨bs, by rw [e1, e2]; exact q, keyAt_mem (fun z => ?_) i⟩
    rw [z, List.length_nil] at hl
    omega
  have memo : ∀ v ∈ ks, ∃ d bs, d ∈ ds ∧ Reads s.heap v d bs := fun v hv => by
    obtain ⟨i, hi, e⟩ := List.mem_iff_getElem.mp hv
    obtain ⟨bs, q, m⟩ := look i hi
    exact ⟨_, bs, m, by rw [← e]; simpa [hi] using q⟩
  have lays : ∀ d ∈ ds, d.canLay0 = true := fun d hd => by
    obtain ⟨i, hi, e⟩ := List.mem_iff_getElem.mp hd
    exact lay_get (j := i) K.lay (by rw [List.getElem?_eq_getElem hi, e])
  have tups : (∀ d ∈ ds, ∃ f r, d = .tuple (f :: r)) → (T : Value) → (∀ v f bs r, Reads s.heap v f bs → PyData.tuple (f :: r) ∈ ds → Looks (model prog w) s.heap (typeOf v) T) → (T == T) = true →
      ((T != Value.type "tuple") = true → ∀ d ∈ ds, ∀ d' ∈ ds, (∃ p q r r', d = .tuple (.int p :: r) ∧ d' = .tuple (.int q :: r')) ∨ ∃ p q r r', d = .tuple (.str p :: r) ∧ d' = .tuple (.str q :: r')) → Answers prog w A s ks (ltK ds) := fun h1 T h2' h3 h4 => by
    obtain ⟨fs, k1, k2, k3⟩ := firsts_of r h1
    refine ⟨tuples' (T != Value.type "tuple"), fun Q q => kat_kind k1 (by omega) (fun v hv => ?_) h3 q, fun i j C hi hj c => ?_⟩
    · obtain ⟨f, r', bs, m, q⟩ := k3 v hv
      exact h2' v f bs r' q m
    · obtain ⟨b1, q1, m1⟩ := look i hi
      obtain ⟨b2, q2, m2⟩ := look j hj
      unfold ltK at c
      obtain ⟨f1, r1, e1⟩ := h1 _ m1
      obtain ⟨f2, r2, e2⟩ := h1 _ m2
      have d1 := K.deep _ m1
      have kk := K.one _ m1 _ m2
      have lay1 := lays _ m1
      have lay2 := lays _ m2
      have hb := fun z => h4 z _ m1 _ m2
      rw [e1] at q1 d1 kk lay1 hb c
      rw [e2] at q2 kk lay2 hb c
      unfold kas_ask
      cases ev1 : ks.getD i Value.none <;> rw [ev1] at q1 <;> try (cases q1; done)
      cases ev2 : ks.getD j Value.none <;> rw [ev2] at q2 <;> try (cases q2; done)
      cases q1 with
      | tuple x1 x2 x3 x4 =>
        cases q2 with
        | tuple y1 y2 y3 y4 =>
          refine kat_lt x1 x3 y1 y3 (katlex _ _ _ _ _ _ 0 x4 y4 lay1 lay2 (by simpa [sk] using kk) ?_ hu (fun _ z => ?_) (by simp) (by rw [ltD] at c; exact c))
          · have : PyData.depthAll (f1 :: r1) + 1 ≤ 60 := d1
            omega
          · rcases hb z with ⟨p, q, r, r', g1, g2⟩ | ⟨p, q, r, r', g1, g2⟩
            · exact .inl ⟨p, q, r, r', PyData.tuple.inj g1, PyData.tuple.inj g2⟩
            · exact .inr ⟨p, q, r, r', PyData.tuple.inj g1, PyData.tuple.inj g2⟩
  match t, K.kind with
  | 0, hk =>
    refine ⟨oneType', fun Q q => kas_kind (T := Value.type "int") h2 (fun v hv => ?_) rfl rfl q, fun i j C hi hj c => ?_⟩
    · obtain ⟨d, bs, m, q⟩ := memo v hv
      have := hk d m
      cases d <;> simp only [isK] at this
      cases q
      exact Looks.of_pure rfl
    · obtain ⟨b1, q1, m1⟩ := look i hi
      obtain ⟨b2, q2, m2⟩ := look j hj
      unfold ltK at c
      unfold kas_ask
      have t1 := hk _ m1
      have t2 := hk _ m2
      cases e1 : keyAt ds i <;> rw [e1] at t1 <;> simp only [isK] at t1
      cases e2 : keyAt ds j <;> rw [e2] at t2 <;> simp only [isK] at t2
      rw [e1] at q1 c
      rw [e2] at q2 c
      cases ev1 : ks.getD i Value.none <;> rw [ev1] at q1 <;> try (cases q1; done)
      cases ev2 : ks.getD j Value.none <;> rw [ev2] at q2 <;> try (cases q2; done)
      cases q1; cases q2
      rw [keyLt'_oneType]
      exact oneLt_int c
  | 1, hk =>
    refine ⟨oneType', fun Q q => kas_kind (T := Value.type "str") h2 (fun v hv => ?_) rfl rfl q, fun i j C hi hj c => ?_⟩
    · obtain ⟨d, bs, m, q⟩ := memo v hv
      have := hk d m
      cases d <;> simp only [isK] at this
      cases q
      exact Looks.of_pure rfl
    · obtain ⟨b1, q1, m1⟩ := look i hi
      obtain ⟨b2, q2, m2⟩ := look j hj
      unfold ltK at c
      unfold kas_ask
      have t1 := hk _ m1
      have t2 := hk _ m2
      cases e1 : keyAt ds i <;> rw [e1] at t1 <;> simp only [isK] at t1
      cases e2 : keyAt ds j <;> rw [e2] at t2 <;> simp only [isK] at t2
      rw [e1] at q1 c
      rw [e2] at q2 c
      cases ev1 : ks.getD i Value.none <;> rw [ev1] at q1 <;> try (cases q1; done)
      cases ev2 : ks.getD j Value.none <;> rw [ev2] at q2 <;> try (cases q2; done)
      cases q1; cases q2
      rw [keyLt'_oneType]
      exact oneLt_str c
  | 2, hk =>
    have sh : ∀ d ∈ ds, ∃ p r, d = .tuple (.int p :: r) := fun d hd => by
      have := hk d hd
      unfold isK at this
      split at this <;> first | cases this | skip
      all_goals first | exact ⟨_, _, rfl⟩ | omega | (rename_i h _; cases h) | (exfalso; simp_all)
    refine tups (fun d hd => let ⟨p, r, e⟩ := sh d hd; ⟨_, r, e⟩) (Value.type "int") (fun v f bs r' q m => ?_) rfl fun _ d hd d' hd' => ?_
    · obtain ⟨p, r2, e⟩ := sh _ m
      cases e
      cases q
      exact Looks.of_pure rfl
    · obtain ⟨p, r1, e1⟩ := sh d hd
      obtain ⟨q, r2, e2⟩ := sh d' hd'
      exact .inl ⟨p, q, r1, r2, e1, e2⟩
  | 3, hk =>
    have sh : ∀ d ∈ ds, ∃ p r, d = .tuple (.str p :: r) := fun d hd => by
      have := hk d hd
      unfold isK at this
      split at this <;> first | cases this | skip
      all_goals first | exact ⟨_, _, rfl⟩ | omega | (rename_i h _; cases h) | (exfalso; simp_all)
    refine tups (fun d hd => let ⟨p, r, e⟩ := sh d hd; ⟨_, r, e⟩) (Value.type "str") (fun v f bs r' q m => ?_) rfl fun _ d hd d' hd' => ?_
    · obtain ⟨p, r2, e⟩ := sh _ m
      cases e
      cases q
      exact Looks.of_pure rfl
    · obtain ⟨p, r1, e1⟩ := sh d hd
      obtain ⟨q, r2, e2⟩ := sh d' hd'
      exact .inr ⟨p, q, r1, r2, e1, e2⟩
  | 4, hk =>
    have sh : ∀ d ∈ ds, ∃ p r, d = .tuple (.tuple p :: r) := fun d hd => by
      have := hk d hd
      unfold isK at this
      split at this <;> first | cases this | skip
      all_goals first | exact ⟨_, _, rfl⟩ | omega | (rename_i h _; cases h) | (exfalso; simp_all)
    refine tups (fun d hd => let ⟨p, r, e⟩ := sh d hd; ⟨_, r, e⟩) (Value.type "tuple") (fun v f bs r' q m => ?_) rfl fun z => absurd z (by decide)
    obtain ⟨p, r2, e⟩ := sh _ m
    cases e
    cases q with
    | tuple h1 h2 h3 h4 =>
      have := (Looks.ld (M := model prog w) (part := none) h1)
      rw [← h2]
      exact (Looks.ld h1).andThen .now
  | t + 5, hk =>
    exfalso
    obtain ⟨bs, q, m⟩ := look 0 (by omega)
    exact isK_big t _ (hk _ m)
end
end L2
set_option maxHeartbeats 4000000
namespace L2
open PySem PySem.Spec PySem.W PyProof.Rows
def SortIx (ds : List PyData) (ix : List Nat) : Prop := ix.Perm (List.range ds.length) ∧ (ix.map (keyAt ds)).Pairwise fun a b => ltD b a = false
theorem sortIx_of {ds : List PyData} {p : Array Nat} (h : Arr ds.length (ltK ds) p) : SortIx ds p.toList := by
  have hs : p.size = ds.length := by rw [h.1.size_eq]; simp
  refine ⟨by simpa using h.1.toList, ?_⟩
  rw [List.pairwise_iff_getElem]
  intro i j hi hj hij
  rw [List.length_map, Array.length_toList] at hi hj
  have := h.2 i j (by omega) (by omega)
  unfold ltK Srt.g at this
  rw [List.getElem_map, List.getElem_map]
  simpa [Array.getD, hi, hj] using this
theorem vals_getD {ys : List V} {us : List Value} (r : Vals ys us) (ix : List Nat) (h : ∀ i ∈ ix, i < ys.length) : Vals (ix.map fun i => ys.getD i .non) (ix.map fun i => us.getD i Value.none) := by
  induction ix with
  | nil => exact .nil
  | cons i ix ih =>
    have hi := h i List.mem_cons_self
    obtain ⟨u, hu, ru⟩ := r.get (i := i) (x := ys[i]) (List.getElem?_eq_getElem hi)
    refine .cons ?_ (ih fun j hj => h j (List.mem_cons_of_mem _ hj))
    show RelV (ys.getD i .non) (us.getD i Value.none)
    rw [List.getD_eq_getElem?_getD, List.getD_eq_getElem?_getD, hu, List.getElem?_eq_getElem hi]
    exact ru
def rSortD (K : PySem.W.Frag) : List V → Hp → VK → Prop := fun xs H Q => ∃ p ys ds t, xs = [.ref p] ∧ SqL K H p ys ∧ DVs K H ys ds ∧ KeysAre ds t ∧ ys.length < 64 ∧
  ∀ q H' ix, H q = none → Same H H' → SortIx ds ix → H' q = some (.lst (ix.map fun i => ys.getD i .non)) → Q (.ref q) H'
theorem dvs_length {K : PySem.W.Frag} {H : Hp} : ∀ {xs : List V} {ds : List PyData}, DVs K H xs ds → xs.length = ds.length
  | _, _, .nil => rfl
  | _, _, .cons _ t => by rw [List.length_cons, List.length_cons, dvs_length t]
mutual
theorem reads_ext {h h' : Heap} (x : Ext h h') : ∀ {v : Value} {d : PyData} {as : List Addr}, Reads h v d as → Reads h' v d as
  | _, _, _, .none => .none
  | _, _, _, .bool b => .bool b
  | _, _, _, .int i t => .int i t
  | _, _, _, .str z t => .str z t
  | _, _, _, .list h1 h2 h3 h4 => .list (x _ _ h1) h2 h3 (readsA_ext x h4)
  | _, _, _, .tuple h1 h2 h3 h4 => .tuple (x _ _ h1) h2 h3 (readsA_ext x h4)
  | _, _, _, .dict h1 h2 h3 h4 h5 => .dict (x _ _ h1) h2 h3 (readsA_ext x h4) (readsA_ext x h5)
theorem readsA_ext {h h' : Heap} (x : Ext h h') : ∀ {v : List Value} {d : List PyData} {as : List Addr}, ReadsAll h v d as → ReadsAll h' v d as
  | _, _, _, .nil => .nil
  | _, _, _, .cons a b => .cons (reads_ext x a) (readsA_ext x b)
end
section
variable {X : Cx}
theorem call_sortedD (hu : X.A.units + 3 + 61 < cLine) : CallR X (.builtin "sorted") (rSortD X.K) := by
  intro pins s σ H xs us Q I r h
  obtain ⟨p, ys, ds, t, rfl, hq, hd, hk, h64, q⟩ := h
  obtain ⟨u, rfl, ru⟩ := vals1 r
  cases ru
  obtain ⟨its, rv, pl, hz⟩ := I.list hq
  have hl := rv.length
  have hdl := dvs_length hd
  obtain ⟨as, ra⟩ := hd.reads I rv
  refine sorted_at (vs := its) (lt := ltK ds) (swo_of hk.one) pl.isList (by omega) (fun h' x h2 => ?_) fun h' a pm c x ha ar e => ?_
  · exact answers_of (readsA_ext x ra) hk h2 (by show X.A.units + 1 + 1 + 60 < cLine; omega)
  · have hix : ∀ i ∈ pm.toList, i < ys.length := fun i hi => by
      have := (ar.1.toList.mem_iff).mp hi
      simp at this
      omega
    refine ⟨.ref a, upd H a (.lst (pm.toList.map fun i => ys.getD i .non)), I.laid x ha ⟨?_, _, c, vals_getD rv _ hix, e⟩, rfl, q a _ pm.toList (I.hok.fresh ha) (Same.new (I.hok.fresh ha)) (sortIx_of (by rw [← hdl, hl]; exact ar)) upd_same⟩
    rw [List.length_map, Array.length_toList, ar.1.size_eq]
    simp
    omega
end
end L2
set_option maxHeartbeats 4000000
namespace L2
open PySem PySem.Spec PySem.W PyProof.Rows
section
variable {P : Program} {w : World} {A : Around} {E : Value → Shared → Prop} {s : Shared}
def GIs (P : Program) (w : World) (h : Heap) : KD → Value → Prop
  | .non, v => v = .none
  | .int i, v => ∃ t, v = .int i t
  | .tup ks, v => ∃ a, v = .ref a ∧ (tupleKind (mixKind P w)).is h ks a
def gDraws (P : Program) (w : World) : KD → Nat
  | .non => 1
  | .int _ => 1
  | .tup ks => (tupleKind (mixKind P w)).draws ks
theorem GIs.inj {h : Heap} {x y : KD} {v : Value} (a : GIs P w h x v) (b : GIs P w h y v) : x = y := by
  cases x with
  | non =>
    cases a
    cases y with
    | non => rfl
    | int j => obtain ⟨_, e⟩ := b; cases e
    | tup ks => obtain ⟨_, e, _⟩ := b; cases e
  | int i =>
    obtain ⟨t, rfl⟩ := a
    cases y with
    | non => cases b
    | int j => obtain ⟨_, e⟩ := b; cases e; rfl
    | tup ks => obtain ⟨_, e, _⟩ := b; cases e
  | tup ks =>
    obtain ⟨p, rfl, q⟩ := a
    cases y with
    | non => cases b
    | int j => obtain ⟨_, e⟩ := b; cases e
    | tup ks' =>
      obtain ⟨_, e, q'⟩ := b
      cases e
      exact congrArg KD.tup ((tupleKind (mixKind P w)).inj q q')
theorem GIs.ext {h h' : Heap} {k : KD} {v : Value} (a : GIs P w h k v) (x : ∀ b o, h.get? b = some o → o.cls = .type "tuple" → h'.get? b = some o) : GIs P w h' k v := by
  cases k with
  | non => exact a
  | int i => exact a
  | tup ks =>
    obtain ⟨p, e, o, its, n, h1, h2, h3, h4⟩ := a
    exact ⟨p, e, o, its, n, x _ _ h1 h2, h2, h3, h4⟩
theorem hash_none {Q : Int → Shared → Prop} (h : Q 4238894112 { s with toks := s.toks + 1 }) : wpAny (model P w) A (pyHash .none) Q E s := by
  unfold pyHash
  have hT : s.TypeIs Value.none "NoneType" := rfl
  have hv : [Value.none].any Value.onHeap = false := rfl
  unfold pyHashByItsType
  refine wpAny_bind ?_
  rw [cRoomFor, if_neg (by rw [hv]; exact Bool.false_ne_true)]
  refine wpAny_pure (wpAny_bind (wpAny_specialOf hT F.slot_NoneType_hash.lookup ?_))
  show wpAny _ _ (if (some (Value.builtin "NoneType.__hash__") == some Value.none) = true then _ else _) Q E s
  rw [if_neg (by rw [beq_builtin_none]; exact Bool.false_ne_true)]
  refine wpAny_bind (wpAny_specialOf hT F.slot_NoneType_hash.lookup ?_)
  show wpAny _ _ (callSpecialIfBoundUnlessNone? .none "__hash__" _ >>= _) Q E s
  refine wpAny_bind (wpAny_callSpecialIfBoundUnlessNone?_slot hT F.slot_NoneType_hash (wpAny_call_entry F.slot_NoneType_hash hT F.entry_NoneType_hash (show wpAny _ _ (do ret (← mkInt 4238894112)) _ _ s from wpAny_ret_mkInt ?_) (F.args_NoneType_hash_1 _)))
  show wpAny _ _ (if (decide (-(2 : Int) ^ 63 ≤ 4238894112) && decide ((4238894112 : Int) < 2 ^ 63)) = true then _ else _) Q E _
  rw [if_pos (by decide)]
  exact wpAny_pure h
theorem GIs.hash {k : KD} {v : Value} (hu : A.units < cLine) (a : GIs P w s.heap k v) {Q : Int → Shared → Prop} (h : Q (gHash P w k) { s with toks := s.toks + gDraws P w k }) : wpAny (model P w) A (pyHash v) Q E s := by
  cases k with
  | non => cases a; exact hash_none h
  | int i => obtain ⟨t, rfl⟩ := a; exact wpAny_pyHash_int h
  | tup ks => obtain ⟨p, rfl, q⟩ := a; exact (tupleKind (mixKind P w)).pyHash hu q h
theorem GIs.tuple {h : Heap} {ks : List Key} {v : Value} (a : GIs P w h (.tup ks) v) : ∃ p its, v = .ref p ∧ h.IsTuple p its := by
  obtain ⟨p, e, o, its, n, h1, h2, h3, _⟩ := a
  exact ⟨p, its, e, o, h1, h2, n, h3⟩
theorem GIs.eq {x y : KD} {u v : Value} (hu : A.units < cLine) (a : GIs P w s.heap x u) (b : GIs P w s.heap y v) {Q : Bool → Shared → Prop} (h : Q (decide (x = y)) s) : wpAny (model P w) A (eqBool u v) Q E s := by
  have ne : ∀ {z z' : KD}, z ≠ z' → decide (z = z') = false := fun q => decide_eq_false q
  cases x with
  | non =>
    cases a
    cases y with
    | non => cases b; exact SeqAt.EqAt.same _ _ _ _ _ h
    | int j =>
      obtain ⟨t, rfl⟩ := b
      rw [ne (by intro z; cases z)] at h
      exact SeqAt.EqAt.none_int _ _ _ _ _ _ h
    | tup ks =>
      obtain ⟨p, its, rfl, q⟩ := b.tuple
      rw [ne (by intro z; cases z)] at h
      exact SeqAt.EqAt.none_tuple q hu _ _ _ _ h
  | int i =>
    obtain ⟨t, rfl⟩ := a
    cases y with
    | non =>
      cases b
      rw [ne (by intro z; cases z)] at h
      exact SeqAt.EqAt.int_none _ _ _ _ _ _ h
    | int j =>
      obtain ⟨t, rfl⟩ := b
      refine SeqAt.EqAt.int_int _ _ _ _ _ _ _ _ ?_
      rw [show (i == j) = decide (KD.int i = KD.int j) from by by_cases z : i = j <;> simp [z]]
      exact h
    | tup ks =>
      obtain ⟨p, its, rfl, q⟩ := b.tuple
      rw [ne (by intro z; cases z)] at h
      exact SeqAt.EqAt.int_tuple _ _ q hu _ _ _ _ h
  | tup ks =>
    cases y with
    | non =>
      cases b
      obtain ⟨p, its, rfl, q⟩ := a.tuple
      rw [ne (by intro z; cases z)] at h
      exact SeqAt.EqAt.tuple_none q hu _ _ _ _ h
    | int j =>
      obtain ⟨t, rfl⟩ := b
      obtain ⟨p, its, rfl, q⟩ := a.tuple
      rw [ne (by intro z; cases z)] at h
      exact SeqAt.EqAt.tuple_int _ _ q hu _ _ _ _ h
    | tup ks' =>
      obtain ⟨p, rfl, q⟩ := a
      obtain ⟨p', rfl, q'⟩ := b
      refine (tupleKind (mixKind P w)).eqBool hu q q' ?_
      rw [show decide (ks = ks') = decide (KD.tup ks = KD.tup ks') from by by_cases z : ks = ks' <;> simp [z]]
      exact h
theorem GIs.quiet {k : KD} {v : Value} (a : GIs P w s.heap k v) {Q : Bool → Shared → Prop} (h : Q true s) : wpAny (model P w) A (eqIsQuiet 8 v) Q E s := by
  cases k with
  | non => cases a; exact wpAny_pure h
  | int i => obtain ⟨t, rfl⟩ := a; exact wpAny_pure h
  | tup ks => obtain ⟨p, rfl, q⟩ := a; exact (tupleKind (mixKind P w)).quiet q h
theorem g_tell {k : KD} {v : Value} {l : List Value} (a : GIs P w s.heap k v) (hl : ∀ u ∈ l, ∃ k', GIs P w s.heap k' u) {Q : Bool → Shared → Prop} (h : Q false s) : wpAny (model P w) A (tableMayTell v l) Q E s := by
  unfold tableMayTell
  split
  · exact wpAny_pure h
  · refine wpAny_bind (a.quiet ?_)
    rw [if_neg (by decide)]
    refine wpAny_bind (wpAny_forIn_list _ (fun r b s' => s' = s ∧ b = (none, ()) ∧ ∀ u ∈ r, ∃ k', GIs P w s.heap k' u) _ ?_ ?_ _ _ ⟨rfl, rfl, hl⟩)
    · rintro u r b s' ⟨rfl, rfl, hr⟩
      obtain ⟨k', hk⟩ := hr u List.mem_cons_self
      refine wpAny_bind (hk.quiet ?_)
      rw [if_neg (by decide)]
      exact wpAny_pure ⟨rfl, rfl, fun x hx => hr x (List.mem_cons_of_mem _ hx)⟩
    · rintro b s' ⟨rfl, rfl, _⟩
      exact wpAny_pure h
def gIdx (xs : List (KD × Value × Value)) (k : KD) : Option Nat := xs.findIdx? fun x => decide (x.1 = k)
theorem gIdx_some {xs : List (KD × Value × Value)} {k : KD} {j : Nat} {x : KD × Value × Value} (hn : (xs.map (·.1)).Nodup) (h : xs[j]? = some x) (e : x.1 = k) : gIdx xs k = some j := by
  unfold gIdx
  rw [List.findIdx?_eq_some_iff_getElem]
  obtain ⟨hj, ej⟩ := List.getElem?_eq_some_iff.mp h
  refine ⟨hj, by rw [ej, e]; simp, fun i hi => ?_⟩
  have : ¬ xs[i].1 = k := fun z => by
    have e1 : (xs.map (·.1))[i]? = some k := by rw [List.getElem?_map, List.getElem?_eq_getElem (by omega)]; simp [z]
    have e2 : (xs.map (·.1))[j]? = some k := by rw [List.getElem?_map, h]; simp [e]
    have := (List.getElem?_inj (by rw [List.length_map]; omega) hn).mp (e1.trans e2.symm)
    omega
  simpa using this
theorem gIdx_none {xs : List (KD × Value × Value)} {k : KD} (h : ∀ (j : Nat) x, xs[j]? = some x → x.1 ≠ k) : gIdx xs k = none := by
  unfold gIdx
  rw [List.findIdx?_eq_none_iff]
  intro x hx
  obtain ⟨j, hj, e⟩ := List.mem_iff_getElem.mp hx
  exact decide_eq_false (h j x (by rw [List.getElem?_eq_getElem hj, e]))
theorem g_loop {xs : List (KD × Value × Value)} {k : KD} {es : Array DictEntry} (at' : ∀ j : Nat, es[j]? = (xs[j]?).map (gEnt P w)) (sz : es.size = xs.length) (hn : (xs.map (·.1)).Nodup) {body : Nat → Option (Option Nat) × Option Nat → Sem (ForInStep (Option (Option Nat) × Option Nat))} {R : Option (Option Nat) × Option Nat → Shared → Prop}
    (B : ∀ (i : Nat) b hit (R' : ForInStep (Option (Option Nat) × Option Nat) → Shared → Prop), xs[i]? = some b → (b.1 = k → hit = none ∧ R' (.done (some (some i), hit)) s ∧ R' (.yield (none, some i)) s) → (b.1 ≠ k → R' (.yield (none, hit)) s) → wpAny (model P w) A (body i (none, hit)) R' E s)
    (R0 : (∀ (j : Nat) x, xs[j]? = some x → x.1 ≠ k) → R (none, none) s) (R1 : ∀ (j : Nat) x, xs[j]? = some x → x.1 = k → R (some (some j), none) s ∧ R (none, some j) s) :
    wpAny (model P w) A (forIn (placesWithHash es.size (fun i => es[i]?.map (·.hash)) (gHash P w k)) (none, none) body) R E s := by
  have has : ∀ (j : Nat) x, xs[j]? = some x → x.1 = k → ((es[j]?.map (·.hash)) == some (gHash P w k)) = true := fun j x hj e => by
    rw [at' j, hj]
    show (some (gHash P w x.1) == some (gHash P w k)) = true
    rw [e]
    simp
  have one : ∀ {i j : Nat} {x y : KD × Value × Value}, xs[i]? = some x → xs[j]? = some y → x.1 = k → y.1 = k → i = j := fun {i j x y} h1 h2 e1 e2 => by
    have q1 : (xs.map (·.1))[i]? = some k := by rw [List.getElem?_map, h1]; exact congrArg some e1
    have q2 : (xs.map (·.1))[j]? = some k := by rw [List.getElem?_map, h2]; exact congrArg some e2
    exact (List.getElem?_inj (List.getElem?_eq_some_iff.mp q1).1 hn).mp (q1.trans q2.symm)
  refine wpAny_forIn_list _ (fun rest b s' => s' = s ∧ ∃ i hit, b = (none, hit) ∧ rest = (List.range' i (es.size - i)).filter (fun i => (es[i]?.map (·.hash)) == some (gHash P w k)) ∧ i ≤ es.size ∧
      ((hit = none ∧ ∀ (j : Nat) x, j < i → xs[j]? = some x → x.1 ≠ k) ∨ ∃ j x, hit = some j ∧ j < i ∧ xs[j]? = some x ∧ x.1 = k)) _ ?_ ?_ _ _
    ⟨rfl, 0, none, rfl, by rw [placesWithHash, List.range_eq_range', Nat.sub_zero], Nat.zero_le _, .inl ⟨rfl, fun j x hj => absurd hj (Nat.not_lt_zero _)⟩⟩
  · rintro x rest b s' ⟨rfl, i, hit, rfl, hr, hi, hH⟩
    obtain ⟨hix, hxn, hpx, hskip, hrest⟩ := filter_range'_cons _ _ _ _ _ hr.symm
    have hlt : x < es.size := by omega
    have hrest' : rest = (List.range' (x + 1) (es.size - (x + 1))).filter (fun i => (es[i]?.map (·.hash)) == some (gHash P w k)) := by
      rw [hrest]
      congr 2
      omega
    have hx : xs[x]? = some (xs[x]'(by omega)) := List.getElem?_eq_getElem _
    generalize xs[x]'(by omega) = b at hx
    have gap : ∀ (j : Nat) y, i ≤ j → j < x → xs[j]? = some y → y.1 ≠ k := fun j y h1 h2 hj e => by
      have := hskip j h1 h2
      rw [has j y hj e] at this
      exact absurd this (by decide)
    refine B x b hit _ hx (fun e => ?_) fun e => ?_
    · rcases hH with ⟨rfl, hno⟩ | ⟨j, y, _, hj, hy, ey⟩
      · exact ⟨rfl, (R1 x b hx e).1, rfl, x + 1, some x, rfl, hrest', hlt, .inr ⟨x, b, rfl, Nat.lt_succ_self x, hx, e⟩⟩
      · have := one hy hx ey e
        omega
    · refine ⟨rfl, x + 1, hit, rfl, hrest', hlt, ?_⟩
      rcases hH with ⟨h0, hno⟩ | ⟨j, y, h1, hj, hy, ey⟩
      · refine .inl ⟨h0, fun j y hjx hj => ?_⟩
        by_cases c1 : j < i
        · exact hno j y c1 hj
        · by_cases c2 : j < x
          · exact gap j y (by omega) c2 hj
          · have : j = x := by omega
            subst this
            rw [hx] at hj
            cases hj
            exact e
      · exact .inr ⟨j, y, h1, by omega, hy, ey⟩
  · rintro b s' ⟨rfl, i, hit, rfl, hr, hi, hH⟩
    rcases hH with ⟨rfl, hno⟩ | ⟨j, y, rfl, hj, hy, ey⟩
    · refine R0 fun j x hj e => ?_
      by_cases c1 : j < i
      · exact hno j x c1 hj e
      · have hjl : j < es.size := by rw [sz]; exact (List.getElem?_eq_some_iff.mp hj).1
        have := List.filter_eq_nil_iff.mp hr.symm j (List.mem_range'_1.mpr ⟨by omega, by omega⟩)
        exact this (has j x hj e)
    · exact (R1 j y hy ey).2
theorem g_plain {d : Addr} {o : Obj} {es : Array DictEntry} {ep : Nat} {xs : List (KD × Value × Value)} {k : KD} {v : Value} {Q : Option Nat → Shared → Prop} (hu : A.units < cLine) (a : GIs P w s.heap k v) (ho : s.heap.get? d = some o) (hd : o.data = .dict es ep)
    (at' : ∀ j : Nat, es[j]? = (xs[j]?).map (gEnt P w)) (sz : es.size = xs.length) (his : ∀ x ∈ xs, GIs P w s.heap x.1 x.2.1) (hn : (xs.map (·.1)).Nodup) (hQ : Q (gIdx xs k) s) : wpAny (model P w) A (dictWalkPlain d v (gHash P w k) es (placesWithHash es.size (fun i => es[i]?.map (·.hash)) (gHash P w k))) Q E s := by
  unfold dictWalkPlain
  have has : ∀ (j : Nat) x, xs[j]? = some x → x.1 = k → ((es[j]?.map (·.hash)) == some (gHash P w k)) = true := fun j x hj e => by
    rw [at' j, hj]
    show (some (gHash P w x.1) == some (gHash P w k)) = true
    rw [e]
    simp
  refine wpAny_bind (wpAny_forIn_list _ (fun rest b s' => s' = s ∧ b = (none, ()) ∧ ∃ i, rest = (List.range' i (es.size - i)).filter (fun i => (es[i]?.map (·.hash)) == some (gHash P w k)) ∧ i ≤ es.size ∧ ∀ (j : Nat) x, j < i → xs[j]? = some x → x.1 ≠ k) _ ?_ ?_ _ _
    ⟨rfl, rfl, 0, by rw [placesWithHash, List.range_eq_range', Nat.sub_zero], Nat.zero_le _, fun j x hj => absurd hj (Nat.not_lt_zero _)⟩)
  · rintro x rest b s' ⟨rfl, rfl, i, hr, hi, hno⟩
    obtain ⟨hix, hxn, hpx, hskip, hrest⟩ := filter_range'_cons _ _ _ _ _ hr.symm
    have hlt : x < es.size := by omega
    have hx : xs[x]? = some (xs[x]'(by omega)) := List.getElem?_eq_getElem _
    generalize xs[x]'(by omega) = b at hx
    have hex : es[x]? = some (gEnt P w b) := by rw [at' x, hx]; rfl
    have more : b.1 ≠ k → ∃ i, rest = (List.range' i (es.size - i)).filter (fun i => (es[i]?.map (·.hash)) == some (gHash P w k)) ∧ i ≤ es.size ∧ ∀ (j : Nat) x, j < i → xs[j]? = some x → x.1 ≠ k := fun e => ⟨x + 1, by rw [hrest]; congr 2; omega, hlt, fun j y hjx hj => by
      by_cases c1 : j < i
      · exact hno j y c1 hj
      · by_cases c2 : j < x
        · intro z
          have := hskip j (by omega) c2
          rw [has j y hj z] at this
          exact absurd this (by decide)
        · have : j = x := by omega
          subst this
          rw [hx] at hj
          cases hj
          exact e⟩
    rw [hex]
    try dsimp only
    have hh : ((gEnt P w b).hash == gHash P w k) = true := by
      have := hpx
      rw [hex] at this
      simpa using this
    rw [if_pos hh]
    refine wpAny_bind (wpAny_dictEpoch ho hd (wpAny_bind ((his b (List.mem_of_getElem? hx)).eq hu a (wpAny_bind (wpAny_dictEpoch ho hd ?_)))))
    try dsimp only
    rw [if_neg (by simp)]
    by_cases e : b.1 = k
    · rw [decide_eq_true e, if_pos rfl]
      refine wpAny_bind (wpAny_rule (wpAny_pure (wpAny_pure ?_)))
      rw [← gIdx_some hn hx e]
      exact hQ
    · rw [decide_eq_false e, if_neg (by decide)]
      exact wpAny_bind (wpAny_rule (wpAny_pure ⟨rfl, rfl, more e⟩))
  · rintro b s' ⟨rfl, rfl, i, hr, hi, hno⟩
    refine wpAny_pure ?_
    rw [← gIdx_none (xs := xs) (k := k) fun j x hj e => ?_]
    · exact hQ
    · by_cases c1 : j < i
      · exact hno j x c1 hj e
      · have hjl : j < es.size := by rw [sz]; exact (List.getElem?_eq_some_iff.mp hj).1
        exact List.filter_eq_nil_iff.mp hr.symm j (List.mem_range'_1.mpr ⟨by omega, by omega⟩) (has j x hj e)
theorem g_find {d : Addr} {o : Obj} {es : Array DictEntry} {ep : Nat} {xs : List (KD × Value × Value)} {k : KD} {v : Value} {Q : Option Nat → Shared → Prop} (hu : A.units < cLine) (a : GIs P w s.heap k v) (ho : s.heap.get? d = some o) (hd : o.data = .dict es ep)
    (he : es.toList = xs.map (gEnt P w)) (his : ∀ x ∈ xs, GIs P w s.heap x.1 x.2.1) (hn : (xs.map (·.1)).Nodup) (hQ : Q (gIdx xs k) s) : wpAny (model P w) A (dictFind d v (gHash P w k)) Q E s := by
  have at' : ∀ j : Nat, es[j]? = (xs[j]?).map (gEnt P w) := fun j => by rw [← Array.getElem?_toList, he, List.getElem?_map]
  have sz : es.size = xs.length := by rw [← Array.length_toList, he, List.length_map]
  have key : ∀ (j : Nat) x, xs[j]? = some x → x.1 = k → ((es[j]?.map (·.hash)) == some (gHash P w k)) = true := fun j x hj e => by
    rw [at' j, hj]
    show (some (gHash P w x.1) == some (gHash P w k)) = true
    rw [e]
    simp
  have mem : ∀ e ∈ es, ∃ x ∈ xs, e = gEnt P w x := fun e hin => by
    obtain ⟨x, hx, z⟩ := List.mem_map.mp (show e ∈ xs.map (gEnt P w) from he ▸ Array.mem_toList_iff.mpr hin)
    exact ⟨x, hx, z.symm⟩
  have nostr : ∀ z t, v ≠ .str z t := fun z t e => by
    rw [e] at a
    cases k with
    | non => cases a
    | int i => obtain ⟨_, q⟩ := a; cases q
    | tup ks => obtain ⟨_, q, _⟩ := a; cases q
  have anyF : ¬ (es.any fun e => e.key == v && e.hash != gHash P w k) = true := by
    rw [← Array.any_toList, List.any_eq_true]
    rintro ⟨e, hin, hc⟩
    obtain ⟨x, hx, rfl⟩ := mem e (Array.mem_toList_iff.mp hin)
    rw [Bool.and_eq_true] at hc
    have e1 : x.2.1 = v := eq_of_beq hc.1
    have e2 := his x hx
    rw [e1] at e2
    have e3 := e2.inj a
    have e4 : (gHash P w x.1 != gHash P w k) = true := hc.2
    rw [e3] at e4
    simp at e4
  have st : ∀ u ∈ (placesWithHash es.size (fun i => es[i]?.map (·.hash)) (gHash P w k)).filterMap (fun i => es[i]?.map (·.key)), ∃ k', GIs P w s.heap k' u := fun u hu' => by
    obtain ⟨i, _, hi⟩ := List.mem_filterMap.mp hu'
    rw [at' i] at hi
    cases e : xs[i]? with
    | none => rw [e] at hi; cases hi
    | some x =>
      rw [e] at hi
      have e2 : x.2.1 = u := by simpa [gEnt] using hi
      exact ⟨x.1, e2 ▸ his x (List.mem_of_getElem? e)⟩
  have look : ∀ (x : Nat) (b : KD × Value × Value) {R : Bool → Shared → Prop}, xs[x]? = some b → R (decide (b.1 = k)) s → wpAny (model P w) A (eqBool b.2.1 v) R E s := fun x b R hx r => (his b (List.mem_of_getElem? hx)).eq hu a r
  have noneQ : (∀ (j : Nat) x, xs[j]? = some x → x.1 ≠ k) → Q none s := fun h => by rw [← gIdx_none h]; exact hQ
  have someQ : ∀ (j : Nat) x, xs[j]? = some x → x.1 = k → Q (some j) s := fun j x hj e => by rw [← gIdx_some hn hj e]; exact hQ
  unfold dictFind
  try with_reducible refine wpAny_holding ?_
  refine wpAny_bind (wpAny_dictEntries ho hd ?_)
  have vc : v = .none ∨ (∃ i t, v = .int i t) ∨ ∃ p, v = .ref p := by
    cases k with
    | non => exact .inl a
    | int i => exact .inr (.inl ⟨i, a⟩)
    | tup ks => exact .inr (.inr ⟨a.choose, a.choose_spec.1⟩)
  by_cases hv : (v :: (placesWithHash es.size (fun i => es[i]?.map (·.hash)) (gHash P w k)).filterMap (fun i => es[i]?.map (·.key))).all carriedByValue = true
  · rcases vc with rfl | ⟨i, t, rfl⟩ | ⟨p, rfl⟩
    · dsimp only
      rw [if_pos hv]
      exact g_plain hu a ho hd at' sz his hn hQ
    · dsimp only
      rw [if_pos hv]
      exact g_plain hu a ho hd at' sz his hn hQ
    · exact absurd hv (by simp [carriedByValue])
  · rcases vc with rfl | ⟨i, t, rfl⟩ | ⟨p, rfl⟩ <;> dsimp only <;> rw [if_neg hv] <;> (try rw [if_neg anyF]) <;> refine wpAny_ite_split (fun _ => ?_) (fun _ => ?_) <;> (first | refine wpAny_bind (wpAny_pure ?_) | refine wpAny_bind (g_tell a st ?_)) <;> (
      rw [if_neg (by simp)]
      refine wpAny_bind (g_loop at' sz hn (fun i b hit R' hx y n => ?_) (fun h => wpAny_pure (noneQ h)) fun j x hj e => ⟨wpAny_pure (someQ j x hj e), wpAny_pure (someQ j x hj e)⟩)
      have hex : es[i]? = some (gEnt P w b) := by rw [at' i, hx]; rfl
      rw [hex]
      dsimp only
      by_cases hh : ((gEnt P w b).hash == gHash P w k) = true
      · rw [if_pos hh]
        refine wpAny_bind (wpAny_dictEpoch ho hd (wpAny_bind (look i b hx (wpAny_bind (wpAny_dictEpoch ho hd ?_)))))
        rw [if_neg (by simp)]
        by_cases e : b.1 = k
        · obtain ⟨rfl, y1, y2⟩ := y e
          rw [decide_eq_true e, if_pos rfl, if_neg (by decide)]
          refine wpAny_bind (wpAny_rule ?_)
          split
          · exact wpAny_pure y1
          · exact wpAny_pure y2
        · rw [decide_eq_false e, if_neg (by decide)]
          refine wpAny_bind (wpAny_rule ?_)
          rw [if_neg (by simp)]
          exact wpAny_pure (n e)
      · rw [if_neg hh]
        exact wpAny_pure (n fun e => hh (by
          show (gHash P w b.1 == gHash P w k) = true
          rw [e]
          simp)))
end
end L2
set_option maxHeartbeats 4000000
namespace L2
open PySem PySem.Spec PySem.W PyProof.Rows
section
variable {α β : Type}
def vG (kvs : List (KD × α × β)) (k : KD) : Option β := (kvs.find? fun e => decide (e.1 = k)).map (·.2.2)
def pG (kvs : List (KD × α × β)) (k : KD) (key : α) (v : β) : List (KD × α × β) := if (vG kvs k).isSome = true then kvs.map (fun e => if e.1 = k then (e.1, e.2.1, v) else e) else kvs ++ [(k, key, v)]
theorem vG_some {kvs : List (KD × α × β)} {k : KD} {i : Nat} {e : KD × α × β} (hn : (kvs.map (·.1)).Nodup) (h : kvs[i]? = some e) (he : e.1 = k) : vG kvs k = some e.2.2 := by
  unfold vG
  induction kvs generalizing i with
  | nil => cases h
  | cons x r ih =>
    rw [List.map_cons, List.nodup_cons] at hn
    rw [List.find?_cons]
    cases i with
    | zero => cases h; rw [decide_eq_true he]; rfl
    | succ i =>
      have h' : r[i]? = some e := by simpa using h
      have hx : ¬ x.1 = k := fun z => hn.1 (by rw [z, ← he]; exact List.mem_map.mpr ⟨e, List.mem_of_getElem? h', rfl⟩)
      rw [decide_eq_false hx]
      exact ih hn.2 h'
theorem vG_none {kvs : List (KD × α × β)} {k : KD} (h : ∀ e ∈ kvs, e.1 ≠ k) : vG kvs k = none := by
  unfold vG
  rw [List.find?_eq_none.mpr fun e he => by rw [decide_eq_true_eq]; exact h e he]
  rfl
theorem vG_no {kvs : List (KD × α × β)} {k : KD} (h : vG kvs k = none) : ∀ e ∈ kvs, e.1 ≠ k := fun e he z => by
  unfold vG at h
  rw [Option.map_eq_none_iff, List.find?_eq_none] at h
  exact h e he (decide_eq_true z)
theorem vG_put (kvs : List (KD × α × β)) (k k' : KD) (key : α) (v : β) : vG (pG kvs k key v) k' = if k' = k then some v else vG kvs k' := by
  unfold pG
  by_cases hs : (vG kvs k).isSome = true
  · rw [if_pos hs]
    obtain ⟨u, hu⟩ := Option.isSome_iff_exists.mp hs
    clear hs
    unfold vG at *
    induction kvs with
    | nil => simp at hu
    | cons x r ih =>
      rw [List.map_cons, List.find?_cons]
      rw [List.find?_cons] at hu ⊢
      by_cases hx : x.1 = k
      · rw [if_pos hx]
        by_cases hk : k' = k
        · subst hk
          rw [if_pos rfl]
          simp [hx]
        · rw [if_neg hk]
          have : ¬ x.1 = k' := fun z => hk (z.symm.trans hx)
          simp only [this, decide_false]
          clear hu ih
          induction r with
          | nil => rfl
          | cons y r ih2 =>
            rw [List.map_cons, List.find?_cons, List.find?_cons]
            by_cases hy : y.1 = k
            · have hy' : ¬ y.1 = k' := fun z => hk (z.symm.trans hy)
              rw [if_pos hy]
              simp only [hy', decide_false]
              exact ih2
            · rw [if_neg hy]
              by_cases hy' : y.1 = k'
              · simp [hy']
              · simp only [hy', decide_false]
                exact ih2
      · rw [if_neg hx]
        simp only [hx, decide_false] at hu
        by_cases hx' : x.1 = k'
        · have : ¬ k' = k := fun z => hx (hx'.trans z)
          rw [if_neg this]
          simp [hx']
        · simp only [hx', decide_false]
          exact ih hu
  · rw [if_neg hs]
    have hno := vG_no (kvs := kvs) (k := k) (by cases e : vG kvs k with
      | none => rfl
      | some u => rw [e] at hs; exact absurd rfl hs)
    unfold vG
    rw [List.find?_append]
    by_cases hk : k' = k
    · subst hk
      rw [if_pos rfl, List.find?_eq_none.mpr fun e he => by rw [decide_eq_true_eq]; exact hno e he]
      simp
    · rw [if_neg hk]
      cases e : List.find? (fun e => decide (e.1 = k')) kvs with
      | some x => rfl
      | none =>
        have : ¬ k = k' := fun z => hk z.symm
        simp [this]
theorem pG_keys (kvs : List (KD × α × β)) (k : KD) (key : α) (v : β) : (pG kvs k key v).map (·.1) = if (vG kvs k).isSome = true then kvs.map (·.1) else kvs.map (·.1) ++ [k] := by
  unfold pG
  split
  · rw [List.map_map]
    refine List.map_congr_left fun e _ => ?_
    show (if e.1 = k then (e.1, e.2.1, v) else e).1 = e.1
    split <;> rfl
  · rw [List.map_append]
    rfl
theorem pG_len (kvs : List (KD × α × β)) (k : KD) (key : α) (v : β) : (pG kvs k key v).length ≤ kvs.length + 1 := by
  unfold pG
  split
  · rw [List.length_map]; omega
  · rw [List.length_append, List.length_singleton]; exact Nat.le_refl _
theorem pG_nodup {kvs : List (KD × α × β)} {k : KD} {key : α} {v : β} (h : (kvs.map (·.1)).Nodup) : ((pG kvs k key v).map (·.1)).Nodup := by
  rw [pG_keys]
  split
  · exact h
  · rename_i hs
    refine nd_add h fun hm => ?_
    obtain ⟨e, he, rfl⟩ := List.mem_map.mp hm
    exact vG_no (kvs := kvs) (k := e.1) (by cases e' : vG kvs e.1 with
      | none => rfl
      | some u => rw [e'] at hs; exact absurd rfl hs) e he rfl
end
section
variable {P : Program} {w : World} {A : Around} {E : Value → Shared → Prop} {s : Shared}
def GDict (P : Program) (w : World) (h : Heap) (d : Addr) (xs : List (KD × Value × Value)) : Prop :=
  ∃ o es ep, h.get? d = some o ∧ o.ExactDict ∧ o.data = .dict es ep ∧ es.toList = xs.map (gEnt P w) ∧ (∀ x ∈ xs, GIs P w h x.1 x.2.1) ∧ (xs.map (·.1)).Nodup
theorem GDict.typeIs {d : Addr} {xs : List (KD × Value × Value)} (g : GDict P w s.heap d xs) : s.TypeIs (.ref d) "dict" := let ⟨o, _, _, ho, hc, _⟩ := g; ⟨o, ho, hc.1⟩
theorem gIdx_get {xs : List (KD × Value × Value)} {k : KD} {j : Nat} (h : gIdx xs k = some j) : ∃ x, xs[j]? = some x ∧ x.1 = k := by
  unfold gIdx at h
  rw [List.findIdx?_eq_some_iff_getElem] at h
  obtain ⟨hj, h1, _⟩ := h
  exact ⟨xs[j], List.getElem?_eq_getElem hj, by simpa using h1⟩
theorem gIdx_no {xs : List (KD × Value × Value)} {k : KD} (h : gIdx xs k = none) : ∀ e ∈ xs, e.1 ≠ k := fun e he => by
  unfold gIdx at h
  rw [List.findIdx?_eq_none_iff] at h
  simpa using h e he
theorem gds_get {d : Addr} {xs : List (KD × Value × Value)} {k : KD} {v : Value} {Q : Option Value → Shared → Prop} (hu : A.units < cLine) (a : GIs P w s.heap k v) (g : GDict P w s.heap d xs) (h : Q (vG xs k) { s with toks := s.toks + gDraws P w k }) : wpAny (model P w) A (dictGet d v) Q E s := by
  obtain ⟨o, es, ep, ho, _, hd, he, his, hn⟩ := g
  unfold dictGet
  try with_reducible refine wpAny_holding ?_
  refine wpAny_bind (a.hash hu (wpAny_bind (g_find (s := { s with toks := s.toks + gDraws P w k }) hu a ho hd he his hn ?_)))
  cases e : gIdx xs k with
  | none =>
    rw [vG_none (gIdx_no e)] at h
    exact wpAny_pure h
  | some j =>
    obtain ⟨x, hx, ex⟩ := gIdx_get e
    rw [vG_some hn hx ex] at h
    refine wpAny_bind (wpAny_dictEntries (s := { s with toks := s.toks + gDraws P w k }) ho hd ?_)
    rw [← Array.getElem?_toList, he, List.getElem?_map, hx]
    exact wpAny_pure h
theorem modify_at {xs : List (KD × Value × Value)} {k : KD} {v : Value} {j : Nat} {x : KD × Value × Value} (hn : (xs.map (·.1)).Nodup) (hx : xs[j]? = some x) (ex : x.1 = k) :
    (xs.map (gEnt P w)).modify j (fun e => { e with val := v }) = (xs.map fun e => if e.1 = k then (e.1, e.2.1, v) else e).map (gEnt P w) := by
  apply List.ext_getElem?
  intro i
  rw [List.getElem?_modify, List.getElem?_map, List.getElem?_map, List.getElem?_map]
  cases hi : xs[i]? with
  | none => simp
  | some y =>
    by_cases e : j = i
    · subst e
      rw [hx] at hi
      cases hi
      simp [ex, gEnt]
    · have hy : ¬ y.1 = k := fun z => e ((List.getElem?_inj (by rw [List.length_map]; exact (List.getElem?_eq_some_iff.mp hx).1) hn).mp (by rw [List.getElem?_map, List.getElem?_map, hx, hi]; simp [ex, z]))
      simp [e, hy]
theorem gds_keep {h h' : Heap} {d : Addr} {o : Obj} {es : Array DictEntry} {ep : Nat} (ho : h.get? d = some o) (hc : o.ExactDict) (hs : Heap.SameBut d h h') {k : KD} {v : Value} (a : GIs P w h k v) : GIs P w h' k v := a.ext fun b o' hb hcl => (hs.2 b (fun z => by
  rw [z, ho] at hb
  cases hb
  rw [hc.1] at hcl
  exact absurd hcl (by decide))).trans hb
theorem gds_set {d : Addr} {xs : List (KD × Value × Value)} {k : KD} {v val : Value} {Q : Unit → Shared → Prop} (hu : A.units < cLine) (a : GIs P w s.heap k v) (g : GDict P w s.heap d xs) (hsz : xs.length ≤ sizeLine)
    (hQ : ∀ h', GDict P w h' d (pG xs k v val) → Heap.SameBut d s.heap h' → Q () { s with heap := h', toks := s.toks + gDraws P w k }) : wpAny (model P w) A (dictSet d v val) Q E s := by
  obtain ⟨o, es, ep, ho, hc, hd, he, his, hn⟩ := g
  have sz : es.size = xs.length := by rw [← Array.length_toList, he, List.length_map]
  have keep : ∀ h', Heap.SameBut d s.heap h' → ∀ x ∈ pG xs k v val, GIs P w h' x.1 x.2.1 := fun h' hs x hx => by
    unfold pG at hx
    split at hx
    · obtain ⟨y, hy, rfl⟩ := List.mem_map.mp hx
      have := gds_keep (es := es) (ep := ep) ho hc hs (his y hy)
      split <;> exact this
    · rcases List.mem_append.mp hx with hx | hx
      · exact gds_keep (es := es) (ep := ep) ho hc hs (his x hx)
      · rw [List.mem_singleton.mp hx]
        exact gds_keep (es := es) (ep := ep) ho hc hs a
  unfold dictSet
  try with_reducible refine wpAny_holding ?_
  refine wpAny_bind (a.hash hu ?_)
  unfold dictSetHashed
  try with_reducible refine wpAny_holding ?_
  refine wpAny_bind (g_find (s := { s with toks := s.toks + gDraws P w k }) hu a ho hd he his hn ?_)
  cases e : gIdx xs k with
  | none =>
    have hv := vG_none (gIdx_no e)
    refine wpAny_bind (wpAny_rule (wpAny_updateDictKeys (hz := by omega) (s := { s with toks := s.toks + gDraws P w k }) ho hd (hQ _ ⟨_, _, ep + 1, Heap.get?_update_self _ ho (Obj.isFreed_of_dict (Obj.data_mapDictKeys hd _)), hc.mapDictKeys _, Obj.data_mapDictKeys hd _, ?_, keep _ (Heap.SameBut.update ..), pG_nodup hn⟩ (Heap.SameBut.update ..))))
    unfold pG
    rw [hv, if_neg (by decide)]
    simp [he, gEnt]
  | some j =>
    obtain ⟨x, hx, ex⟩ := gIdx_get e
    have hv := vG_some hn hx ex
    refine wpAny_bind (wpAny_rule (wpAny_bind (wpAny_updateDict (s := { s with toks := s.toks + gDraws P w k }) ho hd (wpAny_point (hQ _ ⟨_, _, ep, Heap.get?_update_self _ ho (Obj.isFreed_of_dict (Obj.data_mapDict hd _)), hc.mapDict _, Obj.data_mapDict hd _, ?_, keep _ (Heap.SameBut.update ..), pG_nodup hn⟩ (Heap.SameBut.update ..))))))
    unfold pG
    rw [hv, if_pos (show (some x.2.2).isSome = true from rfl)]
    have := modify_at (P := P) (w := w) (v := val) hn hx ex
    rw [← he] at this
    obtain ⟨l⟩ := es
    simpa using this
end
end L2
set_option maxHeartbeats 4000000
namespace L2
open PySem PySem.Spec PySem.W PyProof.Rows
abbrev GP (H : Hp) : KD × V × V → KD × Value × Value → Prop := fun p q => p.1 = q.1 ∧ GK H p.1 p.2.1 ∧ RelV p.2.1 q.2.1 ∧ RelV p.2.2 q.2.2
section
variable {X : Cx} {pins : List (Addr × Obj)} {σ : St} {H : Hp} {s : Shared} {a : Addr} {y v : V} {u r : Value} {k : KD} {kvs : List (KD × V × V)} {A : Around} {E : Value → Shared → Prop}
theorem GK.is (I : Inv X pins σ H s) (g : GK H k y) (ry : RelV y u) : GIs X.prog X.w s.heap k u := by
  cases k with
  | non => cases g; exact ry
  | int i => cases g; exact ry
  | tup ks =>
    obtain ⟨b, rfl, hb⟩ := g
    exact ⟨b, ry, key_of I.hok hb⟩
theorem gp_mem {F : KD × V × V → KD × Value × Value → Prop} : ∀ {l : List (KD × V × V)} {m : List (KD × Value × Value)}, Paired F l m → ∀ x ∈ m, ∃ p ∈ l, F p x
  | _, _, .nil, x, h => nomatch h
  | _, _, .cons f t, x, h => by
    rcases List.mem_cons.mp h with rfl | h
    · exact ⟨_, List.mem_cons_self, f⟩
    · obtain ⟨p, hp, q⟩ := gp_mem t x h
      exact ⟨p, List.mem_cons_of_mem _ hp, q⟩
theorem gp_val : ∀ {l : List (KD × V × V)} {m : List (KD × Value × Value)}, Paired (GP H) l m → RelO (vG l k) (vG m k)
  | _, _, .nil => trivial
  | _, _, .cons (a := p) (b := q) f t => by
    have ih := gp_val t
    unfold vG at ih ⊢
    rw [List.find?_cons, List.find?_cons, ← f.1]
    by_cases e : p.1 = k
    · rw [decide_eq_true e]; exact f.2.2.2
    · rw [decide_eq_false e]; exact ih
theorem gp_map (rv : RelV v r) : ∀ {l : List (KD × V × V)} {m : List (KD × Value × Value)}, Paired (GP H) l m → Paired (GP H) (l.map fun e => if e.1 = k then (e.1, e.2.1, v) else e) (m.map fun e => if e.1 = k then (e.1, e.2.1, r) else e)
  | _, _, .nil => .nil
  | _, _, .cons (a := p) (b := q) f t => by
    refine .cons ?_ (gp_map rv t)
    show GP H (if p.1 = k then (p.1, p.2.1, v) else p) (if q.1 = k then (q.1, q.2.1, r) else q)
    rw [← f.1]
    split
    · exact ⟨rfl, f.2.1, f.2.2.1, rv⟩
    · exact f
theorem gp_put {l : List (KD × V × V)} {m : List (KD × Value × Value)} (t : Paired (GP H) l m) (g : GK H k y) (ry : RelV y u) (rv : RelV v r) : Paired (GP H) (pG l k y v) (pG m k u r) := by
  have e : (vG l k).isSome = (vG m k).isSome := (gp_val t).isSome_eq
  unfold pG
  rw [e]
  split
  · exact gp_map rv t
  · exact Paired.snoc t ⟨rfl, g, ry, rv⟩
theorem gp_len : ∀ {l : List (KD × V × V)} {m : List (KD × Value × Value)}, Paired (GP H) l m → l.length = m.length
  | _, _, .nil => rfl
  | _, _, .cons _ t => by rw [List.length_cons, List.length_cons, gp_len t]
theorem gd_rd (I : Inv X pins σ H s) (e : Rd H a (.dG kvs)) : kvs.length ≤ sizeLine ∧ (a == sysModules) = false ∧ ∃ xs, Paired (GP H) kvs xs ∧ GDict X.prog X.w s.heap a xs := by
  obtain ⟨z, y, xs, r, o, es, ep, h1, h2, h3, h4, h5⟩ := (show ObjOk X.prog X.w H s.heap a (.dG kvs) from e.ok I.hok)
  refine ⟨z, y, xs, r, o, es, ep, h1, h2, h3, h4, fun x hx => ?_, h5⟩
  obtain ⟨p, hp, f⟩ := gp_mem r x hx
  rw [← f.1]
  exact f.2.1.is I f.2.2.1
theorem gd_getItem {Q : Value → Shared → Prop} (hu : A.units + 1 < cLine) (I : Inv X pins σ H s) (e : Rd H a (.dG kvs)) (g : GK H k y) (l : vG kvs k = some v) (ry : RelV y u) (h : ∀ w' s', Inv X pins σ H s' → RelV v w' → Q w' s') :
    wpAny (model X.prog X.w) A (getItem (.ref a) u) Q E s := by
  obtain ⟨z, hd, xs, rel, dd⟩ := gd_rd I e
  obtain ⟨w', hw, rw'⟩ := RelO.some_of (v := v) (o := vG xs k) (by rw [← l]; exact gp_val rel)
  unfold getItem
  try with_reducible refine wpAny_holding ?_
  refine wpAny_bind (wpAny_sequenceKey dd.typeIs (by decide) (wpAny_bind (wpAny_callSpecial?_slot (name := Str.ofString "__getitem__") dd.typeIs F.slot_dict_getitem (wpAny_call_entry F.slot_dict_getitem dd.typeIs F.entry_dict_getitem ?_ (F.args_dict_getitem_2 _ _)))))
  show wpAny (model X.prog X.w) _ (dictGet a u >>= _) _ _ s
  refine wpAny_bind (gds_get (show A.in1.units < cLine from hu) (g.is I ry) dd ?_)
  rw [hw]
  exact wpAny_pure ⟨w', rfl, wpAny_pure (h w' _ (I.tok _) rw')⟩
theorem gd_contains {Q : Bool → Shared → Prop} (hu : A.units + 1 < cLine) (I : Inv X pins σ H s) (e : Rd H a (.dG kvs)) (g : GK H k y) (ry : RelV y u) (h : ∀ s', Inv X pins σ H s' → Q (vG kvs k).isSome s') :
    wpAny (model X.prog X.w) A (contains (.ref a) u) Q E s := by
  obtain ⟨z, hd, xs, rel, dd⟩ := gd_rd I e
  have eo : (vG kvs k).isSome = (vG xs k).isSome := (gp_val rel).isSome_eq
  unfold contains
  try with_reducible refine wpAny_holding ?_
  refine wpAny_bind (wpAny_specialOf dd.typeIs F.slot_dict_contains.lookup ?_)
  show wpAny (model X.prog X.w) A (if (some (Value.builtin "dict.__contains__") == some Value.none) = true then _ else _) _ E s
  rw [if_neg (by rw [beq_builtin_none]; decide)]
  refine wpAny_bind (wpAny_callSpecialUnlessNone?_slot (name := Str.ofString "__contains__") dd.typeIs F.slot_dict_contains (wpAny_call_entry F.slot_dict_contains dd.typeIs F.entry_dict_contains ?_ (F.args_dict_contains_2 _ _)))
  show wpAny (model X.prog X.w) _ (dictGet a u >>= _) _ _ s
  refine wpAny_bind (gds_get (show A.in1.units < cLine from hu) (g.is I ry) dd ?_)
  cases hf : vG xs k with
  | some p =>
    rw [hf] at eo
    refine wpAny_pure ⟨Value.bool true, rfl, wpAny_truthy_bool ?_⟩
    have := h _ (I.tok (s.toks + gDraws X.prog X.w k))
    rw [eo] at this
    exact this
  | none =>
    rw [hf] at eo
    show wpAny (model X.prog X.w) _ (Builtin.Dict.pendingKey? a u >>= _) _ _ _
    refine wpAny_bind (wpAny_pendingKey_other hd (wpAny_pure ⟨Value.bool false, rfl, wpAny_truthy_bool ?_⟩))
    have := h _ (I.tok (s.toks + gDraws X.prog X.w k))
    rw [eo] at this
    exact this
theorem gd_setItem {Q : Unit → Shared → Prop} (hu : A.units + 1 < cLine) (I : Inv X pins σ H s) (e : H a = some (.dG kvs)) (g : GK H k y) (hl : kvs.length < sizeLine) (ry : RelV y u) (rv : RelV v r) (h : ∀ s', Inv X pins σ (upd H a (.dG (pG kvs k y v))) s' → Q () s') :
    wpAny (model X.prog X.w) A (setItem (.ref a) u r) Q E s := by
  obtain ⟨z, hd, xs, rel, dd⟩ := gd_rd I (.inl e)
  unfold setItem
  try with_reducible refine wpAny_holding ?_
  refine wpAny_bind (wpAny_sequenceKey dd.typeIs (by decide) (wpAny_bind (wpAny_callSpecial?_slot (name := Str.ofString "__setitem__") dd.typeIs F.slot_dict_setitem (wpAny_call_entry F.slot_dict_setitem dd.typeIs F.entry_dict_setitem ?_ (F.args_dict_setitem_3 _ _ _)))))
  show wpAny (model X.prog X.w) _ (Builtin.Dict.notOrdered "__setitem__" ⟨[.ref a, u, r], []⟩ >>= _) _ _ s
  refine wpAny_bind (wpAny_notOrdered_dict dd.typeIs ?_)
  show wpAny (model X.prog X.w) _ (dictSet a u r >>= _) _ _ s
  refine wpAny_bind (gds_set (show A.in1.units < cLine from hu) (g.is I ry) dd (by rw [← gp_len rel]; exact z) fun h' dd' hs' => wpAny_pure ⟨Value.none, rfl, wpAny_pure (h _ ?_)⟩)
  obtain ⟨q, es, ep, hq, h2, h3, h4, _, h5⟩ := dd'
  have hlen := pG_len kvs k y v
  refine d_write I (by rw [e]; exact True.intro) hs' ⟨q, hq⟩ ⟨by omega, hd, _, Paired.mapP (gp_put rel g ry rv) fun p q z => ⟨z.1, z.2.1.stay fun b xs hb => ?_, z.2.2⟩, q, es, ep, hq, h2, h3, h4, h5⟩
  rw [upd_ne (ne_of hb e (fun z => nomatch z))]
  exact hb
end
def tDGetG (td ty : TE) : TE := fun σ H Q => td σ H fun x H1 => ty σ H1 fun y H2 => ∃ a kvs k v, x = .ref a ∧ Rd H2 a (.dG kvs) ∧ GK H2 k y ∧ vG kvs k = some v ∧ Q v H2
def rInG (neg : Bool) : R2 := fun y x H Q => ∃ a kvs k, x = .ref a ∧ Rd H a (.dG kvs) ∧ GK H k y ∧ Q (.bl (if neg then !(vG kvs k).isSome else (vG kvs k).isSome)) H
def sDPutG (td ty tv : TE) : TS := fun D σ H => tv σ H fun v H1 => td σ H1 fun x H2 => ty σ H2 fun y H3 => ∃ a kvs k, x = .ref a ∧ H3 a = some (.dG kvs) ∧ GK H3 k y ∧ kvs.length < sizeLine ∧ D.nx σ (upd H3 a (.dG (pG kvs k y v)))
section
variable {X : Cx} {o i e value : Expr} {pos pos' tpos : Pos} {td ty tv : TE}
theorem pe_dgetG (hu : X.A.units + 1 < cLine) (ho : PE X o td) (hi : PE X i ty) (hs : NoSl i) : PE X (.Subscript o i pos) (tDGetG td ty) := by
  intro pins s σ H Q I h
  refine subD_of PySem.F.slot_dict_getitem.lookup hs (thn (ho pins s σ H _ I h) fun u s1 ⟨x, H1, I1, rx, q1⟩ => thn (hi pins s1 σ H1 _ I1 q1) fun iv s2 ⟨y, H2, I2, ry, a, kvs, k, v, ex, rd, g, l, q2⟩ => ?_)
  subst ex
  obtain rfl : u = Value.ref a := rx
  obtain ⟨_, _, xs, _, dd⟩ := gd_rd I2 rd
  exact ⟨dd.typeIs, gd_getItem hu I2 rd g l ry fun w' s3 I3 rw' => ⟨v, H2, I3, rw', q2⟩⟩
theorem op_inG (hu : X.A.units + 1 < cLine) : OpR X (compareOp .In) (rInG false) := by
  intro pins s σ H x y v u Q I rx ry h
  obtain ⟨a, kvs, k, rfl, rd, g, q⟩ := h
  cases ry
  show wpAny (model X.prog X.w) X.A (do return Value.bool (← contains (.ref a) v)) _ _ s
  exact wpAny_bind (gd_contains hu I rd g rx fun s' I' => wpAny_pure ⟨.bl _, H, I', rfl, q⟩)
theorem ps_dputG (hu : X.A.units + 1 < cLine) (ho : PE X o td) (hi : PE X i ty) (hv : PE X value tv) (hs : swapsWith value (some (.Subscript o i pos')) pos.line X.env = pure false) :
    PS X (.Assign [.Subscript o i pos'] value pos) (sDPutG td ty tv) := by
  intro pins s σ H D I h
  refine wpAny_Assign_Subscript (thn (hv pins s σ H _ I h) fun r s1 ⟨v, H1, I1, rv, q1⟩ => thn (ho pins s1 σ H1 _ I1 q1) fun u s2 ⟨x, H2, I2, rx, q2⟩ => thn (hi pins s2 σ H2 _ I2 q2) fun iv s3 ⟨y, H3, I3, ry, a, kvs, k, ex, e, g, hl, q3⟩ => ?_) hs
  subst ex
  obtain rfl : u = Value.ref a := rx
  exact gd_setItem hu I3 e g hl ry rv fun s4 I4 => ⟨σ, _, I4, q3⟩
def tDctG : TE := fun _ H Q => ∀ p H', H p = none → Same H H' → H' p = some (.dG []) → Q (.ref p) H'
theorem dg_empty {P : Program} {w : World} {H : Hp} (h : Heap) (hb : sysModules < h.objs.size) : ObjOk P w H (h.push { cls := .type "dict", data := .dict #[] }) h.objs.size (.dG []) :=
  ⟨Nat.zero_le _, beq_eq_false_iff_ne.mpr (Ne.symm (Nat.ne_of_lt hb)), [], .nil, _, #[], 0, Heap.get?_push_size _ rfl, ⟨rfl, rfl, rfl⟩, rfl, rfl, List.nodup_nil⟩
theorem pe_dctG : PE X (.Dict [] [] pos) tDctG := fun pins s σ H Q I h =>
  wpAny_Dict_empty ⟨.ref s.heap.objs.size, _, I.laid (a := s.heap.objs.size) (o := .dG []) (t' := s.toks) (fun _ _ q => Heap.get?_push_of_some _ q) (Nat.le_refl _) (dg_empty s.heap I.big), rfl, h _ _ (I.hok.fresh (Nat.le_refl _)) (Same.new (I.hok.fresh (Nat.le_refl _))) upd_same⟩
end
end L2
set_option maxHeartbeats 4000000
namespace L2
open PySem PySem.Spec PySem.W PyProof.Rows
section
variable {prog : Program} {w : World} {A : Around} {E : Value → Shared → Prop}
end
section
variable {P : Program} {w : World} {A : Around}
end
section
variable {X : Cx} {pins : List (Addr × Obj)} {σ : St} {H : Hp} {s : Shared}
end
end L2
set_option maxHeartbeats 4000000
namespace L2
open PySem PySem.Spec PySem.W PyProof.Rows
section
variable {P : Program} {w : World} {A : Around} {E : Value → Shared → Prop} {s : Shared}
theorem gm_get2 {d : Addr} {v dflt : Value} (hd : (d == sysModules) = false) : MeetsIn P w (Builtin.«dict.get» ⟨[.ref d, v, dflt], []⟩) (fun A R s => A.in1.units < cLine ∧ ∃ k xs, GIs P w s.heap k v ∧ GDict P w s.heap d xs ∧ R (.ok (.ret ((vG xs k).getD dflt))) { s with toks := s.toks + gDraws P w k }) :=
  .of_wp fun A R s ⟨hu, k, xs, a, g, h⟩ => by
    show wpAny (model P w) _ (dictGet d v >>= _) _ _ s
    refine wpAny_bind (gds_get hu a g ?_)
    cases e : vG xs k with
    | some u => rw [e] at h; exact wpAny_pure ⟨u, rfl, h⟩
    | none =>
      rw [e] at h
      show wpAny (model P w) _ (Builtin.Dict.missed d v >>= _) _ _ _
      exact wpAny_bind (wpAny_missed_other hd (wpAny_pure ⟨dflt, rfl, h⟩))
theorem gds_setdef {d : Addr} {xs : List (KD × Value × Value)} {k : KD} {v val : Value} {Q : Value → Shared → Prop} (hu : A.units < cLine) (a : GIs P w s.heap k v) (g : GDict P w s.heap d xs) (hsz : xs.length ≤ sizeLine)
    (h1 : ∀ u, vG xs k = some u → Q u { s with toks := s.toks + gDraws P w k })
    (h2 : vG xs k = none → ∀ h', GDict P w h' d (pG xs k v val) → Heap.SameBut d s.heap h' → Q val { s with heap := h', toks := s.toks + gDraws P w k }) : wpAny (model P w) A (dictSetDefault d v val) Q E s := by
  obtain ⟨o, es, ep, ho, hc, hd, he, his, hn⟩ := g
  have sz : es.size = xs.length := by rw [← Array.length_toList, he, List.length_map]
  unfold dictSetDefault
  try with_reducible refine wpAny_holding ?_
  refine wpAny_bind (a.hash hu (wpAny_bind (g_find (s := { s with toks := s.toks + gDraws P w k }) hu a ho hd he his hn ?_)))
  cases e : gIdx xs k with
  | none =>
    have hv := vG_none (gIdx_no e)
    refine wpAny_bind (wpAny_rule (wpAny_bind (wpAny_updateDictKeys (hz := by omega) (s := { s with toks := s.toks + gDraws P w k }) ho hd (wpAny_pure (h2 hv _ ⟨_, _, ep + 1, Heap.get?_update_self _ ho (Obj.isFreed_of_dict (Obj.data_mapDictKeys hd _)), hc.mapDictKeys _, Obj.data_mapDictKeys hd _, ?_, fun x hx => ?_, pG_nodup hn⟩ (Heap.SameBut.update ..))))))
    · unfold pG
      rw [hv, if_neg (by decide)]
      simp [he, gEnt]
    · unfold pG at hx
      rw [hv, if_neg (by decide)] at hx
      rcases List.mem_append.mp hx with hx | hx
      · exact gds_keep (es := es) (ep := ep) ho hc (Heap.SameBut.update ..) (his x hx)
      · rw [List.mem_singleton.mp hx]
        exact gds_keep (es := es) (ep := ep) ho hc (Heap.SameBut.update ..) a
  | some j =>
    obtain ⟨x, hx, ex⟩ := gIdx_get e
    have hv := vG_some hn hx ex
    refine wpAny_bind (wpAny_dictEntries (s := { s with toks := s.toks + gDraws P w k }) ho hd ?_)
    rw [← Array.getElem?_toList, he, List.getElem?_map, hx]
    exact wpAny_bind (wpAny_rule (wpAny_pure (h1 _ hv)))
theorem gm_setdef {d : Addr} {v dflt : Value} (hd : (d == sysModules) = false) : MeetsIn P w (Builtin.«dict.setdefault» ⟨[.ref d, v, dflt], []⟩) (fun A R s => A.in1.units < cLine ∧ ∃ k xs, GIs P w s.heap k v ∧ GDict P w s.heap d xs ∧ xs.length ≤ sizeLine ∧
      (∀ u, vG xs k = some u → R (.ok (.ret u)) { s with toks := s.toks + gDraws P w k }) ∧ (vG xs k = none → ∀ h', GDict P w h' d (pG xs k v dflt) → Heap.SameBut d s.heap h' → R (.ok (.ret dflt)) { s with heap := h', toks := s.toks + gDraws P w k })) :=
  .of_wp fun A R s ⟨hu, k, xs, a, g, hz, h1, h2⟩ => by
    unfold Builtin.«dict.setdefault»
    refine wpAny_bind ?_
    unfold Builtin.Dict.keyAndDefault
    refine wpAny_bind (wpAny_notOrdered_dict g.typeIs (wpAny_pure ?_))
    show wpAny (model P w) _ (if (d == sysModules) = true then _ else (dictSetDefault d v dflt >>= _)) _ _ s
    rw [if_neg (by rw [hd]; decide)]
    exact wpAny_bind (gds_setdef hu a g hz (fun u hv => wpAny_pure ⟨u, rfl, h1 u hv⟩) fun hv h' g' hs' => wpAny_pure ⟨dflt, rfl, h2 hv h' g' hs'⟩)
end
theorem getD_rel {a : Option V} {b : Option Value} {x : V} {u : Value} (h : RelO a b) (r : RelV x u) : RelV (a.getD x) (b.getD u) := by
  cases a <;> cases b <;> first | exact h | exact r | exact h.elim
section
variable {X : Cx}
def rGet2 : V → List V → Hp → VK → Prop := fun x vs H Q => ∃ a kvs k y d, x = .ref a ∧ vs = [y, d] ∧ H a = some (.dG kvs) ∧ GK H k y ∧ Q ((vG kvs k).getD d) H
def rSetDef : V → List V → Hp → VK → Prop := fun x vs H Q => ∃ a kvs k y d, x = .ref a ∧ vs = [y, d] ∧ H a = some (.dG kvs) ∧ GK H k y ∧ kvs.length < sizeLine ∧ (∀ u, vG kvs k = some u → Q u H) ∧ (vG kvs k = none → Q d (upd H a (.dG (pG kvs k y d))))
theorem mt_get2G (hu : X.A.units + 1 < cLine) : MtM X "dict.get" rGet2 := by
  intro pins s σ H x xs v us Q I rx rv h
  obtain ⟨a, kvs, k, y, d, rfl, rfl, ha, g, q⟩ := h
  obtain ⟨u, u2, rfl, ru, ru2⟩ := rv.two
  cases rx
  obtain ⟨z, hd, ys, rel, dd⟩ := gd_rd I (.inl ha)
  exact call_meetsIn F.slot_dict_get dd.typeIs F.entry_dict_get (F.args_dict_get_3 _ _ _) (gm_get2 hd) ⟨hu, k, ys, g.is I ru, dd, ⟨_, H, I.tok _, getD_rel (gp_val rel) ru2, q⟩⟩
theorem mt_setdefG (hu : X.A.units + 1 < cLine) : MtM X "dict.setdefault" rSetDef := by
  intro pins s σ H x xs v us Q I rx rv h
  obtain ⟨a, kvs, k, y, d, rfl, rfl, ha, g, hl, q1, q2⟩ := h
  obtain ⟨u, u2, rfl, ru, ru2⟩ := rv.two
  cases rx
  obtain ⟨z, hd, ys, rel, dd⟩ := gd_rd I (.inl ha)
  have eo := gp_val (k := k) rel
  refine call_meetsIn F.slot_dict_setdefault dd.typeIs F.entry_dict_setdefault (F.args_dict_setdefault_3 _ _ _) (gm_setdef hd) ⟨hu, k, ys, g.is I ru, dd, by rw [← gp_len rel]; exact z, fun w' hw => ?_, fun hw h' dd' hs' => ?_⟩
  · rw [hw] at eo
    cases e : vG kvs k with
    | none => rw [e] at eo; exact eo.elim
    | some v => rw [e] at eo; exact ⟨v, H, I.tok _, eo, q1 v e⟩
  · rw [hw] at eo
    cases e : vG kvs k with
    | some v => rw [e] at eo; exact eo.elim
    | none =>
      obtain ⟨q, es, ep, hq, h2, h3, h4, _, h5⟩ := dd'
      have hlen := pG_len kvs k y d
      refine ⟨d, upd H a (.dG (pG kvs k y d)), d_write I (by rw [ha]; exact True.intro) hs' ⟨q, hq⟩ ⟨by omega, hd, _, Paired.mapP (gp_put rel g ru ru2) fun p q z => ⟨z.1, z.2.1.stay fun b xs hb => ?_, z.2.2⟩, q, es, ep, hq, h2, h3, h4, h5⟩, ru2, q2 e⟩
      rw [upd_ne (ne_of hb ha (fun z => nomatch z))]
      exact hb
end
end L2
set_option maxHeartbeats 4000000
namespace L2
open PySem PySem.Spec PySem.W PyProof.Rows
section
variable {X : Cx}
end
theorem perm_ix {js : List Nat} {ix : List Nat} (h : ix.Perm (List.range js.length)) : (ix.map fun i => js.getD i 0).Perm js := by
  have := h.map fun i => js.getD i 0
  refine this.trans (.of_eq ?_)
  apply List.ext_getElem?
  intro i
  rw [List.getElem?_map]
  by_cases hi : i < js.length
  · rw [List.getElem?_range hi, List.getElem?_eq_getElem hi]
    show some (js.getD i 0) = _
    rw [List.getD_eq_getElem?_getD, List.getElem?_eq_getElem hi]; rfl
  · rw [List.getElem?_eq_none (by simpa using hi), List.getElem?_eq_none (by omega)]; rfl
theorem depth_le : ∀ {ds : List PyData} {k : Nat}, (∀ d ∈ ds, d.depth ≤ k) → PyData.depthAll ds ≤ k
  | [], _, _ => Nat.zero_le _
  | d :: ds, k, h => by
    have a := h d List.mem_cons_self
    have b := depth_le (ds := ds) fun x hx => h x (List.mem_cons_of_mem _ hx)
    show max d.depth (PyData.depthAll ds) ≤ k
    omega
end L2
set_option maxHeartbeats 4000000
namespace L2
open PySem PySem.Spec PySem.W PyProof.Rows
section
variable {P : Program} {w : World} {fs : List Addr} {H H1 : Hp} {h h1 h2 : Heap}
theorem Un.later (u : Un fs [] H H1 h h1) (k : ∀ b o, b < h.objs.size → h1.get? b = some o → h2.get? b = some o) : Un fs [] H H1 h h2 where
  keep := fun b o q n hb hx => k b o (Heap.lt_size q) (u.keep b o q n hb hx)
  slot := fun b o q n hb hx => let ⟨sl, e⟩ := u.slot b o q n hb hx; ⟨sl, k b _ (Heap.lt_size q) e⟩
  free := u.free
  there := fun b o q hx => let ⟨o', e⟩ := u.there b o q hx; ⟨o', k b o' (Heap.lt_size q) e⟩
  tups := u.tups
  frzs := u.frzs
  tbls := u.tbls
theorem HOk.other {a : Addr} (x : HOk P w H h) (k : ∀ b u, b ≠ a → h.get? b = some u → h2.get? b = some u) (hn : H a = none) : HOk P w H h2 := fun b o e => by
  have ne : ∀ {c u}, H c = some u → c ≠ a := fun q z => by rw [z, hn] at q; cases q
  refine (x b o e).stay (fun c u hc q => k c u ?_ q) (fun _ q => q) fun _ _ q => q
  rcases hc with rfl | hc
  · exact ne e
  · exact ne hc
theorem HOk.adopt {a : Addr} {o : HO} (x : HOk P w H h) (hn : H a = none) (new : ObjOk P w (upd H a o) h a o) : HOk P w (upd H a o) h := fun b u e => by
  by_cases hb : b = a
  · subst hb; rw [upd_same] at e; cases e; exact new
  · rw [upd_ne hb] at e
    refine (x b u e).stay (fun _ _ _ q => q) (fun c q => ?_) fun c xs q => ?_
    · rw [upd_ne (fun z => by rw [z, hn] at q; cases q)]; exact q
    · rw [upd_ne (fun z => by rw [z, hn] at q; cases q)]; exact q
theorem Un.adopt {a : Addr} {o : HO} (u : Un fs [] H H1 h h1) (ha : h.objs.size ≤ a) (hn : H1 a = none) : Un fs [] H (upd H1 a o) h h1 where
  keep := u.keep
  slot := u.slot
  free := fun b ob q n hx => by
    rw [upd_ne (Nat.ne_of_lt (Nat.lt_of_lt_of_le (Heap.lt_size q) ha))]
    exact u.free b ob q n hx
  there := u.there
  tups := fun b xs q => by
    have := u.tups b xs q
    rw [upd_ne (fun z => by rw [z, hn] at this; cases this)]; exact this
  frzs := fun b ob v q => by
    have := u.frzs b ob v q
    rw [upd_ne (fun z => by rw [z, hn] at this; cases this)]; exact this
  tbls := fun b ps q => by
    obtain ⟨m, this⟩ := u.tbls b ps q
    exact ⟨m, by rw [upd_ne (fun z => by rw [z, hn] at this; cases this)]; exact this⟩
end
def rSortK (K : PySem.W.Frag) (sp : Sp) : List V → Hp → VK → Prop := fun xs H Q => ∃ p ys ds t, xs = [.ref p] ∧ SqL K H p ys ∧ ds.length = ys.length ∧ KeysAre ds t ∧ ys.length < 64 ∧
  (∀ (m : Nat) y d H' (Q' : VK), ys[m]? = some y → ds[m]? = some d → Same H H' → (∀ H'' kv, Same H' H'' → DV K H'' kv d → Q' kv H'') → sp [y] H' Q' E0) ∧
  ∀ q H' ix, H q = none → Same H H' → SortIx ds ix → H' q = some (.lst (ix.map fun i => ys.getD i .non)) → Q (.ref q) H'
section
variable {X : Cx} {pins : List (Addr × Obj)} {σ : St} {H : Hp} {s : Shared} {k : Nat} {fa : Addr} {fd : FuncData} {ps : List Str} {sp : Sp}
structure KSt (X : Cx) (H : Hp) (s : Shared) (a kS : Addr) (e1 : Nat) (Hm : Hp) (s' : Shared) (ks : List Value) (kvs : List V) (ds : List PyData) : Prop where
  un : Un (frs X.stack) [] H Hm s.heap s'.heap
  hok : HOk X.prog X.w Hm s'.heap
  os : s'.os = s.os
  bare : AllBare s'.gens
  same : Same H Hm
  fa' : Hm a = none
  fk : Hm kS = none
  ga : s'.heap.get? a = some (seqObj "list" #[] e1)
  gk : ∃ e, s'.heap.get? kS = some (seqObj "list" ks.toArray e)
  vals : Vals kvs ks
  dv : DVs X.K Hm kvs ds
theorem dvs_snoc {K : PySem.W.Frag} {H : Hp} {x : V} {d : PyData} (h : DV K H x d) : ∀ {xs : List V} {ds : List PyData}, DVs K H xs ds → DVs K H (xs ++ [x]) (ds ++ [d])
  | _, _, .nil => .cons h .nil
  | _, _, .cons a t => .cons a (dvs_snoc h t)
theorem key_loop {A' : Around} {a kS : Addr} {e1 : Nat} {E : Value → Shared → Prop} {R : Shared → Prop} (hcall : ∀ (s' : Shared) (Hm : Hp) (x : Value) (y : V) (Q : VK), Env0 X.prog X.w X.K X.mg X.base A' X.stack s' Hm → Un (frs X.stack) [] H Hm s.heap s'.heap → Same H Hm → RelV y x → sp [y] Hm Q E0 → codeAny (model X.prog X.w) A' (.call (.ref fa) ⟨[x], []⟩) (CR CX0 X.stack X.prog X.w Hm s' Q E0) s') (hfr : A'.frames = X.A.frames) (I : Inv X pins σ H s) (ha : s.heap.objs.size ≤ a) (hk : s.heap.objs.size ≤ kS) (hak : a ≠ kS) (nfa : a ∉ frs X.stack) (nfk : kS ∉ frs X.stack)
    {body : Value → PUnit → Sem (ForInStep PUnit)} (hbody : ∀ x (s' : Shared) (R' : ForInStep PUnit → Shared → Prop), wpAny (model X.prog X.w) A' (call (.ref fa) [x]) (fun kv s2 => wpAny (model X.prog X.w) A' (Builtin.List.listUpdate (.ref kS) (·.push kv)) (fun _ s3 => R' (.yield ⟨⟩) s3) E s2) (fun _ _ => False) s' → wpAny (model X.prog X.w) A' (body x ⟨⟩) R' E s') :
    ∀ (r : List Value) (ry : List V) (rd : List PyData) (ks : List Value) (kvs : List V) (dd : List PyData) (Hm : Hp) (s' : Shared), Vals ry r → rd.length = ry.length →
      (∀ (m : Nat) y d H' (Q' : VK), ry[m]? = some y → rd[m]? = some d → Same H H' → (∀ H'' kv, Same H' H'' → DV X.K H'' kv d → Q' kv H'') → sp [y] H' Q' E0) →
      ks.length + r.length < 64 → KSt X H s a kS e1 Hm s' ks kvs dd →
      (∀ Hn s'' ks' kvs', KSt X H s a kS e1 Hn s'' ks' kvs' (dd ++ rd) → ks'.length = ks.length + r.length → R s'') → wpAny (model X.prog X.w) A' (forIn r PUnit.unit body) (fun _ s'' => R s'') E s'
  | [], ry, rd, ks, kvs, dd, Hm, s', rv, hl, hsp, hz, st, fin => by
    cases rv
    rw [List.length_nil] at hl
    rw [List.length_eq_zero_iff.mp hl] at fin
    rw [List.forIn_nil]
    refine wpAny_pure (fin Hm s' ks kvs ?_ rfl)
    rw [List.append_nil]
    exact st
  | x :: r, _, [], ks, kvs, dd, Hm, s', .cons _ _, hl, hsp, hz, st, fin => absurd hl (by simp)
  | x :: r, _, d :: rd, ks, kvs, dd, Hm, s', .cons (a := y) (l₁ := ry) r1 rv, hl, hsp, hz, st, fin => by
    rw [List.forIn_cons]
    have I' : Inv X pins σ Hm s' := I.call' st.os st.un st.hok st.bare (fun b z => absurd z (by simp))
    have e0 := I'.env0
    obtain ⟨ek, gk⟩ := st.gk
    refine wpAny_bind (hbody x s' _ ?_)
    refine wpAny_call (codeAny_mono (hcall s' Hm x y (fun kv H2 => Same Hm H2 ∧ DV X.K H2 kv d) ⟨hfr.trans e0.frames, e0.mod, e0.bs, e0.bsz, e0.funs, e0.frf, e0.hok, e0.bare⟩ st.un st.same r1 (hsp 0 y d Hm _ rfl rfl st.same fun H2 kv a1 a2 => ⟨a1, a2⟩)) fun res s2 hq => ?_)
    cases res with
    | error e => exact hq.elim
    | ok fl =>
      cases fl with
      | next => exact hq.elim
      | brk => exact hq.elim
      | cont => exact hq.elim
      | ret u =>
        obtain ⟨v, H2, os2, bare2, un2, hok2, rel, same2, dv2⟩ := hq
        have gk2 := un2.keep kS _ gk st.fk nfk (by simp)
        have ga2 := un2.keep a _ st.ga st.fa' nfa (by simp)
        have fk2 := un2.free kS _ gk st.fk (by simp)
        have fa2 := un2.free a _ st.ga st.fa' (by simp)
        have hz' : ks.length + (r.length + 1) < 64 := hz
        have z64 : 64 ≤ sizeLine := Nat.le_of_lt (small1000 (by decide))
        refine listUpdate_at gk2 rfl ?_ (by rw [List.size_toArray]; omega) (by rw [Array.size_push, List.size_toArray]; omega)
        obtain ⟨c2, g2⟩ : ∃ c2, (s2.heap.update kS (Obj.mapSeq (·.push u))).get? kS = some (seqObj "list" ((ks ++ [u]).toArray) c2) := by
          have ea : ks.toArray.push u = (ks ++ [u]).toArray := by simp
          exact ⟨_, by rw [← ea]; exact get?_update_seq gk2 (·.push u)⟩
        have sb := Heap.SameBut.update s2.heap kS (Obj.mapSeq (·.push u))
        refine key_loop hcall hfr I ha hk hak nfa nfk hbody r ry rd (ks ++ [u]) (kvs ++ [v]) (dd ++ [d]) H2 _ rv (by simpa using hl) (fun m y' d' H' Q' h1 h2 h3 h4 => hsp (m + 1) y' d' H' Q' (by simpa using h1) (by simpa using h2) h3 h4) (by rw [List.length_append, List.length_singleton]; omega) ⟨?_, ?_, os2.trans st.os, bare2, st.same.trans same2, fa2, fk2, (sb.2 a hak).trans ga2, ⟨c2, g2⟩, ?_, ?_⟩ fun Hn s'' ks' kvs' st' hl' => fin Hn s'' ks' kvs' ?_ ?_
        · exact (st.un.trans un2).later fun b o hb' e => (sb.2 b (Nat.ne_of_lt (Nat.lt_of_lt_of_le hb' hk))).trans e
        · exact hok2.other (fun b u' hb' e => (sb.2 b hb').trans e) fk2
        · exact st.vals.append (.cons rel .nil)
        · exact dvs_snoc dv2 (st.dv.same same2)
        · rw [List.append_assoc] at st'
          exact st'
        · rw [hl', List.length_append, List.length_singleton, List.length_cons]
          omega
theorem key_tail {A' : Around} {a kS : Addr} {e1 : Nat} {E : Value → Shared → Prop} {P : PySem.Fin → Shared → Prop} {Hn : Hp} {s' : Shared} {ks : List Value} {kvs : List V} {ds : List PyData} {st : SortSt} {out : List Value} {ov : List V} (hk : s.heap.objs.size ≤ kS) (ha : s.heap.objs.size ≤ a) (hak : a ≠ kS) (S : KSt X H s a kS e1 Hn s' ks kvs ds) (hz : ks.length < 64) (ho : out.length < 64) (hout : (arrOf st).map (·.2) = out.toArray) (hf : failedOf st = none) (rov : Vals ov out)
    (fin : ∀ s2 H2, Un (frs X.stack) [] H H2 s.heap s2.heap → HOk X.prog X.w H2 s2.heap → s2.os = s.os → AllBare s2.gens → Same H H2 → H2 a = some (.lst ov) → P (.done (.ret .none)) s2) : wpAny (model X.prog X.w) A' (ksk_tail a false e1 (.ref kS) st) P E s' := by
  obtain ⟨ek, gk⟩ := S.gk
  have z64 : 64 ≤ sizeLine := Nat.le_of_lt (small1000 (by decide))
  unfold ksk_tail
  try dsimp only
  rw [hout]
  have sb := Heap.SameBut.update s'.heap kS (Obj.mapSeq fun _ => (#[] : Array Value))
  have ga1 := (sb.2 a hak).trans S.ga
  refine wpAny_bind (listUpdate_at gk rfl (wpAny_bind (wpAny_letGo (wpAny_bind (seqEpoch_at ga1 rfl (wpAny_bind (listUpdate_at ga1 rfl ?_ (Nat.zero_le _) (by show out.toArray.size ≤ _; rw [List.size_toArray]; omega))))))) (by rw [List.size_toArray]; omega) (Nat.zero_le _))
  rw [hf]
  simp only [bne_self_eq_false, Bool.false_eq_true, if_false]
  have sb2 := Heap.SameBut.update (s'.heap.update kS (Obj.mapSeq fun _ => (#[] : Array Value))) a (Obj.mapSeq fun _ => out.toArray)
  obtain ⟨c2, g2⟩ : ∃ c2, ((s'.heap.update kS (Obj.mapSeq fun _ => (#[] : Array Value))).update a (Obj.mapSeq fun _ => out.toArray)).get? a = some (seqObj "list" out.toArray c2) := ⟨_, get?_update_seq ga1 fun _ => out.toArray⟩
  refine wpAny_pure (fin _ (upd Hn a (.lst ov)) ?_ ?_ S.os S.bare (S.same.trans (Same.new S.fa')) upd_same)
  · refine (S.un.later fun b o hb e => ?_).adopt ha S.fa'
    have h1 : b ≠ kS := Nat.ne_of_lt (Nat.lt_of_lt_of_le hb hk)
    have h2 : b ≠ a := Nat.ne_of_lt (Nat.lt_of_lt_of_le hb ha)
    exact (sb2.2 b h2).trans ((sb.2 b h1).trans e)
  · refine HOk.adopt ((S.hok.other (fun b u hb e => (sb.2 b hb).trans e) S.fk).other (fun b u hb e => (sb2.2 b hb).trans e) S.fa') S.fa' ⟨?_, out, c2, rov, g2⟩
    rw [rov.length]
    omega
theorem sorted_keyC {Q : VK} {us : List Value} {xs : List V} (hcall : ∀ (s' : Shared) (Hm : Hp) (x : Value) (y : V) (Q : VK), Env0 X.prog X.w X.K X.mg X.base X.A.in1.in1 X.stack s' Hm → Un (frs X.stack) [] H Hm s.heap s'.heap → Same H Hm → RelV y x → sp [y] Hm Q E0 → codeAny (model X.prog X.w) X.A.in1.in1 (.call (.ref fa) ⟨[x], []⟩) (CR CX0 X.stack X.prog X.w Hm s' Q E0) s') (hu : X.A.units + 3 + 61 < cLine) (I : Inv X pins σ H s) (rx : Vals xs us) (hh : rSortK X.K sp xs H Q) :
    wpAny (model X.prog X.w) X.A (call (.builtin "sorted") us [(Str.ofString "key", .ref fa)]) (EP X pins σ Q) X.xe s := by
  obtain ⟨p, ys, ds, t, rfl, hq, hdl, hk, h64, hsp, q⟩ := hh
  obtain ⟨u, rfl, ru⟩ := vals1 rx
  cases ru
  obtain ⟨vs, rv, pl, hz⟩ := I.list hq
  have hl := rv.length
  have zl : vs.length ≤ sizeLine := by omega
  refine call_function_entry_kw kind_sorted plain_sorted entry_sorted (ksk_s1 _ _) ?_
  unfold Builtin.«sorted»
  refine wpAny_bind (m := checkCount "sorted" 1 1 _) (wpAny_pure (wpAny_bind (collect_list pl.isList (wpAny_bind (wpAny_newList ?_ zl)) zl)))
  have hsz : ((s.heap.push (seqObj "list" #[] 0)).update s.heap.objs.size (Obj.mapSeq (· ++ vs.toArray))).objs.size = s.heap.objs.size + 1 := (Heap.size_update _ _ _).trans (size_push' _ _)
  have x1 : Ext s.heap (((s.heap.push (seqObj "list" #[] 0)).update s.heap.objs.size (Obj.mapSeq (· ++ vs.toArray))).push (seqObj "list" vs.toArray 0)) := ((Ext.push _ _).upd (Nat.le_refl _)).trans (.push _ _)
  have o1 : (((s.heap.push (seqObj "list" #[] 0)).update s.heap.objs.size (Obj.mapSeq (· ++ vs.toArray))).push (seqObj "list" vs.toArray 0)).get? (s.heap.objs.size + 1) = some (seqObj "list" vs.toArray 0) := hsz ▸ Heap.get?_push_size _ rfl
  show wpAny (model X.prog X.w) _ _ _ _ { s with heap := ((s.heap.push (seqObj "list" #[] 0)).update s.heap.objs.size (Obj.mapSeq (· ++ vs.toArray))).push (seqObj "list" vs.toArray 0) }
  rw [hsz]
  generalize ((s.heap.push (seqObj "list" #[] 0)).update s.heap.objs.size (Obj.mapSeq (· ++ vs.toArray))).push (seqObj "list" vs.toArray 0) = h1 at x1 o1 ⊢
  have ha : s.heap.objs.size ≤ s.heap.objs.size + 1 := Nat.le_succ _
  generalize s.heap.objs.size + 1 = a at ha o1 ⊢
  refine wpAny_bind (wpAny_holding (wpAny_call_entry_kw slot_list_sort ⟨_, o1, rfl⟩ entry_list_sort ?_ (ksk_l1 _ _)))
  show wpAny (model X.prog X.w) X.A.in1.in1 (Builtin.«list.sort» ⟨[.ref a], [(Str.ofString "key", .ref fa)]⟩) _ _ _
  rw [ksk_t1]
  unfold ksk_tree
  obtain ⟨e1, o2⟩ : ∃ e1, (h1.update a (Obj.mapSeq fun _ => (#[] : Array Value))).get? a = some (seqObj "list" #[] e1) := ⟨_, get?_update_seq o1 fun _ => #[]⟩
  have x2 : Ext s.heap (h1.update a (Obj.mapSeq fun _ => (#[] : Array Value))) := x1.upd ha
  refine wpAny_bind (listItems_at o1 rfl (wpAny_bind (listUpdate_at o1 rfl (wpAny_bind (seqEpoch_at o2 rfl (wpAny_bind (wpAny_newTuple (wpAny_bind (wpAny_newList (wpAny_holding ?_) (Nat.zero_le _))) zl)))) (by rw [List.size_toArray]; exact zl) (Nat.zero_le _))))
  have hkS : s.heap.objs.size ≤ ((h1.update a (Obj.mapSeq fun _ => (#[] : Array Value))).push (seqObj "tuple" vs.toArray 0)).objs.size := by
    rw [size_push', Heap.size_update]
    have : a < h1.objs.size := Heap.lt_size o1
    omega
  have hak : a ≠ ((h1.update a (Obj.mapSeq fun _ => (#[] : Array Value))).push (seqObj "tuple" vs.toArray 0)).objs.size := by
    rw [size_push', Heap.size_update]
    have : a < h1.objs.size := Heap.lt_size o1
    omega
  have o3 : (((h1.update a (Obj.mapSeq fun _ => (#[] : Array Value))).push (seqObj "tuple" vs.toArray 0)).push (seqObj "list" #[] 0)).get? a = some (seqObj "list" #[] e1) := Heap.get?_push_of_some _ (Heap.get?_push_of_some _ o2)
  have ok3 : (((h1.update a (Obj.mapSeq fun _ => (#[] : Array Value))).push (seqObj "tuple" vs.toArray 0)).push (seqObj "list" #[] 0)).get? ((h1.update a (Obj.mapSeq fun _ => (#[] : Array Value))).push (seqObj "tuple" vs.toArray 0)).objs.size = some (seqObj "list" #[] 0) := Heap.get?_push_size _ rfl
  have x3 : Ext s.heap (((h1.update a (Obj.mapSeq fun _ => (#[] : Array Value))).push (seqObj "tuple" vs.toArray 0)).push (seqObj "list" #[] 0)) := (x2.trans (.push _ _)).trans (.push _ _)
  show wpAny (model X.prog X.w) X.A.in1.in1 (ksk_rest a (.ref fa) false vs.toArray e1 (.ref ((h1.update a (Obj.mapSeq fun _ => (#[] : Array Value))).push (seqObj "tuple" vs.toArray 0)).objs.size)) _ _ { s with heap := ((h1.update a (Obj.mapSeq fun _ => (#[] : Array Value))).push (seqObj "tuple" vs.toArray 0)).push (seqObj "list" #[] 0) }
  generalize ((h1.update a (Obj.mapSeq fun _ => (#[] : Array Value))).push (seqObj "tuple" vs.toArray 0)).objs.size = kS at hkS hak ok3 ⊢
  generalize ((h1.update a (Obj.mapSeq fun _ => (#[] : Array Value))).push (seqObj "tuple" vs.toArray 0)).push (seqObj "list" #[] 0) = h3 at o3 ok3 x3 ⊢
  have nst : ∀ b, s.heap.objs.size ≤ b → b ∉ frs X.stack := fun b hb' hm => by
    rcases List.mem_cons.mp (I.stkSub b hm) with z | z
    · exact absurd (Nat.lt_of_lt_of_le I.lt hb') (by rw [z]; exact Nat.lt_irrefl _)
    · exact I.nofs hb' z
  have S0 : KSt X H s a kS e1 H { s with heap := h3 } [] [] [] := ⟨Un.kept x3, I.hok.kept x3, rfl, I.bare, Same.refl H, I.hok.fresh ha, I.hok.fresh hkS, o3, ⟨0, ok3⟩, .nil, .nil⟩
  unfold ksk_rest
  refine wpAny_bind (wpAny_rule ?_)
  first
    | rw [List.forIn_toArray]
    | (rw [← Array.forIn_toList]; simp only [List.toList_toArray])
  refine wpAny_bind (key_loop (R := fun s'' => wpAny (model X.prog X.w) X.A.in1.in1 (do let keys ← Builtin.List.listItems (.ref kS); ksk_end a false vs.toArray e1 (.ref kS) keys) _ _ s'') hcall rfl I ha hkS hak (nst a ha) (nst kS hkS) (fun x s' R' hx => ?_) vs ys ds [] [] [] H _ rv hdl hsp (by rw [List.length_nil]; omega) S0 fun Hn s'' ks kvs S hks => ?_)
  · refine wpAny_bind (wpAny_attempt (wpAny_mono hx (fun kv s2 h2 => ?_) fun _ _ z => z.elim))
    exact wpAny_bind (wpAny_mono h2 (fun _ s3 h3 => wpAny_pure h3) fun _ _ z => z)
  · rw [List.nil_append] at S
    rw [List.length_nil, Nat.zero_add] at hks
    obtain ⟨ek, gk⟩ := S.gk
    have hkl : ks.length = ds.length := by rw [hks, hdl, hl]
    have I' : Inv X pins σ Hn s'' := I.call' S.os S.un S.hok S.bare (fun b z => absurd z (by simp))
    obtain ⟨as, ra⟩ := S.dv.reads I' S.vals
    have W := swo_of hk.one
    refine wpAny_bind (listItems_at gk rfl ?_)
    have fin : ∀ (pm : Array Nat), Arr vs.length (ltK ds) pm → ∀ st : SortSt, (arrOf st).map (·.2) = List.toArray (pm.toList.map fun i => vs.getD i Value.none) → failedOf st = none → wpAny (model X.prog X.w) X.A.in1.in1 (ksk_tail a false e1 (.ref kS) st) (fun fin s' => ∃ v, fin = PySem.Fin.done (.ret v) ∧ wpAny (model X.prog X.w) X.A.in1 (ret (Value.ref a)) (fun fin s' => ∃ v, fin = .done (.ret v) ∧ EP X pins σ Q v s') X.xe s') X.xe s'' := fun pm ar st ho hf => by
      have hix : ∀ i ∈ pm.toList, i < ys.length := fun i hi => by
        have := (ar.1.toList.mem_iff).mp hi
        simp at this
        omega
      have hpl : pm.size = vs.length := by rw [ar.1.size_eq]; simp
      refine key_tail hkS ha hak S (by omega) (by rw [List.length_map, Array.length_toList, hpl]; omega) ho hf (vals_getD rv _ hix) fun s2 H2 un hok os bare same e2 => ?_
      refine ⟨_, rfl, wpAny_pure ⟨_, rfl, .ref a, H2, I.call' os un hok bare (fun b z => absurd z (by simp)), rfl, q a H2 pm.toList (I.hok.fresh ha) same (sortIx_of (by rw [← hkl, hks]; exact ar)) e2⟩⟩
    unfold ksk_end
    try dsimp only
    rw [if_neg (by decide)]
    by_cases h2 : vs.toArray.size < 2
    · rw [if_pos h2, if_pos h2]
      have h2' : vs.length < 2 := by simpa using h2
      refine wpAny_bind (wpAny_pure ?_)
      rw [StateT.run_pure]
      refine wpAny_bind (wpAny_pure ?_)
      refine fin _ (arr_small W h2') _ ?_ rfl
      show ((ks.toArray.zip vs.toArray).map (·.2)) = _
      apply Array.toList_inj.mp
      rw [Array.toList_map, Array.toList_zip]
      have e1 : List.map (·.2) (ks.zip vs) = vs := List.map_snd_zip (by omega)
      have e2 : (List.toArray (List.range vs.length)).toList.map (fun i => vs.getD i Value.none) = vs := by
        apply List.ext_getElem?
        intro i
        by_cases hi : i < vs.length
        · simp [hi]
        · simp [hi]
      show List.map (·.2) (ks.zip vs) = (List.toArray (List.range vs.length)).toList.map (fun i => vs.getD i Value.none)
      rw [e1, e2]
    · rw [if_neg h2, if_neg h2]
      have h2' : ¬ vs.length < 2 := by simpa using h2
      obtain ⟨κ, hkk, hqq⟩ := answers_of (prog := X.prog) (w := X.w) (A := X.A.in1.in1) ra hk (by omega) (by show X.A.units + 1 + 1 + 60 < cLine; omega)
      refine wpAny_bind (wpAny_mono (hkk (fun k s' => k = κ ∧ s' = s'') ⟨rfl, rfl⟩) ?_ fun _ _ z => z.elim)
      rintro k' s' ⟨rfl, rfl⟩
      rw [if_neg (by decide)]
      refine wpAny_bind (wpAny_mono (sort_run (E := X.xe) (R := fun st s3 => s3 = s' ∧ ∃ pm, Arr vs.length (ltK ds) pm ∧ (arrOf st).map (·.2) = List.toArray (pm.toList.map fun i => vs.getD i Value.none) ∧ failedOf st = none) W hks (by omega) h2' hqq fun st pm a1 a2 a3 => ⟨rfl, pm, a1, a2, a3⟩) ?_ fun _ _ z => z)
      rintro ⟨⟨⟩, st⟩ s3 ⟨rfl, pm, ar, eo, hf⟩
      exact fin pm ar st eo hf
theorem sorted_key {Q : VK} {us : List Value} {xs : List V} (F : FnOk X.prog X.w X.K X.mg X.base CX0 k fa fd ps sp) (hr : Room k X.A.in1.in1) (hb : Binds X.K fd ps []) (hps : ps.length = 1) (hu : X.A.units + 3 + 61 < cLine) (I : Inv X pins σ H s) (rx : Vals xs us) (hh : rSortK X.K sp xs H Q) :
    wpAny (model X.prog X.w) X.A (call (.builtin "sorted") us [(Str.ofString "key", .ref fa)]) (EP X pins σ Q) X.xe s :=
  sorted_keyC (fun s' Hm x y Q e0 _ _ r1 hsp => F.run X.A.in1.in1 X.stack s' Hm ⟨[x], []⟩ [x] [y] Q E0 hr e0 (by
    have := hb s' [x] (e0.mod.kin.keeps fun b o e => (e0.bs b o e).1) (by rw [hps]; rfl)
    simpa using this) (.cons r1 .nil) hsp) hu I rx hh
theorem Room.in2 {k : Nat} {A : Around} (r : Room (k + 1) A) : Room k A.in1.in1 :=
  ⟨r.hd, by have := r.dp; show A.depth + 3 * k + 5 < _; omega, by have := r.un; show A.units + 1 + 1 + 16 * k + 200 < _; omega⟩
theorem pe_sortK {x y : Str} {e : Expr} {p yp kp pos : Pos} {t : TA} (F : FnOk X.prog X.w X.K X.mg X.base CX0 k fa fd ps sp) (hr : Room (k + 1) X.A) (hg : Gl X x) (hm : X.mg x = none) (hv : bootBuiltins x = some (.builtin "sorted")) (hgf : Gl X y) (hmf : X.mg y = some (.ref fa)) (hb : Binds X.K fd ps []) (hps : ps.length = 1) (ha : PA X [e] t) (hn : x ≠ "__name__" := by decide) (hdb : (x == ("__debug__" : Str)) = false := by decide) (hdf : (y == ("__debug__" : Str)) = false := by decide)
    (he : starEach [e] X.env = (false, eval e X.env) :: starEach [] X.env := by rfl) : PE X (.Call (.Name x p) [e] [⟨some "key", .Name y yp, kp⟩] pos) (tCB (rSortK X.K sp) t) := by
  intro pins s σ H Q I h
  refine wpAny_Call_Name_kw (ld_blt I hg hm hv ?_ hn hdb)
  refine callWith_kw (thn (ha pos pins s σ H _ I h) fun us s1 ⟨vs, H1, I1, r1, q1⟩ => kws_cons (ld_glob I1 hgf hmf (kws_nil ?_) hdf)) (by rw [he]; rfl) (by rw [he]; rfl)
  exact sorted_key F hr.in2 hb hps (by have := hr.un; omega) I1 r1 q1
end
end L2
set_option maxHeartbeats 4000000
namespace L2
open PySem PySem.Spec PySem.W PyProof.Rows
section
variable {X : Cx} {K : PySem.W.Frag}
end
section
variable {wd : Nat → Str} {L : List Lf} {H H' : Hp} {v : V} {k : Nat}
end
section
variable {wd : Nat → Str} {L : List Lf} {H H' : Hp} {vs : List V} {js : List Nat}
end
theorem sks_self : ∀ {ds : List PyData}, (∀ d ∈ ds, sk d d = true) → sks ds ds = true
  | [], _ => rfl
  | d :: ds, h => by
    rw [sks, h d List.mem_cons_self, sks_self fun x hx => h x (List.mem_cons_of_mem _ hx)]
    rfl
theorem list_selfS {ds : List PyData} (h : ∀ d ∈ ds, sk d d = true) : PyData.eqv (.list ds) (.list ds) = true := by
  show PyData.eqvAll ds ds = true
  exact (sks_eq ds ds (sks_self h)).mpr rfl
end L2
set_option maxHeartbeats 4000000
namespace Rga
def after (b a : Nat) : List Nat → List Nat
  | [] => []
  | x :: xs => if x = b then x :: a :: xs else x :: after b a xs
abbrev Pl := Nat × Option Nat
def ins (p : Pl) (row : List Nat) : List Nat := match p.2 with
  | none => p.1 :: row
  | some b => after b p.1 row
def rowR : List Pl → List Nat
  | [] => []
  | p :: qs => ins p (rowR qs)
def nms (qs : List Pl) : List Nat := qs.map (·.1)
def WF : List Pl → Prop
  | [] => True
  | p :: qs => p.1 ∉ nms qs ∧ (∀ b, p.2 = some b → b ∈ nms qs) ∧ WF qs
def rk (qs : List Pl) (k : Option Nat) : List Nat := (qs.filter fun p => decide (p.2 = k)).map (·.1)
inductive Dfs (f : Option Nat → List Nat) : List Nat → List Nat → Prop
  | nil : Dfs f [] []
  | cons {x : Nat} {st out : List Nat} : Dfs f (f (some x) ++ st) out → Dfs f (x :: st) (x :: out)
theorem after_perm {b a : Nat} : ∀ {row : List Nat}, b ∈ row → (after b a row).Perm (a :: row)
  | x :: xs, h => by
    unfold after
    by_cases e : x = b
    · rw [if_pos e]; exact .swap _ _ _
    · rw [if_neg e]
      rcases List.mem_cons.mp h with z | z
      · exact absurd z.symm e
      · exact ((after_perm z).cons x).trans (.swap _ _ _)
theorem row_perm : ∀ {qs : List Pl}, WF qs → (rowR qs).Perm (nms qs)
  | [], _ => .refl _
  | (a, none) :: qs, h => (row_perm h.2.2).cons a
  | (a, some b) :: qs, h => (after_perm ((row_perm h.2.2).mem_iff.mpr (h.2.1 b rfl))).trans ((row_perm h.2.2).cons a)
theorem wf_nodup : ∀ {qs : List Pl}, WF qs → (nms qs).Nodup
  | [], _ => List.nodup_nil
  | _ :: _, h => List.nodup_cons.mpr ⟨h.1, wf_nodup h.2.2⟩
theorem row_nodup {qs : List Pl} (h : WF qs) : (rowR qs).Nodup := (row_perm h).nodup_iff.mpr (wf_nodup h)
theorem rk_cons (p : Pl) (qs : List Pl) (k : Option Nat) : rk (p :: qs) k = if p.2 = k then p.1 :: rk qs k else rk qs k := by
  unfold rk
  by_cases e : p.2 = k
  · rw [if_pos e, List.filter_cons_of_pos (by simpa using e)]; rfl
  · rw [if_neg e, List.filter_cons_of_neg (by simpa using e)]
theorem rk_none {qs : List Pl} (h : WF qs) {a : Nat} (ha : a ∉ nms qs) : rk qs (some a) = [] := by
  induction qs with
  | nil => rfl
  | cons p qs ih =>
    have ha' : a ∉ nms qs := fun z => ha (List.mem_cons_of_mem _ z)
    rw [rk_cons, if_neg (fun e => ha' (h.2.1 a e)), ih h.2.2 ha']
theorem dfs_other {f g : Option Nat → List Nat} : ∀ {st out : List Nat}, Dfs f st out → (∀ x ∈ out, g (some x) = f (some x)) → Dfs g st out
  | _, _, .nil, _ => .nil
  | _, _, .cons (x := x) d, h => .cons (by
    rw [h x List.mem_cons_self]
    exact dfs_other d fun y hy => h y (List.mem_cons_of_mem _ hy))
theorem dfs_after {f g : Option Nat → List Nat} {a b : Nat} (hg : ∀ x, x ≠ b → g (some x) = f (some x)) (hb : g (some b) = a :: f (some b)) (ha : g (some a) = []) :
    ∀ {st out : List Nat}, Dfs f st out → out.Nodup → Dfs g st (after b a out)
  | _, _, .nil, _ => .nil
  | _, _, .cons (x := x) (st := st) (out := out) d, hn => by
    have hx := List.nodup_cons.mp hn
    unfold after
    by_cases e : x = b
    · rw [if_pos e]
      subst e
      refine .cons ?_
      rw [hb]
      refine .cons ?_
      rw [ha]
      exact dfs_other d fun y hy => hg y fun z => hx.1 (z ▸ hy)
    · rw [if_neg e]
      refine .cons ?_
      rw [hg x e]
      exact dfs_after hg hb ha d hx.2
theorem dfs_row : ∀ {qs : List Pl}, WF qs → Dfs (rk qs) (rk qs none) (rowR qs)
  | [], _ => .nil
  | (a, none) :: qs, h => by
    have ih := dfs_row h.2.2
    have hs : ∀ x, rk ((a, none) :: qs) (some x) = rk qs (some x) := fun x => by rw [rk_cons, if_neg (fun z => by cases z)]
    rw [rk_cons, if_pos rfl]
    refine .cons ?_
    rw [hs a, rk_none h.2.2 h.1]
    exact dfs_other ih fun x _ => hs x
  | (a, some b) :: qs, h => by
    have ih := dfs_row h.2.2
    have hab : a ≠ b := fun z => h.1 (z ▸ h.2.1 b rfl)
    rw [rk_cons, if_neg (fun z => by cases z)]
    refine dfs_after (f := rk qs) (g := rk ((a, some b) :: qs)) ?_ ?_ ?_ ih (row_nodup h.2.2)
    · intro x hx
      rw [rk_cons, if_neg (fun z => hx (Option.some.inj z).symm)]
    · rw [rk_cons, if_pos rfl]
    · rw [rk_cons, if_neg (fun z => hab (Option.some.inj z).symm), rk_none h.2.2 h.1]
theorem Dfs.nil_inv {f : Option Nat → List Nat} {out : List Nat} (d : Dfs f [] out) : out = [] := by cases d; rfl
theorem Dfs.cons_inv {f : Option Nat → List Nat} {x : Nat} {st out : List Nat} (d : Dfs f (x :: st) out) : ∃ out', out = x :: out' ∧ Dfs f (f (some x) ++ st) out' := by
  cases d with
  | cons d => exact ⟨_, rfl, d⟩
theorem eq_by {R : Nat → Nat → Bool} : ∀ {xs ys : List Nat}, xs.Perm ys → (xs.Pairwise fun a b => R b a = false) → (ys.Pairwise fun a b => R a b = true) → xs = ys
  | [], ys, p, _, _ => (List.nil_perm.mp p).symm
  | x :: xs, [], p, _, _ => absurd p.length_eq (by simp)
  | x :: xs, y :: ys, p, hx, hy => by
    by_cases e : x = y
    · subst e
      rw [eq_by ((List.perm_cons x).mp p) (List.pairwise_cons.mp hx).2 (List.pairwise_cons.mp hy).2]
    · have h1 : y ∈ xs := by
        rcases List.mem_cons.mp (p.mem_iff.mpr List.mem_cons_self) with z | z
        · exact absurd z.symm e
        · exact z
      have h2 : x ∈ ys := by
        rcases List.mem_cons.mp (p.mem_iff.mp List.mem_cons_self) with z | z
        · exact absurd z e
        · exact z
      have a1 := (List.pairwise_cons.mp hx).1 y h1
      have a2 := (List.pairwise_cons.mp hy).1 x h2
      rw [a2] at a1
      cases a1
end Rga
namespace L2
open PySem PySem.Spec PySem.W PyProof.Rows
theorem sort_by {D : Nat → PyData} {js ms ix : List Nat} (hp : js.Perm ms) (hm : ms.Pairwise fun a b => ltD (D a) (D b) = true) (h : SortIx (js.map D) ix) : (ix.map fun i => js.getD i 0) = ms := by
  have p1 : ix.Perm (List.range js.length) := by have := h.1; rwa [List.length_map] at this
  refine Rga.eq_by (R := fun a b => ltD (D a) (D b)) ((perm_ix p1).trans hp) ?_ hm
  have h2 := h.2
  rw [List.pairwise_map] at h2 ⊢
  refine h2.imp_of_mem fun {a b} ha hb hab => ?_
  have ka : ∀ i, i ∈ ix → keyAt (js.map D) i = D (js.getD i 0) := fun i hi => by
    have : i < js.length := List.mem_range.mp (p1.mem_iff.mp hi)
    unfold keyAt
    rw [List.getD_eq_getElem?_getD, List.getElem?_map, List.getD_eq_getElem?_getD, List.getElem?_eq_getElem this]
    rfl
  rw [ka a ha, ka b hb] at hab
  exact hab
end L2
set_option maxHeartbeats 4000000
namespace L2
open PySem PySem.Spec PySem.W PyProof.Rows
def Tups (H H' : Hp) : Prop := ∀ b xs, H b = some (.tup xs) → H' b = some (.tup xs)
section
variable {H H1 H' : Hp}
theorem Same.tups (s : Same H H') : Tups H H' := fun b xs e => s b _ e
theorem Tups.trans (a : Tups H H1) (b : Tups H1 H') : Tups H H' := fun c xs e => b c xs (a c xs e)
theorem Tups.wr {a : Addr} {o o' : HO} (e : H a = some o) (ho : ∀ ys, o ≠ .tup ys) : Tups H (upd H a o') := fun b xs q => by rw [upd_ne (tup_ne q e ho)]; exact q
theorem Tups.wl {a : Addr} {xs : List V} {o' : HO} (e : H a = some (.lst xs)) : Tups H (upd H a o') := Tups.wr e fun ys z => by cases z
theorem Tups.wd {a : Addr} {kvs : List (KD × V × V)} {o' : HO} (e : H a = some (.dG kvs)) : Tups H (upd H a o') := Tups.wr e fun ys z => by cases z
mutual
theorem DT.tups (t : Tups H H') : ∀ {x : V} {d : PyData}, DT H x d → DT H' x d
  | _, _, .non => .non
  | _, _, .bl b => .bl b
  | _, _, .int i => .int i
  | _, _, .str z => .str z
  | _, _, .tup e h => .tup (t _ _ e) (DTs.tups t h)
theorem DTs.tups (t : Tups H H') : ∀ {x : List V} {d : List PyData}, DTs H x d → DTs H' x d
  | _, _, .nil => .nil
  | _, _, .cons a b => .cons (DT.tups t a) (DTs.tups t b)
end
theorem GK.tups {k : KD} {v : V} (g : GK H k v) (t : Tups H H') : GK H' k v := g.stay t
end
def AN (P : V → Nat → Prop) (vs : List V) (js : List Nat) : Prop := vs.length = js.length ∧ ∀ (m : Nat) v i, vs[m]? = some v → js[m]? = some i → P v i
section
variable {P P' : V → Nat → Prop} {vs us : List V} {js ks : List Nat}
theorem AN.imp (h : AN P vs js) (f : ∀ v i, P v i → P' v i) : AN P' vs js := ⟨h.1, fun m v i e1 e2 => f _ _ (h.2 m v i e1 e2)⟩
theorem AN.nil : AN P [] [] := ⟨rfl, fun m v i z => by cases z⟩
theorem AN.app (h : AN P vs js) (g : AN P us ks) : AN P (vs ++ us) (js ++ ks) := by
  refine ⟨by rw [List.length_append, List.length_append, h.1, g.1], fun m v i e1 e2 => ?_⟩
  by_cases hm : m < vs.length
  · rw [List.getElem?_append_left hm] at e1
    rw [List.getElem?_append_left (by rw [← h.1]; exact hm)] at e2
    exact h.2 m v i e1 e2
  · rw [List.getElem?_append_right (by omega)] at e1
    rw [List.getElem?_append_right (by rw [← h.1]; omega), ← h.1] at e2
    exact g.2 _ v i e1 e2
theorem AN.one {v : V} {i : Nat} (h : P v i) : AN P [v] [i] := ⟨rfl, fun m v' i' e1 e2 => by
  cases m with
  | zero => cases e1; cases e2; exact h
  | succ m => cases e1⟩
theorem AN.snoc {v : V} {i : Nat} (h : AN P vs js) (hv : P v i) : AN P (vs ++ [v]) (js ++ [i]) := h.app (.one hv)
theorem AN.ix (h : AN P vs js) (ix : List Nat) (hix : ∀ i ∈ ix, i < vs.length) : AN P (ix.map fun i => vs.getD i .non) (ix.map fun i => js.getD i 0) := by
  refine ⟨by rw [List.length_map, List.length_map], fun m v i e1 e2 => ?_⟩
  rw [List.getElem?_map] at e1 e2
  cases e : ix[m]? with
  | none => rw [e] at e1; cases e1
  | some k =>
    rw [e] at e1 e2
    have hk := hix k (List.mem_of_getElem? e)
    have hk' : k < js.length := by rw [← h.1]; exact hk
    refine h.2 k v i ?_ ?_
    · rw [← Option.some.inj e1, List.getElem?_eq_getElem hk]
      show some vs[k] = some (vs.getD k .non)
      rw [List.getD_eq_getElem?_getD, List.getElem?_eq_getElem hk]; rfl
    · rw [← Option.some.inj e2, List.getElem?_eq_getElem hk']
      show some js[k] = some (js.getD k 0)
      rw [List.getD_eq_getElem?_getD, List.getElem?_eq_getElem hk']; rfl
theorem AN.at {m : Nat} {v : V} (h : AN P vs js) (e : vs[m]? = some v) : ∃ i, js[m]? = some i ∧ P v i := by
  have hm : m < js.length := by rw [← h.1]; exact (List.getElem?_eq_some_iff.mp e).1
  exact ⟨js[m], List.getElem?_eq_getElem hm, h.2 m v _ e (List.getElem?_eq_getElem hm)⟩
theorem AN.last {i : Nat} (h : AN P vs (js ++ [i])) : ∃ us x, vs = us ++ [x] ∧ AN P us js ∧ P x i := by
  have hl := h.1
  rw [List.length_append, List.length_singleton] at hl
  rcases List.eq_nil_or_concat vs with z | ⟨us, x, z⟩
  · rw [z] at hl; exact absurd hl (by simp)
  · rw [List.concat_eq_append] at z
    subst z
    have hu : us.length = js.length := by rw [List.length_append, List.length_singleton] at hl; omega
    refine ⟨us, x, rfl, ⟨hu, fun m v i e1 e2 => h.2 m v i ?_ ?_⟩, h.2 us.length x i (by simp) (by rw [hu]; simp)⟩
    · rw [List.getElem?_append_left (List.getElem?_eq_some_iff.mp e1).1]; exact e1
    · rw [List.getElem?_append_left (List.getElem?_eq_some_iff.mp e2).1]; exact e2
theorem AN.dts {H : Hp} {D : Nat → PyData} (hD : ∀ v i, P v i → DT H v (D i)) : ∀ {vs : List V} {js : List Nat}, AN P vs js → DTs H vs (js.map D)
  | [], [], _ => .nil
  | [], _ :: _, h => absurd h.1 (by simp)
  | _ :: _, [], h => absurd h.1 (by simp)
  | v :: vs, j :: js, h => .cons (hD _ _ (h.2 0 v j rfl rfl)) (AN.dts hD ⟨by have := h.1; simpa using this, fun m v i e1 e2 => h.2 (m + 1) v i (by simpa using e1) (by simpa using e2)⟩)
end
def kd (nk : Nat → List Key) : Option Nat → KD
  | none => .non
  | some i => .tup (nk i)
def NM (nk : Nat → List Key) (H : Hp) (v : V) (i : Nat) : Prop := GK H (.tup (nk i)) v
def PL (nk : Nat → List Key) (bh : Nat → Option Nat) (D : Nat → PyData) (H : Hp) (v : V) (k : Nat) : Prop := ∃ b vn vb vk, v = .ref b ∧ H b = some (.tup [vn, vb, vk]) ∧ NM nk H vn k ∧ GK H (kd nk (bh k)) vb ∧ DT H vk (D k)
section
variable {nk : Nat → List Key} {bh : Nat → Option Nat} {D : Nat → PyData} {H H' H0 : Hp} {v : V} {k : Nat}
theorem NM.tups (h : NM nk H v k) (t : Tups H H') : NM nk H' v k := GK.tups h t
theorem PL.tups (h : PL nk bh D H v k) (t : Tups H H') : PL nk bh D H' v k := by
  obtain ⟨b, vn, vb, vk, e, h1, h2, h3, h4⟩ := h
  exact ⟨b, vn, vb, vk, e, t _ _ h1, h2.tups t, h3.tups t, h4.tups t⟩
structure PLW (nk : Nat → List Key) (bh : Nat → Option Nat) (D : Nat → PyData) (ms : List Nat) (t : Nat) : Prop where
  few : ms.length < 64
  up : ms.Pairwise fun a b => ltD (D a) (D b) = true
  inj : ∀ i ∈ ms, ∀ j ∈ ms, nk i = nk j → i = j
  wf : Rga.WF (ms.reverse.map fun k => (k, bh k))
  keys : KeysAre (ms.map D) t
theorem KeysAre.perm {ds es : List PyData} {t : Nat} (h : KeysAre ds t) (p : es.Perm ds) : KeysAre es t :=
  ⟨lays_all fun x hx => by
    have := h.lay
    have hm := p.mem_iff.mp hx
    clear p
    induction ds with
    | nil => cases hm
    | cons d ds ih =>
      have hc : (d.canLay0 && PyData.canLayAll0 ds) = true := this
      rw [Bool.and_eq_true] at hc
      rcases List.mem_cons.mp hm with rfl | hm
      · exact hc.1
      · exact ih ⟨hc.2, fun d hd => h.kind d (List.mem_cons_of_mem _ hd), fun a ha b hb => h.one a (List.mem_cons_of_mem _ ha) b (List.mem_cons_of_mem _ hb), fun d hd => h.deep d (List.mem_cons_of_mem _ hd)⟩ hc.2 hm,
   fun d hd => h.kind d (p.mem_iff.mp hd), fun a ha b hb => h.one a (p.mem_iff.mp ha) b (p.mem_iff.mp hb), fun d hd => h.deep d (p.mem_iff.mp hd)⟩
def kids (bh : Nat → Option Nat) (ms : List Nat) (k : Option Nat) : List Nat := ms.filter fun m => decide (bh m = k)
theorem kids_snoc (bh : Nat → Option Nat) (ms : List Nat) (m : Nat) (k : Option Nat) : kids bh (ms ++ [m]) k = if bh m = k then kids bh ms k ++ [m] else kids bh ms k := by
  unfold kids
  rw [List.filter_append]
  by_cases e : bh m = k
  · rw [if_pos e, List.filter_cons_of_pos (by simpa using e)]; rfl
  · rw [if_neg e, List.filter_cons_of_neg (by simpa using e), List.filter_nil, List.append_nil]
theorem kids_rk (bh : Nat → Option Nat) (ms : List Nat) (k : Option Nat) : Rga.rk (ms.reverse.map fun m => (m, bh m)) k = (kids bh ms k).reverse := by
  unfold Rga.rk kids
  rw [List.filter_map, List.map_map, ← List.filter_reverse]
  show List.map (fun x => x) _ = _
  rw [List.map_id']
  rfl
structure FD (nk : Nat → List Key) (bh : Nat → Option Nat) (all ms : List Nat) (H0 H : Hp) (dq : Addr) (kvs : List (KD × V × V)) : Prop where
  has : H dq = some (.dG kvs)
  new : H0 dq = none
  each : ∀ k : Option Nat, (∀ i, k = some i → i ∈ all) → (vG kvs (kd nk k) = none ∧ kids bh ms k = []) ∨ ∃ q vs, vG kvs (kd nk k) = some (.ref q) ∧ H q = some (.lst vs) ∧ AN (NM nk H) vs (kids bh ms k) ∧ H0 q = none
  inj : ∀ k k' q, vG kvs k = some (.ref q) → vG kvs k' = some (.ref q) → k = k'
  live : ∀ k q, vG kvs k = some (.ref q) → ∃ xs, H q = some (.lst xs)
theorem FD.same {all ms : List Nat} {dq : Addr} {kvs : List (KD × V × V)} (h : FD nk bh all ms H0 H dq kvs) (s : Same H H') : FD nk bh all ms H0 H' dq kvs where
  has := s _ _ h.has
  new := h.new
  each := fun k hk => by
    rcases h.each k hk with z | ⟨q, vs, h1, h2, h3, h4⟩
    · exact .inl z
    · exact .inr ⟨q, vs, h1, s _ _ h2, h3.imp fun v i g => g.tups s.tups, h4⟩
  inj := h.inj
  live := fun k q e => let ⟨xs, z⟩ := h.live k q e; ⟨xs, s _ _ z⟩
theorem kd_inj {all : List Nat} (hi : ∀ i ∈ all, ∀ j ∈ all, nk i = nk j → i = j) {k k' : Option Nat} (h1 : ∀ i, k = some i → i ∈ all) (h2 : ∀ i, k' = some i → i ∈ all) (e : kd nk k = kd nk k') : k = k' := by
  cases k with
  | none => cases k' with
    | none => rfl
    | some j => cases e
  | some i => cases k' with
    | none => cases e
    | some j => rw [hi i (h1 i rfl) j (h2 j rfl) (KD.tup.inj e)]
theorem FD.old {all ms : List Nat} {dq q : Addr} {kvs : List (KD × V × V)} {m : Nat} {vn : V} {vs : List V} (h : FD nk bh all ms H0 H dq kvs) (hi : ∀ i ∈ all, ∀ j ∈ all, nk i = nk j → i = j) (hm : ∀ i, bh m = some i → i ∈ all)
    (e : vG kvs (kd nk (bh m)) = some (.ref q)) (eq : H q = some (.lst vs)) (hv : NM nk H vn m) : FD nk bh all (ms ++ [m]) H0 (upd H q (.lst (vs ++ [vn]))) dq kvs where
  has := by rw [upd_ne (fun z => by rw [← z, h.has] at eq; cases eq)]; exact h.has
  new := h.new
  inj := h.inj
  live := fun k q' e' => by
    by_cases z : q' = q
    · subst z; exact ⟨_, upd_same⟩
    · obtain ⟨xs, y⟩ := h.live k q' e'
      exact ⟨xs, by rw [upd_ne z]; exact y⟩
  each := fun k hk => by
    have tw : Tups H (upd H q (.lst (vs ++ [vn]))) := Tups.wl eq
    rw [kids_snoc]
    by_cases ek : bh m = k
    · subst ek
      rw [if_pos rfl]
      rcases h.each _ hk with ⟨z, _⟩ | ⟨q', vs', h1, h2, h3, h4⟩
      · rw [z] at e; cases e
      · rw [e] at h1
        cases h1
        rw [eq] at h2
        cases h2
        exact .inr ⟨q, _, e, upd_same, (h3.snoc hv).imp fun v i g => g.tups tw, h4⟩
    · rw [if_neg ek]
      rcases h.each k hk with z | ⟨q', vs', h1, h2, h3, h4⟩
      · exact .inl z
      · refine .inr ⟨q', vs', h1, ?_, h3.imp fun v i g => g.tups tw, h4⟩
        have nq : q' ≠ q := fun z => ek (kd_inj hi hm hk (h.inj _ _ q e (by rw [← z]; exact h1)))
        rw [upd_ne nq]
        exact h2
theorem FD.first {all ms : List Nat} {dq q : Addr} {kvs : List (KD × V × V)} {m : Nat} {vn vk : V} (h : FD nk bh all ms H0 H dq kvs) (hi : ∀ i ∈ all, ∀ j ∈ all, nk i = nk j → i = j) (hm : ∀ i, bh m = some i → i ∈ all)
    (e : vG kvs (kd nk (bh m)) = none) (hq0 : H0 q = none) (eq : H q = some (.lst [])) (hqn : ∀ k, vG kvs k ≠ some (.ref q)) (hv : NM nk H vn m) : FD nk bh all (ms ++ [m]) H0 (upd (upd H dq (.dG (pG kvs (kd nk (bh m)) vk (.ref q)))) q (.lst [vn])) dq (pG kvs (kd nk (bh m)) vk (.ref q)) where
  has := by rw [upd_ne (fun z => by rw [← z, h.has] at eq; cases eq), upd_same]
  new := h.new
  inj := fun k k' q' h1 h2 => by
    rw [vG_put] at h1 h2
    by_cases e1 : k = kd nk (bh m)
    · by_cases e2 : k' = kd nk (bh m)
      · rw [e1, e2]
      · rw [if_pos e1] at h1
        rw [if_neg e2] at h2
        cases h1
        exact absurd h2 (hqn k')
    · rw [if_neg e1] at h1
      by_cases e2 : k' = kd nk (bh m)
      · rw [if_pos e2] at h2
        cases h2
        exact absurd h1 (hqn k)
      · rw [if_neg e2] at h2
        exact h.inj _ _ _ h1 h2
  live := fun k q' e' => by
    by_cases z : q' = q
    · subst z; exact ⟨_, upd_same⟩
    · rw [vG_put] at e'
      by_cases ek : k = kd nk (bh m)
      · rw [if_pos ek] at e'
        cases e'
        exact absurd rfl z
      · rw [if_neg ek] at e'
        obtain ⟨xs, y⟩ := h.live k q' e'
        have n2 : q' ≠ dq := fun z => by rw [z, h.has] at y; cases y
        exact ⟨xs, by rw [upd_ne z, upd_ne n2]; exact y⟩
  each := fun k hk => by
    have nq : q ≠ dq := fun z => by rw [z, h.has] at eq; cases eq
    have t1 : Tups H (upd H dq (.dG (pG kvs (kd nk (bh m)) vk (.ref q)))) := Tups.wd h.has
    have eq1 : (upd H dq (.dG (pG kvs (kd nk (bh m)) vk (.ref q)))) q = some (.lst []) := by rw [upd_ne nq]; exact eq
    have tw := t1.trans (Tups.wl (o' := .lst [vn]) eq1)
    rw [kids_snoc, vG_put]
    by_cases ek : bh m = k
    · subst ek
      rw [if_pos rfl, if_pos rfl]
      rcases h.each _ hk with ⟨_, z⟩ | ⟨q', vs', h1, _⟩
      · rw [z]
        exact .inr ⟨q, [vn], rfl, upd_same, .one (hv.tups tw), hq0⟩
      · rw [e] at h1; cases h1
    · rw [if_neg ek, if_neg (fun z => ek (kd_inj hi hm hk z.symm))]
      rcases h.each k hk with z | ⟨q', vs', h1, h2, h3, h4⟩
      · exact .inl z
      · refine .inr ⟨q', vs', h1, ?_, h3.imp fun v i g => g.tups tw, h4⟩
        have n1 : q' ≠ q := fun z => hqn _ (z ▸ h1)
        have n2 : q' ≠ dq := fun z => by rw [z, h.has] at h2; cases h2
        rw [upd_ne n1, upd_ne n2]
        exact h2
theorem FD.get {all ms : List Nat} {dq z : Addr} {kvs : List (KD × V × V)} (h : FD nk bh all ms H0 H dq kvs) (ez : H z = some (.lst [])) (k : Option Nat) (hk : ∀ i, k = some i → i ∈ all) : ∃ a vs, (vG kvs (kd nk k)).getD (.ref z) = .ref a ∧ H a = some (.lst vs) ∧ AN (NM nk H) vs (kids bh ms k) := by
  rcases h.each k hk with ⟨h1, h2⟩ | ⟨q, vs, h1, h2, h3, _⟩
  · exact ⟨z, [], by rw [h1]; rfl, ez, by rw [h2]; exact .nil⟩
  · exact ⟨q, vs, by rw [h1]; rfl, h2, h3⟩
end
end L2
namespace Rga
theorem wf_in : ∀ {qs : List Pl}, WF qs → ∀ {k b : Nat}, (k, some b) ∈ qs → b ∈ nms qs
  | p :: qs, h, k, b, hm => by
    rcases List.mem_cons.mp hm with z | z
    · exact List.mem_cons_of_mem _ (h.2.1 b (by rw [← z]))
    · exact List.mem_cons_of_mem _ (wf_in h.2.2 z)
theorem dfs_len {f : Option Nat → List Nat} : ∀ {st out : List Nat}, Dfs f st out → st.length ≤ out.length
  | _, _, .nil => Nat.le_refl _
  | _, _, .cons (x := x) d => by
    have := dfs_len d
    rw [List.length_append] at this
    rw [List.length_cons, List.length_cons]
    omega
def qsOf (bh : Nat → Option Nat) (ms : List Nat) : List Pl := ms.reverse.map fun k => (k, bh k)
theorem nms_qs (bh : Nat → Option Nat) (ms : List Nat) : nms (qsOf bh ms) = ms.reverse := by
  unfold nms qsOf
  rw [List.map_map]
  show List.map (fun x => x) _ = _
  rw [List.map_id']
theorem qs_mem {bh : Nat → Option Nat} {ms : List Nat} {m : Nat} (h : m ∈ ms) : (m, bh m) ∈ qsOf bh ms := List.mem_map.mpr ⟨m, List.mem_reverse.mpr h, rfl⟩
theorem bh_in {bh : Nat → Option Nat} {ms : List Nat} (w : WF (qsOf bh ms)) {m i : Nat} (hm : m ∈ ms) (e : bh m = some i) : i ∈ ms := by
  have := wf_in w (k := m) (b := i) (by rw [← e]; exact qs_mem hm)
  rw [nms_qs] at this
  exact List.mem_reverse.mp this
theorem row_mem {bh : Nat → Option Nat} {ms : List Nat} (w : WF (qsOf bh ms)) {x : Nat} (h : x ∈ rowR (qsOf bh ms)) : x ∈ ms := by
  have := (row_perm w).mem_iff.mp h
  rw [nms_qs] at this
  exact List.mem_reverse.mp this
theorem row_len {bh : Nat → Option Nat} {ms : List Nat} (w : WF (qsOf bh ms)) : (rowR (qsOf bh ms)).length = ms.length := by
  rw [(row_perm w).length_eq, nms_qs, List.length_reverse]
end Rga
set_option maxHeartbeats 4000000
namespace L2
open PySem PySem.Spec PySem.W PyProof.Rows
def del (H : Hp) (p : Addr) : Hp := fun b => if b = p then none else H b
theorem del_at {H : Hp} {p : Addr} : del H p p = none := if_pos rfl
theorem del_ne {H : Hp} {p b : Addr} (h : b ≠ p) : del H p b = H b := if_neg h
theorem del_free {H : Hp} {p b : Addr} (h : H b = none) : del H p b = none := by
  by_cases e : b = p
  · subst e; exact del_at
  · rw [del_ne e]; exact h
theorem del_same {H : Hp} {p : Addr} : Same (del H p) H := fun b u q => by
  by_cases e : b = p
  · subst e; rw [del_at] at q; cases q
  · rw [del_ne e] at q; exact q
theorem Same.cut {H0 H : Hp} {p : Addr} (s : Same H0 H) (h : H0 p = none) : Same H0 (del H p) := fun b u q => by
  rw [del_ne (ne_of_none q h)]
  exact s b u q
theorem Tups.cut {H H' : Hp} {p : Addr} {xs : List V} (e : H p = some (.lst xs)) (s : Same (del H p) H') : Tups H H' := fun b ys q => s _ _ (by rw [del_ne (tup_ne q e fun zs z => by cases z)]; exact q)
def IsT (z : Str) : Prop := ∀ c ∈ z.cps.toList, c ≤ 122
theorem isT_ok {z : Str} (h : IsT z) : PyData.strOk z = true := by
  unfold PyData.strOk
  rw [← Array.all_toList, List.all_eq_true]
  intro c hc
  have := h c hc
  exact decide_eq_true (by omega)
theorem isT_app {x y : Str} (hx : IsT x) (hy : IsT y) : IsT (x ++ y) := fun c hc => by
  have e : (x ++ y).cps.toList = x.cps.toList ++ y.cps.toList := by
    show (x.cps ++ y.cps).toList = _
    simp
  rw [e] at hc
  rcases List.mem_append.mp hc with q | q
  · exact hx c q
  · exact hy c q
theorem isT_sjoin {sep : Str} (hs : IsT sep) : ∀ {ys : List Str}, (∀ y ∈ ys, IsT y) → IsT (Str.join sep ys)
  | [], _ => fun _ z => nomatch z
  | [x], h => h x (by simp)
  | x :: y :: r, h => by
    show IsT (x ++ sep ++ Str.join sep (y :: r))
    exact isT_app (isT_app (h x (by simp)) hs) (isT_sjoin hs fun z hz => h z (List.mem_cons_of_mem _ hz))
theorem isT_join {sep : Str} (hs : IsT sep) {ys : List Str} (h : ∀ y ∈ ys, IsT y) : IsT (Txt.join sep ys) := by
  show IsT (Builtin.Str.glued sep ys)
  rw [StrLaws.glued_eq_join]
  exact isT_sjoin hs h
theorem atI_mem {α : Type} {xs : List α} {i : Int} {v : α} (h : atI xs i = some v) : v ∈ xs := by
  unfold atI at h
  cases e : ixN xs.length i with
  | none => rw [e] at h; cases h
  | some j => rw [e] at h; exact List.mem_of_getElem? h
theorem isT_one {c : Nat} (h : c ≤ 122) : IsT ⟨#[c]⟩ := fun d hd => by
  have : d = c := by simpa using hd
  omega
end L2
set_option maxHeartbeats 4000000
namespace Rga
def insN (row : List Nat) (r a : Nat) : List Nat := row.take r ++ a :: row.drop r
theorem after_at {a b : Nat} : ∀ {row : List Nat} {i : Nat}, row.Nodup → row[i]? = some b → after b a row = insN row (i + 1) a
  | [], _, _, h => by cases h
  | x :: xs, 0, _, h => by
    cases h
    unfold after
    rw [if_pos rfl]
    rfl
  | x :: xs, i + 1, hn, h => by
    have h : xs[i]? = some b := by simpa using h
    have hx := List.nodup_cons.mp hn
    have nb : ¬ x = b := fun z => hx.1 (by rw [z]; exact List.mem_of_getElem? h)
    unfold after
    rw [if_neg nb, after_at hx.2 h]
    rfl
def bhAt (row : List Nat) : Nat → Option Nat
  | 0 => none
  | r + 1 => row[r]?
theorem ins_at {row : List Nat} (hn : row.Nodup) {r : Nat} (hr : r ≤ row.length) (a : Nat) : ins (a, bhAt row r) row = insN row r a := by
  cases r with
  | zero => rfl
  | succ r =>
    have h : row[r]? = some row[r] := List.getElem?_eq_getElem hr
    show (match row[r]? with | none => a :: row | some b => after b a row) = _
    rw [h]
    exact after_at hn h
theorem ins_perm (row : List Nat) (r a : Nat) : (insN row r a).Perm (a :: row) := by
  unfold insN
  refine List.perm_middle.trans ?_
  rw [List.take_append_drop]
theorem wf_range {bh : Nat → Option Nat} : ∀ {n : Nat}, (∀ i, i < n → ∀ b, bh i = some b → b < i) → WF (qsOf bh (List.range n))
  | 0, _ => trivial
  | n + 1, h => by
    have e : qsOf bh (List.range (n + 1)) = (n, bh n) :: qsOf bh (List.range n) := by
      unfold qsOf
      rw [List.range_succ, List.reverse_append]
      rfl
    rw [e]
    refine ⟨?_, fun b hb => ?_, wf_range fun i hi => h i (by omega)⟩
    · rw [nms_qs, List.mem_reverse, List.mem_range]
      exact Nat.lt_irrefl n
    · rw [nms_qs, List.mem_reverse, List.mem_range]
      exact h n (by omega) b hb
theorem row_next (bh : Nat → Option Nat) (n : Nat) : rowR (qsOf bh (List.range (n + 1))) = ins (n, bh n) (rowR (qsOf bh (List.range n))) := by
  have e : qsOf bh (List.range (n + 1)) = (n, bh n) :: qsOf bh (List.range n) := by
    unfold qsOf
    rw [List.range_succ, List.reverse_append]
    rfl
  rw [e]
  rfl
theorem qs_congr {bh bh' : Nat → Option Nat} {n : Nat} (h : ∀ i, i < n → bh i = bh' i) : qsOf bh (List.range n) = qsOf bh' (List.range n) := by
  unfold qsOf
  refine List.map_congr_left fun i hi => ?_
  rw [h i (List.mem_range.mp (List.mem_reverse.mp hi))]
end Rga
namespace L2
open PySem PySem.Spec PySem.W PyProof.Rows Rga
section
variable {P : V → Nat → Prop} {vs : List V} {js : List Nat}
theorem AN.take (h : AN P vs js) (r : Nat) : AN P (vs.take r) (js.take r) := by
  refine ⟨by rw [List.length_take, List.length_take, h.1], fun m v i e1 e2 => ?_⟩
  rw [List.getElem?_take] at e1 e2
  by_cases hm : m < r
  · rw [if_pos hm] at e1 e2; exact h.2 m v i e1 e2
  · rw [if_neg hm] at e1; cases e1
theorem AN.drop (h : AN P vs js) (r : Nat) : AN P (vs.drop r) (js.drop r) := by
  refine ⟨by rw [List.length_drop, List.length_drop, h.1], fun m v i e1 e2 => ?_⟩
  rw [List.getElem?_drop] at e1 e2
  exact h.2 _ v i e1 e2
theorem AN.ins (h : AN P vs js) (r : Nat) {v : V} {i : Nat} (hv : P v i) : AN P (insV vs r v) (insN js r i) := (h.take r).app ((AN.one hv).app (h.drop r))
end
theorem PL.congr {nk nk' : Nat → List Key} {bh bh' : Nat → Option Nat} {D D' : Nat → PyData} {H : Hp} {v : V} {k : Nat} (h : PL nk bh D H v k) (e1 : nk k = nk' k) (e2 : bh k = bh' k) (e3 : kd nk (bh k) = kd nk' (bh k)) (e4 : D k = D' k) : PL nk' bh' D' H v k := by
  obtain ⟨b, vn, vb, vk, e, h1, h2, h3, h4⟩ := h
  exact ⟨b, vn, vb, vk, e, h1, by unfold NM; rw [← e1]; exact h2, by rw [← e2, ← e3]; exact h3, by rw [← e4]; exact h4⟩
theorem NM.congr {nk nk' : Nat → List Key} {H : Hp} {v : V} {k : Nat} (h : NM nk H v k) (e : nk k = nk' k) : NM nk' H v k := by
  unfold NM
  rw [← e]
  exact h
def numOf (p0 p1 i : Nat) : Nat := 1 + (p0 + (1 + p1) * (i + 2)) % 67
theorem no67 : ∀ a, a < 66 → ∀ d, d < 67 → 0 < d → (1 + a) * d % 67 ≠ 0 := by decide +kernel
theorem num_lt {p0 p1 i j : Nat} (h1 : p1 < 66) (hj : j < 62) (hij : i < j) : numOf p0 p1 i ≠ numOf p0 p1 j := fun e => by
  unfold numOf at e
  have h := no67 p1 h1 (j - i) (by omega) (by omega)
  have hm : (1 + p1) * (j + 2) = (1 + p1) * (i + 2) + (1 + p1) * (j - i) := by rw [← Nat.mul_add]; congr 1; omega
  rw [hm] at e
  generalize (1 + p1) * (i + 2) = x at e
  generalize (1 + p1) * (j - i) = y at e h
  omega
theorem num_inj {p0 p1 i j : Nat} (h1 : p1 < 66) (hi : i < 62) (hj : j < 62) (e : numOf p0 p1 i = numOf p0 p1 j) : i = j := by
  rcases Nat.lt_trichotomy i j with h | h | h
  · exact absurd e (num_lt h1 hj h)
  · exact h
  · exact absurd e.symm (num_lt h1 hi h)
def nkOf (p2 : Nat) (w : Str) (num e : Nat) : List Key := [.inr w, .inl (num : Int)] ++ (if p2 = 0 then [] else [.inl (e : Int)])
theorem nkOf_num {p2 : Nat} {w w' : Str} {n n' e e' : Nat} (h : nkOf p2 w n e = nkOf p2 w' n' e') : n = n' := by
  unfold nkOf at h
  injection h with _ h
  injection h with h _
  injection h with h
  omega
def Up3 (a b c a' b' c' : Nat) : Prop := a < a' ∨ (a = a' ∧ (b < b' ∨ (b = b' ∧ c < c')))
def rkD (p2 a b c : Nat) : PyData := if p2 = 0 then .tuple [.int (a : Int), .int ((b : Int) * 100000 + (c : Int))] else .tuple [.int (a : Int), .int (b : Int), .int (c : Int)]
theorem ltD_int2 {x y : Int} {r r' : List PyData} (h : x < y) : ltDs (.int x :: r) (.int y :: r') = true := by
  rw [ltDs, if_neg (fun z => by
    have := (sk_eq _ _ rfl).mp z
    injection this with this
    omega)]
  exact decide_eq_true h
theorem ltD_int3 {x : Int} {r r' : List PyData} (h : ltDs r r' = true) : ltDs (.int x :: r) (.int x :: r') = true := by
  rw [ltDs, if_pos ((sk_eq _ _ rfl).mpr rfl)]
  exact h
theorem rk_up {p2 a b c a' b' c' : Nat} (u : Up3 a b c a' b' c') (hc : c < 100000) (hc' : c' < 100000) : ltD (rkD p2 a b c) (rkD p2 a' b' c') = true := by
  unfold rkD
  by_cases hp : p2 = 0
  · rw [if_pos hp, if_pos hp, ltD]
    rcases u with h | ⟨rfl, h⟩
    · exact ltD_int2 (by omega)
    · exact ltD_int3 (ltD_int2 (by rcases h with h | ⟨rfl, h⟩ <;> omega))
  · rw [if_neg hp, if_neg hp, ltD]
    rcases u with h | ⟨rfl, h⟩
    · exact ltD_int2 (by omega)
    · rcases h with h | ⟨rfl, h⟩
      · exact ltD_int3 (ltD_int2 (by omega))
      · exact ltD_int3 (ltD_int3 (ltD_int2 (by omega)))
theorem up3_trans {a b c a' b' c' x y z : Nat} (h : Up3 a b c a' b' c') (g : Up3 a' b' c' x y z) : Up3 a b c x y z := by
  unfold Up3 at *
  omega
def RkD (d : PyData) : Prop := (∃ a b : Int, d = .tuple [.int a, .int b]) ∨ ∃ a b c : Int, d = .tuple [.int a, .int b, .int c]
theorem rkD_rk (p2 a b c : Nat) : RkD (rkD p2 a b c) := by
  unfold rkD
  by_cases hp : p2 = 0
  · rw [if_pos hp]; exact .inl ⟨_, _, rfl⟩
  · rw [if_neg hp]; exact .inr ⟨_, _, _, rfl⟩
theorem rk_keys {ds : List PyData} (h : ∀ d ∈ ds, RkD d) : KeysAre ds 2 := by
  refine ⟨lays_all fun d hd => ?_, fun d hd => ?_, fun x hx y hy => ?_, fun d hd => ?_⟩
  · rcases h d hd with ⟨_, _, rfl⟩ | ⟨_, _, _, rfl⟩ <;> rfl
  · rcases h d hd with ⟨_, _, rfl⟩ | ⟨_, _, _, rfl⟩ <;> trivial
  · rcases h x hx with ⟨_, _, rfl⟩ | ⟨_, _, _, rfl⟩ <;> rcases h y hy with ⟨_, _, rfl⟩ | ⟨_, _, _, rfl⟩ <;> rfl
  · rcases h d hd with ⟨_, _, rfl⟩ | ⟨_, _, _, rfl⟩ <;> exact (by decide : 1 ≤ 60)
abbrev Dr := List Key × Option Nat × Nat × Nat × Nat
def d0 : Dr := ([], none, 0, 0, 0)
def nkT (TS : List Dr) (i : Nat) : List Key := (TS.getD i d0).1
def bhT (TS : List Dr) (i : Nat) : Option Nat := (TS.getD i d0).2.1
def dT (p2 : Nat) (TS : List Dr) (i : Nat) : PyData := rkD p2 (TS.getD i d0).2.2.1 (TS.getD i d0).2.2.2.1 (TS.getD i d0).2.2.2.2
theorem ts_old {TS : List Dr} {t : Dr} {i : Nat} (h : i < TS.length) : (TS ++ [t]).getD i d0 = TS.getD i d0 := by
  rw [List.getD_eq_getElem?_getD, List.getD_eq_getElem?_getD, List.getElem?_append_left h]
theorem ts_new (TS : List Dr) (t : Dr) : (TS ++ [t]).getD TS.length d0 = t := by
  rw [List.getD_eq_getElem?_getD, List.getElem?_append_right (Nat.le_refl _), Nat.sub_self]
  rfl
structure TOk (p0 p1 p2 : Nat) (TS : List Dr) : Prop where
  name : ∀ i, i < TS.length → ∃ w, ∃ e : Nat, nkT TS i = nkOf p2 w (numOf p0 p1 i) e ∧ IsT w
  back : ∀ i, i < TS.length → ∀ b, bhT TS i = some b → b < i
  small : ∀ i, i < TS.length → (TS.getD i d0).2.2.2.2 < 100000
  hand : ∀ i, i < TS.length → (TS.getD i d0).2.2.2.1 ≤ 5
  up : ∀ i j, i < j → j < TS.length → Up3 (TS.getD i d0).2.2.1 (TS.getD i d0).2.2.2.1 (TS.getD i d0).2.2.2.2 (TS.getD j d0).2.2.1 (TS.getD j d0).2.2.2.1 (TS.getD j d0).2.2.2.2
theorem TOk.snoc {p0 p1 p2 : Nat} {TS : List Dr} {w : Str} {e a b c : Nat} {k : Option Nat} (h : TOk p0 p1 p2 TS) (hw : IsT w) (hk : ∀ b, k = some b → b < TS.length) (hc : c < 100000) (hb5 : b ≤ 5)
    (hu : ∀ i, i < TS.length → Up3 (TS.getD i d0).2.2.1 (TS.getD i d0).2.2.2.1 (TS.getD i d0).2.2.2.2 a b c) : TOk p0 p1 p2 (TS ++ [(nkOf p2 w (numOf p0 p1 TS.length) e, k, a, b, c)]) := by
  have hl : (TS ++ [(nkOf p2 w (numOf p0 p1 TS.length) e, k, a, b, c)]).length = TS.length + 1 := by rw [List.length_append]; rfl
  refine ⟨fun i hi => ?_, fun i hi b' hb => ?_, fun i hi => ?_, fun i hi => ?_, fun i j hij hj => ?_⟩
  · rw [hl] at hi
    by_cases z : i < TS.length
    · unfold nkT
      rw [ts_old z]
      exact h.name i z
    · obtain rfl : i = TS.length := by omega
      unfold nkT
      rw [ts_new]
      exact ⟨w, e, rfl, hw⟩
  · rw [hl] at hi
    unfold bhT at hb
    by_cases z : i < TS.length
    · rw [ts_old z] at hb
      exact h.back i z b' hb
    · obtain rfl : i = TS.length := by omega
      rw [ts_new] at hb
      exact hk b' hb
  · rw [hl] at hi
    by_cases z : i < TS.length
    · rw [ts_old z]; exact h.small i z
    · obtain rfl : i = TS.length := by omega
      rw [ts_new]; exact hc
  · rw [hl] at hi
    by_cases z : i < TS.length
    · rw [ts_old z]; exact h.hand i z
    · obtain rfl : i = TS.length := by omega
      rw [ts_new]; exact hb5
  · rw [hl] at hj
    by_cases z : j < TS.length
    · rw [ts_old z, ts_old (by omega)]; exact h.up i j hij z
    · obtain rfl : j = TS.length := by omega
      rw [ts_new, ts_old hij]; exact hu i hij
theorem TOk.plw {p0 p1 p2 : Nat} {TS : List Dr} (h : TOk p0 p1 p2 TS) (hl : TS.length ≤ 60) (hp : p1 < 66) : PLW (nkT TS) (bhT TS) (dT p2 TS) (List.range TS.length) 2 where
  few := by rw [List.length_range]; omega
  up := by
    rw [List.pairwise_iff_getElem]
    intro i j hi hj hij
    rw [List.length_range] at hi hj
    rw [List.getElem_range, List.getElem_range]
    exact rk_up (h.up i j hij hj) (h.small i hi) (h.small j hj)
  inj := fun i hi j hj e => by
    have hi := List.mem_range.mp hi
    have hj := List.mem_range.mp hj
    obtain ⟨w, x, e1, _⟩ := h.name i hi
    obtain ⟨w', x', e2, _⟩ := h.name j hj
    rw [e1, e2] at e
    exact num_inj hp (by omega) (by omega) (nkOf_num e)
  wf := wf_range h.back
  keys := rk_keys fun d hd => by
    obtain ⟨i, _, rfl⟩ := List.mem_map.mp hd
    exact rkD_rk _ _ _ _
end L2
set_option maxHeartbeats 4000000
namespace L2
open PySem PySem.Spec PySem.W PyProof.Rows
def GtAt (A : Around) (s : Shared) (x y : Value) (b : Bool) : Prop := ∀ (prog : Program) (w : World) (E : Value → Shared → Prop) (Q : Value → Shared → Prop), Q (.bool b) s → wpAny (model prog w) A (richCompare .Gt x y) Q E s
open SeqAt in
theorem tuple_gtAt (l b : Addr) (us vs : Array Value) (n n2 : Nat) (dd dd2 : Option Addr) (sl sl2 : Array (Option Value)) (e : Nat → Bool) (c : Bool) :
    Meets (Builtin.«tuple.__gt__» ⟨[.ref l, .ref b], []⟩)
      (fun A R s => s.heap.get? l = some { cls := .type "tuple", dict := dd, data := .seq us n, slots := sl } ∧ s.heap.get? b = some { cls := .type "tuple", dict := dd2, data := .seq vs n2, slots := sl2 } ∧
        (∀ j (h1 : j < us.size) (h2 : j < vs.size), EqAt A.in1 s us[j] vs[j] (e j)) ∧
        (∀ i (h1 : i < us.size) (h2 : i < vs.size), (∀ j, j < i → e j = true) → e i = false → GtAt A.in1 s us[i] vs[i] c) ∧
        ((∀ j, j < min us.size vs.size → e j = true) → c = decide (vs.size < us.size)) ∧ R (.ok (.ret (.bool c))) s) :=
  .of_wp fun prog w A R s h => by
    obtain ⟨hp, g, d, tk, os⟩ := s
    obtain ⟨hl, hb, he, hlt, hall, h⟩ := h
    have f2 := AutoSeq1.sub_tuple_tuple
    have hZ : (us.toList.zip vs.toList).length = min us.size vs.size := by simp
    wp_walk using wpAny_loadPart' hl, wpAny_loadPart' hb, wpAny_forIn_list _ (fun rest b s' => b.1 = none ∧ s' = ⟨hp, g, d, tk, os⟩ ∧ ∃ i, rest = (us.toList.zip vs.toList).drop i ∧ ∀ j, j < i → e j = true) _
    case turn =>
      rintro ⟨y, x⟩ rest b s' ⟨hb', rfl, i, hz, hi⟩
      have hlt' : i < (us.toList.zip vs.toList).length := by
        rcases Nat.lt_or_ge i (us.toList.zip vs.toList).length with h' | h'
        · exact h'
        · rw [List.drop_of_length_le h'] at hz; cases hz
      have h1 : i < us.size := by omega
      have h2 : i < vs.size := by omega
      rw [List.drop_eq_getElem_cons hlt'] at hz
      injection hz with hyx hrest
      have hy : y = us[i] := by have := congrArg Prod.fst hyx; simpa using this
      have hx : x = vs[i] := by have := congrArg Prod.snd hyx; simpa using this
      subst hy hx
      refine wpAny_bind (he i h1 h2 prog w _ _ ?_)
      cases hy : e i with
      | true =>
        wp_walk
        exact ⟨rfl, rfl, i + 1, hrest, fun j hj => by
          by_cases z : j = i
          · rw [z]; exact hy
          · exact hi j (by omega)⟩
      | false =>
        have q := hlt i h1 h2 hi hy
        dsimp only
        rw [if_pos (by rfl)]
        refine wpAny_bind (wpAny_rule (wpAny_bind (q prog w _ _ ?_)))
        exact wpAny_bind (wpAny_pure (wpAny_pure (wpAny_pure ⟨_, rfl, h⟩)))
    case fin =>
      rintro ⟨b1, b2⟩ s' ⟨hb', rfl, i, hz, hi⟩
      simp only at hb'
      subst hb'
      have hge : min us.size vs.size ≤ i := by
        rcases Nat.lt_or_ge i (us.toList.zip vs.toList).length with h' | h'
        · rw [List.drop_eq_getElem_cons h'] at hz; cases hz
        · omega
      have := hall fun j hj => hi j (by omega)
      wp_walk
      exact ⟨_, rfl, by rw [this] at h; simpa [Builtin.Tuple.tupleCompareSizes] using h⟩
    case h =>
      exact ⟨rfl, rfl, 0, rfl, fun j hj => absurd hj (Nat.not_lt_zero _)⟩
theorem GtAt.tuples {A : Around} {s : Shared} {l b : Addr} {us vs : Array Value} {e : Nat → Bool} {c : Bool} (hl : s.heap.IsTuple l us) (hb : s.heap.IsTuple b vs) (hu : A.units < cLine)
    (he : ∀ j (h1 : j < us.size) (h2 : j < vs.size), SeqAt.EqAt A.in1 s us[j] vs[j] (e j)) (hlt : ∀ i (h1 : i < us.size) (h2 : i < vs.size), (∀ j, j < i → e j = true) → e i = false → GtAt A.in1 s us[i] vs[i] c)
    (hall : (∀ j, j < min us.size vs.size → e j = true) → c = decide (vs.size < us.size)) : GtAt A s (.ref l) (.ref b) c := fun prog w E Q h => by
  obtain ⟨⟨cls, dd, data, sl⟩, ho, hc, n, hd⟩ := id hl
  obtain ⟨⟨cls2, dd2, data2, sl2⟩, ho2, hc2, n2, hd2⟩ := id hb
  simp only at hc hd hc2 hd2
  subst hc hd hc2 hd2
  exact richCompare_meets_room (op := .Gt) ⟨_, ho, rfl⟩ ⟨_, ho2, rfl⟩ F.slot_tuple_gt F.entry_tuple_gt (F.args_tuple_gt_2 _ _) (tuple_gtAt l b us vs n n2 dd dd2 sl sl2 e c)
    ⟨ho, ho2, he, hlt, hall, show Value.bool c ≠ Value.notImplemented ∧ Q (.bool c) s from ⟨(fun x => nomatch x), h⟩⟩ hu
theorem GtAt.ints {A : Around} {s : Shared} (i j : Int) (t u : Tok) : GtAt A s (.int i t) (.int j u) (decide (j < i)) := fun prog w E Q h =>
  richCompare_gives (op := .Gt) (typeIs_int s _ t) (typeIs_int s _ u) F.slot_int_gt F.entry_int_gt (F.args_int_gt_2 _ _) (gives_int_gt _ _ t u) (fun x => nomatch x) h
theorem intT_at {ns : List Int} {i : Nat} (h : i < (ns.map PyData.int).length) : ∃ k, (ns.map PyData.int).getD i .none = .int k := by
  rw [List.length_map] at h
  exact ⟨ns[i], by rw [List.getD_eq_getElem?_getD, List.getElem?_map, List.getElem?_eq_getElem h]; rfl⟩
theorem ints_lay : ∀ ns : List Int, PyData.canLayAll0 (ns.map PyData.int) = true
  | [] => rfl
  | n :: ns => by
    show (true && PyData.canLayAll0 (ns.map PyData.int)) = true
    rw [ints_lay ns]; rfl
theorem ints_deep : ∀ ns : List Int, PyData.depthAll (ns.map PyData.int) = 0
  | [] => rfl
  | n :: ns => by
    show max 0 (PyData.depthAll (ns.map PyData.int)) = 0
    rw [ints_deep ns]; rfl
theorem ints_sk : ∀ ns ms : List Int, sks (ns.map PyData.int) (ms.map PyData.int) = true
  | [], _ => rfl
  | _ :: _, [] => rfl
  | n :: ns, m :: ms => by
    show (true && sks (ns.map PyData.int) (ms.map PyData.int)) = true
    rw [ints_sk ns ms]; rfl
open SeqAt in
theorem pairEq_symm : ∀ (ns ms : List Int) (j : Nat), pairEq (ns.map PyData.int) (ms.map PyData.int) j = pairEq (ms.map PyData.int) (ns.map PyData.int) j := fun ns ms j => by
  unfold pairEq
  have sd : ∀ a b : PyData, (∃ x, a = .int x) ∨ a = .none → (∃ x, b = .int x) ∨ b = .none → PyData.eqv a b = PyData.eqv b a := fun a b ha hb => by
    rcases ha with ⟨x, rfl⟩ | rfl <;> rcases hb with ⟨y, rfl⟩ | rfl
    · by_cases e : x = y
      · rw [e]
      · have h1 : PyData.eqv (.int x) (.int y) = false := by
          cases q : PyData.eqv (.int x) (.int y) with
          | false => rfl
          | true => have := (sk_eq _ _ rfl).mp q; injection this with this; exact absurd this e
        have h2 : PyData.eqv (.int y) (.int x) = false := by
          cases q : PyData.eqv (.int y) (.int x) with
          | false => rfl
          | true => have := (sk_eq _ _ rfl).mp q; injection this with this; exact absurd this.symm e
        rw [h1, h2]
    · rfl
    · rfl
    · rfl
  have kind : ∀ l : List Int, (∃ x, (l.map PyData.int).getD j .none = .int x) ∨ (l.map PyData.int).getD j .none = .none := fun l => by
    by_cases h : j < (l.map PyData.int).length
    · exact .inl (intT_at h)
    · exact .inr (by rw [List.getD_eq_getElem?_getD, List.getElem?_eq_none (by omega)]; rfl)
  exact sd _ _ (kind ns) (kind ms)
open SeqAt in
theorem gt_reads {A : Around} {s : Shared} {a b : Value} {as bs : List Addr} {ns ms : List Int} (ra : Reads s.heap a (.tuple (ns.map PyData.int)) as) (rb : Reads s.heap b (.tuple (ms.map PyData.int)) bs) (hu : A.units + 2 < cLine) :
    GtAt A s a b (ltD (.tuple (ms.map PyData.int)) (.tuple (ns.map PyData.int))) := by
  cases ra with
  | tuple h1 h2 h3 h4 =>
    cases rb with
    | tuple k1 k2 k3 k4 =>
      rename_i l o us m b' o' vs m'
      have lx := ReadsAll.length _ _ _ h4
      have ly := ReadsAll.length _ _ _ k4
      rw [Array.length_toList] at lx ly
      rw [ltD]
      have eq' : ∀ j (g1 : j < us.size) (g2 : j < vs.size), EqAt A.in1 s us[j] vs[j] (pairEq (ms.map PyData.int) (ns.map PyData.int) j) := fun j g1 g2 => by
        obtain ⟨p1, r1⟩ := reads_at (i := j) (by rw [Array.length_toList]; exact g1) h4
        obtain ⟨p2, r2⟩ := reads_at (i := j) (by rw [Array.length_toList]; exact g2) k4
        have dj := depth_at (ns.map PyData.int) j (by omega)
        rw [ints_deep] at dj
        have := eqAt_reads ((ns.map PyData.int).getD j .none) ((ms.map PyData.int).getD j .none) A.in1 s _ _ _ _ r1 r2 (lays_at (ints_lay ns) (by omega)) (lays_at (ints_lay ms) (by omega)) (by show A.units + 1 + _ < cLine; omega)
        simp only [Array.getElem_toList] at this
        rw [← pairEq_symm]
        exact this
      refine GtAt.tuples ⟨_, h1, h2, _, h3⟩ ⟨_, k1, k2, _, k3⟩ (by omega) eq' (fun i g1 g2 hj hf => ?_) fun hj => ?_
      · obtain ⟨p1, r1⟩ := reads_at (i := i) (by rw [Array.length_toList]; exact g1) h4
        obtain ⟨p2, r2⟩ := reads_at (i := i) (by rw [Array.length_toList]; exact g2) k4
        rw [ltDs_at _ _ i (by omega) (by omega) hj hf]
        obtain ⟨x, ex⟩ := intT_at (ns := ns) (i := i) (by omega)
        obtain ⟨y, ey⟩ := intT_at (ns := ms) (i := i) (by omega)
        rw [ex] at r1 ⊢
        rw [ey] at r2 ⊢
        simp only [Array.getElem_toList] at r1 r2
        generalize us[i] = u0 at r1 ⊢
        generalize vs[i] = v0 at r2 ⊢
        cases r1
        cases r2
        exact GtAt.ints _ _ _ _
      · rw [ltDs_all _ _ fun j h => hj j (by omega), lx, ly]
section
variable {prog : Program} {w : World} {A : Around} {R : Result → Shared → Prop} {I : Addr} {fp wr : List Addr} {n : Nat} {P : Nat → Value → Prop} {St : Nat → Heap → Prop} {G : Heap → Prop}
theorem max_turns (W : Walks prog w A.in1 I fp wr n P St) (bt : Nat → Nat → Bool) (S : Addr) (hSf : S ∉ fp) (hG : ∀ h h', G h → (∀ b o, b ∉ wr → b ≠ S → h.get? b = some o → h'.get? b = some o) → G h') (hcmp : ∀ i j vi vj s, G s.heap → P i vi → P j vj → GtAt A.in1 s vi vj (bt i j)) :
    ∀ (k j : Nat) (s : Shared) (vb : Value) (c : Nat), n - (j + 1) = k → j + 1 ≤ n → St (j + 1) s.heap → G s.heap → P (argBest bt j) vb →
    s.heap.get? S = some { cls := .type "list", dict := none, data := .seq #[vb, vb] c, slots := #[] } →
    (∀ v h' tk, P (argBest bt (n - 1)) v → (∀ b o, b ∉ wr → b ≠ S → s.heap.get? b = some o → h'.get? b = some o) → R (.ok (.ret v)) { s with heap := h', toks := tk }) →
    codeAny (model prog w) A (.builtin "max.loop" ⟨[.ref I, .none, .ref S], []⟩) R s := by
  have hSw : S ∉ wr := fun h => hSf (W.sub _ h)
  have hname : (toString "max" ++ toString ".loop" : String) = "max.loop" := by decide
  intro k
  induction k with
  | zero =>
    intro j s vb c hk hj hst hg hPb hS hR
    have hin : j + 1 = n := by omega
    refine codeAny_builtin F.entry_max_loop ?_
    rw [Around.under_plainId F.plain_max_loop _]
    show wpAny _ A.in1 (seqItems? (.ref S) >>= _) _ _ s
    refine wpAny_bind (wpAny_seqItems hS rfl ?_)
    show wpAny _ A.in1 (tryCatch (pyNext (.ref I)) _ >>= _) _ _ s
    refine wpAny_bind (wpAny_tryCatch (W.done s _ _ (hin ▸ hst) fun h' tk hk' => ?_))
    have hS' := hk' S _ hSw hS
    show wpAny _ A.in1 (updateSeq S (fun _ => #[]) >>= _) _ _ _
    refine wpAny_bind ?_
    refine wpAny_updateSeq hS' rfl (wpAny_bind (wpAny_letGo (wpAny_pure ?_)))
    refine hR vb _ tk (by rw [← hin]; exact hPb) fun b o hbw hbS e => (Heap.get?_update_other _ _ (Ne.symm hbS)).trans (hk' b o hbw e)
  | succ k ih =>
    intro j s vb c hk hj hst hg hPb hS hR
    have hlt : j + 1 < n := by omega
    refine codeAny_builtin F.entry_max_loop ?_
    rw [Around.under_plainId F.plain_max_loop _]
    show wpAny _ A.in1 (seqItems? (.ref S) >>= _) _ _ s
    refine wpAny_bind (wpAny_seqItems hS rfl ?_)
    show wpAny _ A.in1 (tryCatch (pyNext (.ref I)) _ >>= _) _ _ s
    refine wpAny_bind (wpAny_tryCatch (W.item (j + 1) s _ _ hlt hst fun v h' tk hP hst' hk' => ?_))
    have hS' := hk' S _ hSw hS
    have hg' : G h' := hG _ _ hg fun b o hb _ e => hk' b o hb e
    show wpAny _ A.in1 (tryCatch (holding [v, v] (richCompare .Gt v vb >>= _)) _ >>= _) _ _ _
    refine wpAny_bind (wpAny_tryCatch (wpAny_holding (wpAny_bind (hcmp (j + 1) (argBest bt j) v vb { s with heap := h', toks := tk } hg' hP hPb prog w _ _ ?_))))
    refine wpAny_bind (wpAny_holding (wpAny_truthy_bool ?_))
    refine wpAny_bind (wpAny_letGo (wpAny_pure ?_))
    cases hb : bt (j + 1) (argBest bt j) with
    | true =>
      simp only [if_true]
      refine wpAny_bind ?_
      refine wpAny_updateSeq hS' rfl (wpAny_bind (wpAny_letGo ?_))
      rw [hname]
      refine wpAny_pure ⟨plainId_quiet F.plain_max_loop _, ih (j + 1) _ v _ (by omega) hlt (W.frame _ _ _ hst' fun b hbf o e => ?_) (hG _ _ hg' fun b o _ hbS e => (Heap.get?_update_other _ _ (Ne.symm hbS)).trans e) (by simp only [argBest, hb, if_true]; exact hP) (Heap.get?_update_self _ hS' rfl)
        fun v' h'' tk'' hP' hk'' => ?_⟩
      · exact (Heap.get?_update_other _ _ (fun h : S = b => hSf (by rw [h]; exact hbf))).trans e
      · exact hR v' h'' tk'' hP' fun b o hbw hbS e => hk'' b o hbw hbS ((Heap.get?_update_other _ _ (Ne.symm hbS)).trans (hk' b o hbw e))
    | false =>
      simp only [Bool.false_eq_true, if_false]
      refine wpAny_bind (wpAny_letGo ?_)
      rw [hname]
      refine wpAny_pure ⟨plainId_quiet F.plain_max_loop _, ih (j + 1) _ vb c (by omega) hlt hst' hg' (by simp only [argBest, hb, Bool.false_eq_true, if_false]; exact hPb) hS' fun v' h'' tk'' hP' hk'' => ?_⟩
      exact hR v' h'' tk'' hP' fun b o hbw hbS e => hk'' b o hbw hbS (hk' b o hbw e)
theorem max_first (W : Walks prog w A.in1 I fp wr n P St) (bt : Nat → Nat → Bool) (S : Addr) (hSf : S ∉ fp) (hG : ∀ h h', G h → (∀ b o, b ∉ wr → b ≠ S → h.get? b = some o → h'.get? b = some o) → G h') (hcmp : ∀ i j vi vj s, G s.heap → P i vi → P j vj → GtAt A.in1 s vi vj (bt i j)) (hn : 0 < n) {s : Shared} {c : Nat} (hst : St 0 s.heap) (hg : G s.heap)
    (hS : s.heap.get? S = some { cls := .type "list", dict := none, data := .seq #[] c, slots := #[] })
    (hR : ∀ v h' tk, P (argBest bt (n - 1)) v → (∀ b o, b ∉ wr → b ≠ S → s.heap.get? b = some o → h'.get? b = some o) → R (.ok (.ret v)) { s with heap := h', toks := tk }) :
    codeAny (model prog w) A (.builtin "max.loop" ⟨[.ref I, .none, .ref S], []⟩) R s := by
  have hSw : S ∉ wr := fun h => hSf (W.sub _ h)
  have hname : (toString "max" ++ toString ".loop" : String) = "max.loop" := by decide
  refine codeAny_builtin F.entry_max_loop ?_
  rw [Around.under_plainId F.plain_max_loop _]
  show wpAny _ A.in1 (seqItems? (.ref S) >>= _) _ _ s
  refine wpAny_bind (wpAny_seqItems hS rfl ?_)
  show wpAny _ A.in1 (tryCatch (pyNext (.ref I)) _ >>= _) _ _ s
  refine wpAny_bind (wpAny_tryCatch (W.item 0 s _ _ hn hst fun v h' tk hP hst' hk' => ?_))
  have hS' := hk' S _ hSw hS
  have hg' : G h' := hG _ _ hg fun b o hb _ e => hk' b o hb e
  show wpAny _ A.in1 (updateSeq S (fun _ => #[v, v]) >>= _) _ _ _
  refine wpAny_bind ?_
  refine wpAny_updateSeq hS' rfl ?_
  rw [hname]
  refine wpAny_pure ⟨plainId_quiet F.plain_max_loop _, max_turns W bt S hSf hG hcmp _ 0 _ v _ rfl hn (W.frame _ _ _ hst' fun b hbf o e => ?_) (hG _ _ hg' fun b o _ hbS e => (Heap.get?_update_other _ _ (Ne.symm hbS)).trans e) hP (Heap.get?_update_self _ hS' rfl) fun v' h'' tk'' hP' hk'' => ?_⟩
  · exact (Heap.get?_update_other _ _ (fun h : S = b => hSf (by rw [h]; exact hbf))).trans e
  · exact hR v' h'' tk'' hP' fun b o hbw hbS e => hk'' b o hbw hbS ((Heap.get?_update_other _ _ (Ne.symm hbS)).trans (hk' b o hbw e))
end
theorem best_all {bt : Nat → Nat → Bool} (irr : ∀ i, bt i i = false) (tr : ∀ i j k, bt i j = true → bt j k = true → bt i k = true) : ∀ k j, j ≤ k → bt j (argBest bt k) = false
  | 0, j, h => by
    obtain rfl : j = 0 := by omega
    exact irr 0
  | k + 1, j, h => by
    unfold argBest
    cases hb : bt (k + 1) (argBest bt k) with
    | true =>
      rw [if_pos rfl]
      by_cases z : j = k + 1
      · rw [z]; exact irr _
      · have := best_all irr tr k j (by omega)
        cases q : bt j (k + 1) with
        | false => rfl
        | true => rw [tr _ _ _ q hb] at this; cases this
    | false =>
      rw [if_neg (by decide)]
      by_cases z : j = k + 1
      · rw [z]; exact hb
      · exact best_all irr tr k j (by omega)
theorem best_le (bt : Nat → Nat → Bool) : ∀ k, argBest bt k ≤ k
  | 0 => Nat.le_refl _
  | k + 1 => by
    unfold argBest
    have := best_le bt k
    split <;> omega
def rMaxT (K : PySem.W.Frag) : List V → Hp → VK → Prop := fun xs H Q => ∃ p ys, ∃ nss : List (List Int), xs = [.ref p] ∧ SqL K H p ys ∧ DVs K H ys (nss.map fun ns => .tuple (ns.map PyData.int)) ∧ 0 < ys.length ∧
  ∀ (m : Nat) v ns, ys[m]? = some v → nss[m]? = some ns → (∀ ks ∈ nss, ltD (.tuple (ns.map PyData.int)) (.tuple (ks.map PyData.int)) = false) → Q v H
section
variable {X : Cx}
theorem call_maxT (hc : X.calm = true) (hu : X.A.units + 3 + 61 < cLine) : CallR X (.builtin "max") (rMaxT X.K) := by
  intro pins s σ H xs us Q I r h
  obtain ⟨p, ys, nss, rfl, hq, hd, hn, q⟩ := h
  obtain ⟨u, rfl, ru⟩ := vals1 r
  cases ru
  obtain ⟨its, rv, pl, hz⟩ := I.list hq
  have hl := rv.length
  have hdl := dvs_length hd
  rw [List.length_map] at hdl
  obtain ⟨as, ra⟩ := hd.reads I rv
  have hh := I.ok.hd hc
  have hil := pl.isList
  have hlt : p < s.heap.objs.size := by obtain ⟨_, e, _⟩ := hil; exact Heap.lt_size e
  have hname : (toString "max" ++ toString ".loop" : String) = "max.loop" := by decide
  let D : Nat → PyData := fun i => .tuple ((nss.getD i []).map PyData.int)
  have look : ∀ (h' : Heap), Ext s.heap h' → ∀ i v, its.toArray[i]? = some v → ∃ bs, Reads h' v (D i) bs := fun h' x i v e => by
    rw [List.getElem?_toArray] at e
    obtain ⟨hi, e⟩ := List.getElem?_eq_some_iff.mp e
    obtain ⟨bs, z⟩ := reads_at hi (readsA_ext x ra)
    have ed : (nss.map fun ns => PyData.tuple (ns.map PyData.int)).getD i .none = D i := by
      rw [List.getD_eq_getElem?_getD, List.getElem?_map, List.getElem?_eq_getElem (by omega : i < nss.length)]
      show _ = PyData.tuple ((nss.getD i []).map PyData.int)
      rw [List.getD_eq_getElem?_getD, List.getElem?_eq_getElem (by omega : i < nss.length)]
      rfl
    rw [e, ed] at z
    exact ⟨bs, z⟩
  refine call_function_tree F.kind_max F.plain_max F.entry_max (F.args_max1 _) ?_
  show wpAny _ X.A.in1 (Builtin.Builtins.bindParams "max" ["key", "default"] 0 ⟨[], []⟩ >>= _) _ _ s
  refine wpAny_bind (wpAny_of_eq (show Builtin.Builtins.bindParams "max" ["key", "default"] 0 ⟨[], []⟩ = pure [none, none] from rfl) ?_)
  refine wpAny_bind (wpAny_pure ?_)
  refine wpAny_bind (wpAny_pyIter_list hil (wpAny_bind (wpAny_newObj_type ?_)))
  rw [hname]
  have e0 : ∀ b o, s.heap.get? b = some o → b ≠ s.heap.objs.size ∧ b ≠ (s.heap.push { cls := .type "list_iterator", data := .fields #[.ref p, .int 0 0] }).objs.size := fun b o e => by
    have := Heap.lt_size e
    have hz' : (s.heap.push { cls := .type "list_iterator", data := .fields #[.ref p, .int 0 0] }).objs.size = s.heap.objs.size + 1 := Heap.size_push ..
    rw [hz']
    exact ⟨Nat.ne_of_lt this, Nat.ne_of_lt (Nat.lt_succ_of_lt this)⟩
  have hSf : (s.heap.push { cls := .type "list_iterator", data := .fields #[.ref p, .int 0 0] }).objs.size ∉ [s.heap.objs.size, p] := fun hm => by
    have hz' : (s.heap.push { cls := .type "list_iterator", data := .fields #[.ref p, .int 0 0] }).objs.size = s.heap.objs.size + 1 := Heap.size_push ..
    rw [hz'] at hm
    rcases List.mem_cons.mp hm with z | z
    · exact absurd z (Nat.succ_ne_self _)
    · rw [← List.mem_singleton.mp z] at hlt
      exact absurd hlt (Nat.not_lt.mpr (Nat.le_succ _))
  have x2 : Ext s.heap ((s.heap.push { cls := .type "list_iterator", data := .fields #[.ref p, .int 0 0] }).push { cls := .type "list", data := .seq #[] }) := (Ext.push _ _).trans (.push _ _)
  have W := Walks.list (prog := X.prog) (w := X.w) (A := X.A.in1) hh s.heap.objs.size p (Nat.ne_of_lt hlt) its.toArray
  have hsz : its.toArray.size = its.length := List.size_toArray ..
  have irr : ∀ i, ltD (D i) (D i) = false := fun i => ltD_irr _
  refine wpAny_pure ⟨plainId_quiet F.plain_max_loop _, max_first (G := fun h' => Ext s.heap h') W (fun i j => ltD (D j) (D i)) _ hSf (fun h h' g k b o e => k b o (by simpa using (e0 b o e).1) (e0 b o e).2 (g b o e)) (fun i j vi vj s' g hi hj => ?_) (by omega)
    ⟨⟨_, Heap.get?_push_of_some _ (Heap.get?_push_size _ rfl), rfl, rfl⟩, (hil.push _).push _⟩ x2 (Heap.get?_push_size _ rfl) fun v h' tk hP hk => ?_⟩
  · obtain ⟨b1, r1⟩ := look _ g i vi hi
    obtain ⟨b2, r2⟩ := look _ g j vj hj
    exact gt_reads r1 r2 (by show X.A.units + 1 + 2 < cLine; omega)
  · have x3 : Ext s.heap h' := fun b o e => hk b o (by simpa using (e0 b o e).1) (e0 b o e).2 (x2 b o e)
    have ba := best_all irr (fun i j k h1 h2 => ltD_tr _ _ _ (by rw [sk]; exact ints_sk _ _) (by rw [sk]; exact ints_sk _ _) (by rw [sk]; exact ints_sk _ _) h2 h1) (its.toArray.size - 1) (bt := fun i j => ltD (D j) (D i))
    have bl := best_le (fun i j => ltD (D j) (D i)) (its.toArray.size - 1)
    have hP : its.toArray[argBest (fun i j => ltD (D j) (D i)) (its.toArray.size - 1)]? = some v := hP
    generalize argBest (fun i j => ltD (D j) (D i)) (its.toArray.size - 1) = m at ba bl hP
    rw [List.getElem?_toArray] at hP
    have hm : m < ys.length := by omega
    obtain ⟨u', hu', ru'⟩ := rv.get (i := m) (x := ys[m]) (List.getElem?_eq_getElem hm)
    rw [hP] at hu'
    cases hu'
    refine ⟨ys[m], H, I.kept x3, ru', q m _ (nss.getD m []) (List.getElem?_eq_getElem hm) (by rw [List.getD_eq_getElem?_getD, List.getElem?_eq_getElem (by omega : m < nss.length)]; rfl) fun ks hks => ?_⟩
    obtain ⟨j, hj, ej⟩ := List.mem_iff_getElem.mp hks
    have := ba j (by omega)
    show ltD (D m) _ = false
    have ek : D j = .tuple (ks.map PyData.int) := by
      show PyData.tuple ((nss.getD j []).map PyData.int) = _
      rw [List.getD_eq_getElem?_getD, List.getElem?_eq_getElem hj, ej]
      rfl
    rw [← ek]
    exact this
end
end L2
set_option maxHeartbeats 4000000
namespace L2
open PySem PySem.Spec PySem.W PyProof.Rows
def codO (c : Addr) (q : Str) : HO := .ext fun h => h.CodeRec (.ref c) q
def Tb (ln cl : Nat) (q : Str) (P : Addr) (H : Hp) : Prop := H P = some (.tbl #[]) ∨ ∃ c, H P = some (.tbl #[rawInt ln, rawInt cl, .ref c]) ∧ H c = some (codO c q)
theorem Tb.same {ln cl : Nat} {q : Str} {P : Addr} {H H' : Hp} (t : Tb ln cl q P H) (s : Same H H') : Tb ln cl q P H' := by
  rcases t with t | ⟨c, t, u⟩
  · exact .inl (s _ _ t)
  · exact .inr ⟨c, s _ _ t, s _ _ u⟩
theorem Tb.tbl {ln cl : Nat} {q : Str} {P : Addr} {H : Hp} (t : Tb ln cl q P H) : ∃ ps, H P = some (.tbl ps) := by
  rcases t with t | ⟨c, t, u⟩
  · exact ⟨_, t⟩
  · exact ⟨_, t⟩
theorem Tb.keep {ln cl : Nat} {q : Str} {P : Addr} {H H' : Hp} (t : Tb ln cl q P H) (k : ∀ b u, H b = some u → ((∃ ps, u = .tbl ps) ∨ ∃ φ, u = .ext φ) → H' b = some u) : Tb ln cl q P H' := by
  rcases t with t | ⟨c, t, u⟩
  · exact .inl (k _ _ t (.inl ⟨_, rfl⟩))
  · exact .inr ⟨c, k _ _ t (.inl ⟨_, rfl⟩), k _ _ u (.inr ⟨_, rfl⟩)⟩
theorem Tb.cut {ln cl : Nat} {q : Str} {P a : Addr} {H H' : Hp} {o : HO} (t : Tb ln cl q P H) (e : H a = some o) (h1 : ∀ ps, o ≠ .tbl ps) (h2 : ∀ φ, o ≠ .ext φ) (s : Same (del H a) H') : Tb ln cl q P H' :=
  t.keep fun b u e' hu => s _ _ (by
    rw [del_ne (fun z => ?_)]
    · exact e'
    · subst z
      rw [e] at e'
      cases e'
      rcases hu with ⟨ps, z⟩ | ⟨φ, z⟩
      · exact h1 _ z
      · exact h2 _ z)
theorem Tb.wr {ln cl : Nat} {q : Str} {P a : Addr} {H : Hp} {o o' : HO} (t : Tb ln cl q P H) (e : H a = some o) (h1 : ∀ ps, o ≠ .tbl ps) (h2 : ∀ φ, o ≠ .ext φ) : Tb ln cl q P (upd H a o') :=
  t.cut e h1 h2 fun b u q => by
    by_cases z : b = a
    · subst z; rw [del_at] at q; cases q
    · rw [del_ne z] at q
      rw [upd_ne z]
      exact q
theorem codO_ok {P : Program} {w : World} {H : Hp} {h : Heap} {c : Addr} {q : Str} (r : h.CodeRec (.ref c) q) : ObjOk P w H h c (codO c q) := by
  have st : ∀ h1 h2 : Heap, h1.CodeRec (.ref c) q → (∀ o, h1.get? c = some o → h2.get? c = some o) → h2.CodeRec (.ref c) q := by
    rintro h1 h2 ⟨c', oc, vs, tq, e, ho, r⟩ k
    cases e
    exact ⟨_, _, _, _, rfl, k _ ho, r⟩
  obtain ⟨c', oc, vs, tq, e, ho, r'⟩ := id r
  cases e
  exact ⟨r, ⟨_, ho⟩, st⟩
def tabP (K : PySem.W.Frag) (x : Str) : Addr := match tabIn K x with
  | some (_, P) => P
  | none => 0
def tabC (K : PySem.W.Frag) (x : Str) : Addr := match tabIn K x with
  | some (c, _) => c
  | none => 0
section
variable {X : Cx} {pins : List (Addr × Obj)} {σ : St} {H : Hp} {s : Shared}
theorem Inv.nstk (I : Inv X pins σ H s) {b : Addr} (hb : s.heap.objs.size ≤ b) : b ∉ frs X.stack := fun hm => by
  rcases List.mem_cons.mp (I.stkSub b hm) with z | z
  · exact absurd (Nat.lt_of_lt_of_le I.lt hb) (by rw [z]; exact Nat.lt_irrefl _)
  · exact I.nofs hb z
theorem Inv.tabbed {P c' : Addr} {q : Str} {h' : Heap} {tk : Nat} {more : Array Value} (I : Inv X pins σ H s) (hP : H P = some (.tbl #[])) (hx : ∀ b o, b ≠ P → s.heap.get? b = some o → h'.get? b = some o) (hc : s.heap.objs.size ≤ c') (hr : h'.CodeRec (.ref c') q) (ht : h'.get? P = some (tabObj more)) :
    Inv X pins σ (upd (upd H P (.tbl more)) c' (codO c' q)) { s with heap := h', toks := tk } := by
  have fc : H c' = none := I.hok.fresh hc
  have lP : P < s.heap.objs.size := I.hok.lt hP
  have nPc : P ≠ c' := Nat.ne_of_lt (Nat.lt_of_lt_of_le lP hc)
  have oth : ∀ b, b ≠ P → b ≠ c' → (upd (upd H P (.tbl more)) c' (codO c' q)) b = H b := fun b h1 h2 => by rw [upd_ne h2, upd_ne h1]
  have nt : ∀ {b u}, H b = some u → (∀ ps, u ≠ .tbl ps) → b ≠ P ∧ b ≠ c' := fun {b u} e hu => ⟨fun z => by
    subst z
    rw [e] at hP
    exact hu _ (Option.some.inj hP), fun z => by
    subst z
    rw [e] at fc
    cases fc⟩
  refine I.un ⟨fun b o e n _ _ => hx b o (fun z => by subst z; rw [n] at hP; cases hP) e, fun b o e n _ _ => ⟨o.slots, hx b o (fun z => by subst z; rw [n] at hP; cases hP) e⟩, fun b o e n _ => ?_, fun b o e _ => ?_, fun b xs e => ?_, fun b o u e => ?_, fun b ps e => ?_⟩ fun b u e => ?_
  · rw [oth b (fun z => by subst z; rw [n] at hP; cases hP) (Nat.ne_of_lt (Nat.lt_of_lt_of_le (Heap.lt_size e) hc))]; exact n
  · by_cases z : b = P
    · subst z; exact ⟨_, ht⟩
    · exact ⟨o, hx b o z e⟩
  · obtain ⟨n1, n2⟩ := nt e fun ps z => by cases z
    rw [oth b n1 n2]; exact e
  · obtain ⟨n1, n2⟩ := nt e fun ps z => by cases z
    rw [oth b n1 n2]; exact e
  · by_cases z : b = P
    · subst z
      rw [hP] at e
      cases e
      exact ⟨more, by rw [upd_ne nPc, upd_same]; simp⟩
    · refine ⟨#[], ?_⟩
      rw [oth b z (fun y => by subst y; rw [fc] at e; cases e), e]
      simp
  · by_cases zc : b = c'
    · subst zc
      rw [upd_same] at e
      cases e
      exact codO_ok hr
    · rw [upd_ne zc] at e
      by_cases z : b = P
      · subst z
        rw [upd_same] at e
        cases e
        exact ht
      · rw [upd_ne z] at e
        refine (I.hok b u e).stay (fun d v hd g => hx d v ?_ g) (fun d g => ?_) fun d xs g => ?_
        · rcases hd with hd | hd
          · rw [hd]; exact z
          · exact (nt hd fun ps y => by cases y).1
        · obtain ⟨n1, n2⟩ := nt g fun ps y => by cases y
          rw [oth d n1 n2]; exact g
        · obtain ⟨n1, n2⟩ := nt g fun ps y => by cases y
          rw [oth d n1 n2]; exact g
theorem ev_lam {Q : Value → Shared → Prop} {c P : Addr} {params : Arguments} {body : Expr} {scope : Scope} {lpos : Pos} (I : Inv X pins σ H s) (hcode : X.env.code = .ref c) (hC : codeHdIn X.K c P = true) (hB : X.base.BuiltinsAt X.mg P) (hT : Tb lpos.line lpos.col (X.env.qual ++ "<lambda>") P H)
    (hdef : defaultsOf params X.env = ([], [])) (hcl : closureFor scope X.env = pure [])
    (h : ∀ f c' ctv pm s' H', Inv X pins σ H' s' → Tb lpos.line lpos.col (X.env.qual ++ "<lambda>") P H' → H' c' = some (codO c' (X.env.qual ++ "<lambda>")) → Same (del H P) (del H' P) → H' f = none → f ∉ frs X.stack → s'.heap.get? f = some (kla_obj "<lambda>" (X.env.qual ++ "<lambda>") params body scope [] pm c' ctv) → Q (.ref f) s') :
    wpAny (model X.prog X.w) X.A (eval (.Lambda params body scope lpos) X.env) Q X.xe s := by
  have hgm : s.heap.Ns mainGlobals X.mg := I.mod.glob.keeps I.bk
  have C : CodeHd s.heap c P := codeHd_of_K I.kIn hC
  have hb : s.heap.BuiltinsAt X.mg P := hB.keeps I.bk
  have hgP : mainGlobals ≠ P := fun z => by
    obtain ⟨o, es, ep, e, _⟩ := I.mod.glob
    obtain ⟨ps, t⟩ := hT.tbl
    rw [← z, (I.bs _ _ e).2] at t
    cases t
  refine kla_eval hdef ?_
  rcases hT with hT | ⟨c', hT, hc'⟩
  · have hP : s.heap.get? P = some (tabObj #[]) := I.hok P _ hT
    refine kla_makeFunction hcl I.ok.glob hgm hcode C hP trivial rfl hgP hb fun c' ctv h' tk hx hge hlt hrec htb => ?_
    have lP : P < s.heap.objs.size := I.hok.lt hT
    have nPc : P ≠ c' := Nat.ne_of_lt (Nat.lt_of_lt_of_le lP hge)
    have szs : s.heap.objs.size ≤ h'.objs.size := Nat.le_of_lt (Nat.lt_of_le_of_lt hge hlt)
    have e0 : (#[] : Array Value) ++ #[rawInt lpos.line, rawInt lpos.col, .ref c'] = #[rawInt lpos.line, rawInt lpos.col, .ref c'] := by simp
    rw [e0] at htb
    have nfc : h'.objs.size ≠ c' := Nat.ne_of_gt hlt
    have nfP : h'.objs.size ≠ P := Nat.ne_of_gt (Nat.lt_of_lt_of_le lP szs)
    refine h _ c' ctv _ _ _ (Inv.tabbed (q := X.env.qual ++ "<lambda>") (more := #[rawInt lpos.line, rawInt lpos.col, .ref c']) I hT (fun b o nb e => Heap.get?_push_of_some _ (hx b o nb e)) hge ?_ (Heap.get?_push_of_some _ htb)) (.inr ⟨c', by rw [upd_ne nPc, upd_same], upd_same⟩) upd_same (fun b u e => ?_) ?_ (I.nstk szs) (Heap.get?_push_size _ rfl)
    · obtain ⟨c2, oc, vs, tq, e, ho, r⟩ := hrec
      exact ⟨c2, oc, vs, tq, e, Heap.get?_push_of_some _ ho, r⟩
    · by_cases z : b = P
      · subst z; rw [del_at] at e; cases e
      · rw [del_ne z] at e ⊢
        rw [upd_ne (fun y => by subst y; rw [I.hok.fresh hge] at e; cases e), upd_ne z]
        exact e
    · rw [upd_ne nfc, upd_ne nfP]
      exact I.hok.fresh szs
  · have hP : s.heap.get? P = some (tabObj #[rawInt lpos.line, rawInt lpos.col, .ref c']) := I.hok P _ hT
    refine kla_makeFunctionHit (cv := .ref c') hcl I.ok.glob hgm hcode C hP (by simp [TriplesOk, rawInt]) (by simp [codeAmong, rawInt]) hb fun ctv h' tk hk hsz => ?_
    refine h _ c' ctv _ _ H ?_ (.inr ⟨c', hT, hc'⟩) hc' (Same.refl _) (I.hok.fresh hsz) (I.nstk hsz) (Heap.get?_push_size _ rfl)
    exact I.un (Un.kept fun b o e => Heap.get?_push_of_some _ (hk b o e)) (I.hok.kept fun b o e => Heap.get?_push_of_some _ (hk b o e))
end
theorem lam_call {P : Program} {w : World} {K : PySem.W.Frag} {mg : Str → Option Value} {base : Heap} {A : Around} {outer : List Env} {s : Shared} {H : Hp} {k : Nat} {f c' : Addr} {q : Str} {params : Arguments} {body : Expr} {scope : Scope} {pm ctv x : Value} {y : Str} {v : V} {Q : VK} {tb : TE}
    (hr : Room k A) (e0 : Env0 P w K mg base A outer s H) (ho : s.heap.get? f = some (kla_obj "<lambda>" q params body scope [] pm c' ctv)) (hcd : s.heap.CodeRec (.ref c') q) (S : FnScope [y] [y] scope)
    (hbind : bindArgs (kla_fn "<lambda>" q params body scope [] pm (.ref c') ctv) ⟨[x], []⟩ = pure [(y, x)]) (rx : RelV v x) (hb : PE (cxOf CX0 P w K mg base [y] q scope f (.ref c') A outer s H E0).nox body tb) (hq : tb (start [y] [v]) H Q) :
    codeAny (model P w) A (.call (.ref f) ⟨[x], []⟩) (CR CX0 outer P w H s Q E0) s := by
  have lim : s.heap.NoLimit := e0.mod.nolimit.keeps fun b o e => (e0.bs b o e).1
  have hkind : ∀ z ∈ [(y, x)], scope.names.lookup z.1 = some .local ∨ (scope.names.lookup z.1 = some .cell ∧ ((cellsFrom (s.heap.objs.size + 1) scope.names []).lookup z.1).isSome = true) := fun ⟨n, u⟩ hy => by
    cases List.mem_singleton.mp hy
    rcases S.par y List.mem_cons_self with q | q
    · exact .inl q
    · exact .inr ⟨q, PySem.W.cellsFrom_some _ _ _ (.inl q)⟩
  refine kla_callFunE hr.depth ho rfl S.co S.gen rfl hcd ?_
  rw [hbind]
  refine wpAny_pure ?_
  refine wpAny_newFunctionEnv_cells S.kind hkind fun env he s1 xx => ?_
  subst he
  refine ⟨lim.keeps xx.toInCall.keep, kla_codeExpr ?_⟩
  have I : Inv (cxOf CX0 P w K mg base [y] q scope f (.ref c') A outer s H E0) [] (start [y] [v]) H s1 := inv_start S hr.hd e0 rfl (.cons rx .nil) xx
  refine wpAny_mono (hb.nox [] s1 (start [y] [v]) H Q I hq) (fun u s' hs => ?_) fun e s' hs => hs
  obtain ⟨v', H', J, rv, q'⟩ := hs
  exact ⟨v', H', J.os, J.bare, J.base, J.hok, rv, q'⟩
def tSortL (K : PySem.W.Frag) (ln cl : Nat) (q : Str) (P : Addr) (y : Str) (tb : TE) (t : TA) : TE := fun σ H Q => t σ H fun vs H1 => Tb ln cl q P H1 ∧ ∀ H2, Tb ln cl q P H2 → Same (del H1 P) (del H2 P) → rSortK K (fun vs H Q _ => tb (start [y] vs) H Q) vs H2 Q
section
variable {X : Cx} {k : Nat}
theorem pe_sortL {x y : Str} {e body : Expr} {params : Arguments} {scope : Scope} {c P : Addr} {p lpos kp pos : Pos} {t : TA} {tb : TE} (hcode : X.env.code = .ref c) (hC : codeHdIn X.K c P = true) (hB : X.base.BuiltinsAt X.mg P) (hr : Room (k + 1) X.A)
    (hg : Gl X x) (hm : X.mg x = none) (hv : bootBuiltins x = some (.builtin "sorted"))
    (S : FnScope [y] [y] scope) (hbind : ∀ pm cd ctv x, bindArgs (kla_fn "<lambda>" (X.env.qual ++ "<lambda>") params body scope [] pm cd ctv) ⟨[x], []⟩ = pure [(y, x)])
    (hb : ∀ f cd A outer s H, PE (cxOf CX0 X.prog X.w X.K X.mg X.base [y] (X.env.qual ++ "<lambda>") scope f cd A outer s H E0).nox body tb) (ha : PA X [e] t)
    (hdef : defaultsOf params X.env = ([], []) := by rfl) (hcl : closureFor scope X.env = pure [] := by rfl)
    (hn : x ≠ "__name__" := by decide) (hdb : (x == ("__debug__" : Str)) = false := by decide)
    (he : starEach [e] X.env = (false, eval e X.env) :: starEach [] X.env := by rfl) : PE X (.Call (.Name x p) [e] [⟨some "key", .Lambda params body scope lpos, kp⟩] pos) (tSortL X.K lpos.line lpos.col (X.env.qual ++ "<lambda>") P y tb t) := by
  intro pins s σ H Q I h
  refine wpAny_Call_Name_kw (ld_blt I hg hm hv ?_ hn hdb)
  refine callWith_kw (thn (ha pos pins s σ H _ I h) fun us s1 ⟨vs, H1, I1, r1, hT, q1⟩ => kws_cons (ev_lam I1 hcode hC hB hT hdef hcl fun f c' ctv pm s2 H2 I2 hT2 hc2 sm hf nf of => kws_nil ?_)) (by rw [he]; rfl) (by rw [he]; rfl)
  refine sorted_keyC (fun s' Hm x y Q e0 un same r1 hsp => ?_) (by have := hr.un; omega) I2 r1 (q1 H2 hT2 sm)
  have hcr : s'.heap.CodeRec (.ref c') (X.env.qual ++ "<lambda>") := (e0.hok c' _ (same _ _ hc2)).1
  exact lam_call hr.in2 e0 (un.keep f _ of hf nf (by simp)) hcr S (hbind _ _ _ _) r1 (hb _ _ _ _ _ _) hsp
end
theorem Fun.okC {P : Program} {w : World} {K : PySem.W.Frag} {mg : Str → Option Value} {base : Heap} {x qual : Str} {st : Stmt} {f : Addr} {fd : FuncData} {N ps : List Str} {k : Nat} {sp : Sp} (F : Fun K x qual st f fd) (S : FnScope N ps (defScope st)) (len : ∀ vs H Q E, sp vs H Q E → vs.length = ps.length)
    (hbody : ∀ (cdv : Value) (A : Around) (outer : List Env) (s : Shared) (H : Hp) (vs : List V) (Q : VK) (E : XK), fd.code = cdv → Room k (A.deeper (envOfC qual (defScope st) s.heap.objs.size f cdv)) → sp vs H Q E →
      ∃ t, PSs (cxOf CX0 P w K mg base N qual (defScope st) f cdv A outer s H E).nox (defBody st) t ∧ t { nx := fun _ H' => Q .non H', rt := Q } (start N vs) H) : FnOk P w K mg base CX0 (k + 1) f fd ps sp := by
  obtain ⟨oc, od, kV, doc, pm, an, cdv, ct, osl, rfl, lk, hcd⟩ := F.ex
  refine fn_of lk hcd S len fun A outer s H vs Q E hr hsp => ?_
  obtain ⟨t, h, q⟩ := hbody cdv A outer s H vs Q E rfl hr hsp
  exact ⟨t, h.nox, q⟩
def OnlyT (Ps : List Addr) (H : Hp) : Prop := ∀ b, (b ∈ Ps ∧ H b = some (.tbl #[])) ∨ (b ∉ Ps ∧ (H b = none ∨ ∃ o xs, H b = some (.frz o (.lst xs))))
theorem law_callT {P : Program} {w : World} {K : PySem.W.Frag} {mg mb : Str → Option Value} {CX : CXT} {k : Nat} {fa a : Addr} {fd : FuncData} {x : Str} {sp : Sp} {s₁ : Shared} {vs : List Value} {ns : List Int} {Ps : List Addr}
    (KX : K.In s₁.heap) (hns : s₁.heap.Ns mainGlobals mg) (hb : s₁.heap.Ns builtinsNs mb) (hbb : ∀ x : Str, x ≠ "__name__" → mb x = bootBuiltins x) (hlim : s₁.heap.NoLimit) (hg : s₁.gens = #[])
    (hnt : noTabs K = true) (hPs : ∀ Q ∈ Ps, s₁.heap.get? Q = some (tabObj #[]) ∧ isCodeTable s₁.heap Q) (hbm : ∀ Q ∈ Ps, s₁.heap.BuiltinsAt mg Q)
    (ha : s₁.heap.get? a = some { cls := .type "list", data := .seq vs.toArray }) (hi : IntsAre vs ns) (hl : ns.length ≤ sizeLine) (hr : Room k callerA)
    (F : ∀ base : Heap, K.In base → base.Ns mainGlobals mg → (∀ Q ∈ Ps, base.BuiltinsAt mg Q) → FnOk P w K mg base CX k fa fd [x] sp) (hbind : ∀ (s : Shared) (u : Value), BindsTo s fd ⟨[u], []⟩ [(x, u)])
    (hsp : ∀ H : Hp, OnlyT Ps H → SqL K H a (ns.map V.int) → sp [.ref a] H (fun v _ => v = .bl true) fun _ _ _ => False)
    (hCX : ∀ H e s', CX [] H s₁ (fun _ _ _ => False) e s' → False) :
    codeAny (model P w) callerA (.call (.ref fa) ⟨[.ref a], []⟩) (fun r s' => r = .ok (.ret (.bool true)) ∧ OldK s₁.heap s'.heap ∧ s'.os = s₁.os ∧ AllBare s'.gens) s₁ := by
  have rv := vals_ints hi
  have lenV := hi.length
  have naP : a ∉ Ps := fun z => by
    have := (hPs a z).1
    rw [ha] at this
    cases this
  have kP : ∀ Q ∈ Ps, K.lookup Q = none := fun Q hQ => by
    cases q : K.lookup Q with
    | none => rfl
    | some o =>
      have e := KX Q o q
      rw [(hPs Q hQ).1] at e
      cases e
      have h2 := List.all_eq_true.mp hnt (Q, _) (mem_of_lookupK q)
      exact absurd (show false = true from h2) Bool.false_ne_true
  have core : ∀ H : Hp, OnlyT Ps H → SqL K H a (ns.map V.int) → HOk P w H s₁.heap → (∀ b, H b ≠ none → b = a ∨ b ∈ Ps) → (H a ≠ none → K.lookup a = none) →
      codeAny (model P w) callerA (.call (.ref fa) ⟨[.ref a], []⟩) (fun r s' => r = .ok (.ret (.bool true)) ∧ OldK s₁.heap s'.heap ∧ s'.os = s₁.os ∧ AllBare s'.gens) s₁ := by
    intro H hO hS hok hA hK
    have base_of : ∀ {b : Addr} {o : Obj}, s₁.heap.get? b = some o → H b = none → (hidT s₁.heap H).get? b = some o := fun e n => hidT_get e n
    have none_of : ∀ {b : Addr} {o : Obj}, s₁.heap.get? b = some o → (∀ y, o.data ≠ .seq vs.toArray y) → o.data ≠ .fields #[] → H b = none := fun {b o} e d1 d2 => by
      cases q : H b with
      | none => rfl
      | some u =>
        rcases hA b (by rw [q]; simp) with e' | e'
        · subst e'
          rw [ha] at e; cases e
          exact absurd rfl (d1 _)
        · rw [(hPs b e').1] at e; cases e
          exact absurd rfl d2
    have nsK : ∀ {b : Addr} {m : Str → Option Value}, s₁.heap.Ns b m → (hidT s₁.heap H).Ns b m := fun {b m} ⟨o, es, ep, e, d, r⟩ => ⟨o, es, ep, base_of e (none_of e (fun y z => by rw [d] at z; cases z) (fun z => by rw [d] at z; cases z)), d, r⟩
    have hKb : K.In (hidT s₁.heap H) := fun b o e => base_of (KX b o e) (by
      cases q : H b with
      | none => rfl
      | some u =>
        rcases hA b (by rw [q]; simp) with e' | e'
        · subst e'
          rw [hK (by rw [q]; simp)] at e; cases e
        · rw [kP b e'] at e; cases e)
    have hBb : ∀ Q ∈ Ps, (hidT s₁.heap H).BuiltinsAt mg Q := fun Q hQ => by
      obtain ⟨bm, ob, b1, b2, b3, b4, b5, b6, b7, b8⟩ := hbm Q hQ
      exact ⟨bm, ob, b1, b2, b3, b4, base_of b5 (none_of b5 (fun y z => by rw [b8] at z; cases z) (fun z => by rw [b8] at z; cases z)), b6, b7, b8⟩
    have hM : Mod K mg (hidT s₁.heap H) := ⟨hKb, nsK hns, ⟨mb, nsK hb, hbb⟩, let ⟨mc, h1, h2⟩ := hlim; ⟨mc, nsK h1, h2⟩⟩
    have e0 : Env0 P w K mg (hidT s₁.heap H) callerA [] s₁ H := ⟨rfl, hM, fun b o e => of_hidT e, Nat.le_of_eq (hidT_size _ _), trivial, fun b hb => absurd (show b ∈ ([] : List Addr) from hb) (by simp), hok, .of_eq hg⟩
    refine codeAny_mono ((F _ hKb (nsK hns) hBb).run callerA [] s₁ H ⟨[.ref a], []⟩ [.ref a] [.ref a] _ _ hr e0 (hbind s₁ (.ref a)) (.cons rfl .nil) (hsp H hO hS)) fun r s' h => ?_
    cases r with
    | error e => exact (hCX H e s' h).elim
    | ok fl =>
      cases fl with
      | next => exact False.elim h
      | brk => exact False.elim h
      | cont => exact False.elim h
      | ret u =>
        obtain ⟨v, H', os, bare, un, hok', r', q⟩ := h
        have q' : v = .bl true := q
        subst q'
        obtain rfl : u = Value.bool true := r'
        refine ⟨rfl, ⟨fun b o e => ?_, fun b o e => un.there b o e (by simp)⟩, os, bare⟩
        rcases hO b with ⟨hbP, z⟩ | ⟨_, z | ⟨ob, xs, z⟩⟩
        · obtain ⟨more, z2⟩ := un.tbls b _ z
          have e2 : s'.heap.get? b = some { cls := .none, data := .fields (#[] ++ more) } := hok' b _ z2
          rw [(hPs b hbP).1] at e
          cases e
          exact .inr (.inl ⟨(hPs b hbP).2, rfl, #[], more, rfl, e2⟩)
        · exact .inl (un.keep b o e z (by intro y; exact absurd (show b ∈ ([] : List Addr) from y) (by simp)) (by simp))
        · have z2 := un.frzs b ob _ z
          obtain ⟨e1, _⟩ := hok b _ z
          obtain ⟨e2, _⟩ := hok' b _ z2
          rw [e] at e1; cases e1
          exact .inl e2
  cases hk : K.lookup a with
  | some o =>
    have e := KX a o hk
    rw [ha] at e
    cases e
    refine core (fun b => if b ∈ Ps then some (.tbl #[]) else none) (fun b => ?_) (.inr ⟨_, vs.toArray, _, hk, rfl, rfl, rfl, by rw [List.size_toArray, lenV]; exact hl, by simpa using rv⟩) (fun b u z => ?_) (fun b z => ?_) fun z => absurd (if_neg naP) z
    · by_cases hb : b ∈ Ps
      · exact .inl ⟨hb, if_pos hb⟩
      · exact .inr ⟨hb, .inl (if_neg hb)⟩
    · by_cases hb : b ∈ Ps
      · have z' := (if_pos hb).symm.trans z
        cases z'
        exact (hPs b hb).1
      · have z' := (if_neg hb).symm.trans z
        cases z'
    · by_cases hb : b ∈ Ps
      · exact .inr hb
      · exact absurd (if_neg hb) z
  | none =>
    refine core (fun b => if b ∈ Ps then some (.tbl #[]) else if b = a then some (.frz { cls := .type "list", data := .seq vs.toArray } (.lst (ns.map V.int))) else none) (fun b => ?_) (.inl (.inr ⟨{ cls := .type "list", data := .seq vs.toArray }, (if_neg naP).trans (if_pos rfl)⟩)) (fun b u z => ?_) (fun b z => ?_) fun _ => hk
    · by_cases hb : b ∈ Ps
      · exact .inl ⟨hb, if_pos hb⟩
      · by_cases hba : b = a
        · exact .inr ⟨hb, .inr ⟨_, _, (if_neg hb).trans (if_pos hba)⟩⟩
        · exact .inr ⟨hb, .inl ((if_neg hb).trans (if_neg hba))⟩
    · by_cases hb : b ∈ Ps
      · have z' := (if_pos hb).symm.trans z
        cases z'
        exact (hPs b hb).1
      · have z1 := (if_neg hb).symm.trans z
        by_cases hba : b = a
        · have z' := (if_pos hba).symm.trans z1
          cases z'
          subst hba
          exact ⟨ha, by rw [List.length_map]; exact hl, vs, _, rv, ha⟩
        · have z' := (if_neg hba).symm.trans z1
          cases z'
    · by_cases hb : b ∈ Ps
      · exact .inr hb
      · by_cases hba : b = a
        · exact .inl hba
        · exact absurd ((if_neg hb).trans (if_neg hba)) z
theorem walk_ofT {l : PySem.W.OpenLaw} {n k : Nat} {q : Program} {loose : List Str} {XP : (Str → Option Value) → Heap → Prop} {YP : World → Heap → Prop} {d : DefRec} {K : Params → PySem.W.Frag} {CX : CXT} {sp : PySem.W.Frag → Sp} {x : Str} {Ps : List Addr} {tp tc : PySem.W.Frag → Addr}
    (hn : l.most = some n) (hn2 : n ≤ sizeLine) (hdf : d.params.defaults = []) (hr : Room k callerA)
    (hY : ∀ (w : World) (h : Heap), YP w h → (K w.params).In h) (hYT : ∀ (w : World) (h : Heap), YP w h → ∀ Q ∈ Ps, h.get? Q = some (tabObj #[]))
    (hC : ∀ w : World, ∀ Q ∈ Ps, codeHdIn (K w.params) (tc (K w.params)) Q = true) (hnt : ∀ w : World, noTabs (K w.params) = true) (htp : ∀ w : World, tp (K w.params) ∈ Ps)
    (F : ∀ (w : World) (mg : Str → Option Value) (fa : Addr) (h : Heap), (K w.params).In h → h.Ns mainGlobals mg → mg d.name = some (.ref fa) →
      ∃ fd : FuncData, (∀ (s : Shared) (u : Value), BindsTo s fd ⟨[u], []⟩ [(x, u)]) ∧
        ∀ base : Heap, (K w.params).In base → base.Ns mainGlobals mg → base.BuiltinsAt mg (tp (K w.params)) → FnOk l.prog w (K w.params) mg base CX k fa fd [x] (sp (K w.params)))
    (hsp : ∀ (K : PySem.W.Frag) (H : Hp) (a : Addr) (ns : List Int), ns.length ≤ n → H (tp K) = some (.tbl #[]) → SqL K H a (ns.map V.int) → sp K [.ref a] H (fun v _ => v = .bl true) fun _ _ _ => False)
    (hCX : ∀ (H : Hp) (s : Shared) (e : Value) (s' : Shared), CX [] H s (fun _ _ _ => False) e s' → False) :
    PySem.W.WalkO q loose XP YP l.row.toRowW d [] (fun f vs => PySem.call f vs) := by
  refine Att.attach_call hn hdf fun w s₀ s₁ mg mb fa o pm cd doc a vs ns G Y ho hd hcd hmg hobj hints hlen hg => ?_
  have KX := hY w _ Y
  obtain ⟨fd, hb, hF⟩ := F w mg fa _ KX G.T.g hmg
  have hT := hYT w _ Y
  have hbm : ∀ Q ∈ Ps, s₁.heap.BuiltinsAt mg Q := fun Q hQ => by
    obtain ⟨bm, ob, b1, b2, b3, b4, b5, b6⟩ := G.T.bmain
    refine ⟨bm, ob, b1, b2, fun q => ?_, fun q => ?_, b3, b4, b5, b6⟩
    · obtain ⟨o, es, ep, e, hd, _⟩ := G.T.g
      rw [q, e] at b3; cases b3; rw [hd] at b6; cases b6
    · rw [q, hT Q hQ] at b3; cases b3; cases b4
  exact law_callT KX G.T.g G.T.b G.T.builtins G.T.nolimit hg (hnt w) (fun Q hQ => ⟨hT Q hQ, ((codeHd_of_K KX (hC w Q hQ)).tab (hT Q hQ)).isCodeTable⟩) hbm hobj hints (Nat.le_trans hlen hn2) hr (fun base h1 h2 h3 => hF base h1 h2 (h3 _ (htp w))) hb (fun H hO hS => hsp (K w.params) H a ns hlen (by
    rcases hO (tp (K w.params)) with z | z
    · exact z.2
    · exact absurd (htp w) z.1) hS) fun H e s' => hCX H s₁ e s'
end L2
set_option maxHeartbeats 4000000
namespace Rga
theorem after_keep {P : Nat → Bool} {a b : Nat} (ha : P a = true) (hb : P b = true) : ∀ row : List Nat, (after b a row).filter P = after b a (row.filter P)
  | [] => rfl
  | x :: xs => by
    by_cases e : x = b
    · subst e
      rw [List.filter_cons_of_pos hb]
      unfold after
      rw [if_pos rfl, if_pos rfl, List.filter_cons_of_pos hb, List.filter_cons_of_pos ha]
    · have e1 : after b a (x :: xs) = x :: after b a xs := by
        show (if x = b then _ else _) = _
        rw [if_neg e]
      rw [e1]
      by_cases hx : P x = true
      · rw [List.filter_cons_of_pos hx, List.filter_cons_of_pos hx, after_keep ha hb xs]
        show _ = (if x = b then _ else _)
        rw [if_neg e]
      · rw [List.filter_cons_of_neg hx, List.filter_cons_of_neg hx, after_keep ha hb xs]
theorem after_drop {P : Nat → Bool} {a b : Nat} (ha : ¬ P a = true) : ∀ row : List Nat, (after b a row).filter P = row.filter P
  | [] => rfl
  | x :: xs => by
    unfold after
    by_cases e : x = b
    · rw [if_pos e]
      by_cases hx : P x = true
      · rw [List.filter_cons_of_pos hx, List.filter_cons_of_pos hx, List.filter_cons_of_neg ha]
      · rw [List.filter_cons_of_neg hx, List.filter_cons_of_neg hx, List.filter_cons_of_neg ha]
    · rw [if_neg e]
      by_cases hx : P x = true
      · rw [List.filter_cons_of_pos hx, List.filter_cons_of_pos hx, after_drop ha xs]
      · rw [List.filter_cons_of_neg hx, List.filter_cons_of_neg hx, after_drop ha xs]
theorem fpos {P : Nat → Bool} {p : Pl} {qs : List Pl} (h : P p.1 = true) : (p :: qs).filter (fun p => P p.1) = p :: qs.filter fun p => P p.1 := List.filter_cons_of_pos (p := fun p : Pl => P p.1) h
theorem fneg {P : Nat → Bool} {p : Pl} {qs : List Pl} (h : ¬ P p.1 = true) : (p :: qs).filter (fun p => P p.1) = qs.filter fun p => P p.1 := List.filter_cons_of_neg (p := fun p : Pl => P p.1) h
def Clo (P : Nat → Bool) (qs : List Pl) : Prop := ∀ k b, (k, some b) ∈ qs → P k = true → P b = true
theorem Clo.tail {P : Nat → Bool} {p : Pl} {qs : List Pl} (h : Clo P (p :: qs)) : Clo P qs := fun k b hm => h k b (List.mem_cons_of_mem _ hm)
theorem row_filter {P : Nat → Bool} : ∀ {qs : List Pl}, Clo P qs → rowR (qs.filter fun p => P p.1) = (rowR qs).filter P
  | [], _ => rfl
  | (a, none) :: qs, h => by
    have ih := row_filter h.tail
    show _ = (a :: rowR qs).filter P
    by_cases ha : P a = true
    · rw [fpos (p := (a, none)) ha, List.filter_cons_of_pos ha, ← ih]; rfl
    · rw [fneg (p := (a, none)) ha, List.filter_cons_of_neg ha, ih]
  | (a, some b) :: qs, h => by
    have ih := row_filter h.tail
    show _ = (after b a (rowR qs)).filter P
    by_cases ha : P a = true
    · rw [fpos (p := (a, some b)) ha, after_keep ha (h a b List.mem_cons_self ha), ← ih]; rfl
    · rw [fneg (p := (a, some b)) ha, after_drop ha, ih]
theorem nms_filter {P : Nat → Bool} {qs : List Pl} {x : Nat} : x ∈ nms (qs.filter fun p => P p.1) ↔ x ∈ nms qs ∧ P x = true := by
  unfold nms
  constructor
  · intro h
    obtain ⟨p, hp, rfl⟩ := List.mem_map.mp h
    have := List.mem_filter.mp hp
    exact ⟨List.mem_map.mpr ⟨p, this.1, rfl⟩, this.2⟩
  · rintro ⟨h, hx⟩
    obtain ⟨p, hp, rfl⟩ := List.mem_map.mp h
    exact List.mem_map.mpr ⟨p, List.mem_filter.mpr ⟨hp, hx⟩, rfl⟩
theorem wf_filter {P : Nat → Bool} : ∀ {qs : List Pl}, WF qs → Clo P qs → WF (qs.filter fun p => P p.1)
  | [], _, _ => trivial
  | (a, o) :: qs, h, c => by
    have ih := wf_filter h.2.2 c.tail
    by_cases ha : P a = true
    · rw [fpos (p := (a, o)) ha]
      refine ⟨fun z => h.1 (nms_filter.mp z).1, fun b hb => nms_filter.mpr ⟨h.2.1 b hb, ?_⟩, ih⟩
      have hb' : o = some b := hb
      subst hb'
      exact c a b List.mem_cons_self ha
    · rw [fneg (p := (a, o)) ha]; exact ih
theorem qs_filter (P : Nat → Bool) (bh : Nat → Option Nat) (ms : List Nat) : qsOf bh (ms.filter P) = (qsOf bh ms).filter fun p => P p.1 := by
  unfold qsOf
  rw [List.filter_map, ← List.filter_reverse]
  rfl
theorem clo_qs {P : Nat → Bool} {bh : Nat → Option Nat} {ms : List Nat} (h : ∀ k ∈ ms, P k = true → ∀ b, bh k = some b → P b = true) : Clo P (qsOf bh ms) := fun k b hm hk => by
  obtain ⟨j, hj, e⟩ := List.mem_map.mp hm
  have e1 : j = k := congrArg Prod.fst e
  have e2 : bh j = some b := congrArg Prod.snd e
  subst e1
  exact h _ (List.mem_reverse.mp hj) hk b e2
end Rga
namespace L2
open PySem PySem.Spec PySem.W PyProof.Rows
theorem hu2 {A : Around} {k : Nat} (hr : Room k A) : A.units + 2 < cLine := by have := hr.units; omega
theorem lay_of {d : PyData} : ∀ {ds : List PyData}, PyData.canLayAll0 ds = true → d ∈ ds → d.canLay0 = true
  | e :: ds, h, hm => by
    have hc : (e.canLay0 && PyData.canLayAll0 ds) = true := h
    rw [Bool.and_eq_true] at hc
    rcases List.mem_cons.mp hm with rfl | hm
    · exact hc.1
    · exact lay_of hc.2 hm
theorem KeysAre.sub {ds es : List PyData} {t : Nat} (h : KeysAre ds t) (p : ∀ x ∈ es, x ∈ ds) : KeysAre es t :=
  ⟨lays_all fun x hx => lay_of h.lay (p x hx), fun d hd => h.kind d (p d hd), fun a ha b hb => h.one a (p a ha) b (p b hb), fun d hd => h.deep d (p d hd)⟩
theorem PLW.filter {nk : Nat → List Key} {bh : Nat → Option Nat} {D : Nat → PyData} {ms : List Nat} {t : Nat} (W : PLW nk bh D ms t) {P : Nat → Bool} (c : ∀ k ∈ ms, P k = true → ∀ b, bh k = some b → P b = true) : PLW nk bh D (ms.filter P) t where
  few := Nat.lt_of_le_of_lt (List.length_filter_le _ _) W.few
  up := W.up.filter _
  inj := fun i hi j hj e => W.inj i (List.mem_filter.mp hi).1 j (List.mem_filter.mp hj).1 e
  wf := by
    have := Rga.wf_filter W.wf (Rga.clo_qs c)
    show Rga.WF (Rga.qsOf bh (ms.filter P))
    rw [Rga.qs_filter]
    exact this
  keys := W.keys.sub fun x hx => by
    obtain ⟨i, hi, rfl⟩ := List.mem_map.mp hx
    exact List.mem_map.mpr ⟨i, (List.mem_filter.mp hi).1, rfl⟩
theorem AN.pick {P : V → Nat → Prop} {f : Nat → Bool} : ∀ {vs : List V} {js : List Nat} {us : List V}, AN P us (js.filter f) → ∀ {v : V} {i : Nat}, P v i → f i = true → AN P (us ++ [v]) ((js ++ [i]).filter f) := fun {vs js us} h {v i} hv hi => by
  rw [List.filter_append, List.filter_cons_of_pos hi]
  exact h.snoc hv
theorem AN.skip {P : V → Nat → Prop} {f : Nat → Bool} {js : List Nat} {us : List V} (h : AN P us (js.filter f)) {i : Nat} (hi : ¬ f i = true) : AN P us ((js ++ [i]).filter f) := by
  rw [List.filter_append, List.filter_cons_of_neg hi, List.filter_nil, List.append_nil]
  exact h
end L2
set_option maxHeartbeats 4000000
namespace L2
open PySem PySem.Spec PySem.W PyProof.Rows
def LeAt (A : Around) (s : Shared) (x y : Value) (b : Bool) : Prop := ∀ (prog : Program) (w : World) (E : Value → Shared → Prop) (Q : Value → Shared → Prop), Q (.bool b) s → wpAny (model prog w) A (richCompare .LtE x y) Q E s
open SeqAt in
theorem tuple_leAt (l b : Addr) (us vs : Array Value) (n n2 : Nat) (dd dd2 : Option Addr) (sl sl2 : Array (Option Value)) (e : Nat → Bool) (c : Bool) :
    Meets (Builtin.«tuple.__le__» ⟨[.ref l, .ref b], []⟩)
      (fun A R s => s.heap.get? l = some { cls := .type "tuple", dict := dd, data := .seq us n, slots := sl } ∧ s.heap.get? b = some { cls := .type "tuple", dict := dd2, data := .seq vs n2, slots := sl2 } ∧
        (∀ j (h1 : j < us.size) (h2 : j < vs.size), EqAt A.in1 s us[j] vs[j] (e j)) ∧
        (∀ i (h1 : i < us.size) (h2 : i < vs.size), (∀ j, j < i → e j = true) → e i = false → LeAt A.in1 s us[i] vs[i] c) ∧
        ((∀ j, j < min us.size vs.size → e j = true) → c = decide (us.size ≤ vs.size)) ∧ R (.ok (.ret (.bool c))) s) :=
  .of_wp fun prog w A R s h => by
    obtain ⟨hp, g, d, tk, os⟩ := s
    obtain ⟨hl, hb, he, hlt, hall, h⟩ := h
    have f2 := AutoSeq1.sub_tuple_tuple
    have hZ : (us.toList.zip vs.toList).length = min us.size vs.size := by simp
    wp_walk using wpAny_loadPart' hl, wpAny_loadPart' hb, wpAny_forIn_list _ (fun rest b s' => b.1 = none ∧ s' = ⟨hp, g, d, tk, os⟩ ∧ ∃ i, rest = (us.toList.zip vs.toList).drop i ∧ ∀ j, j < i → e j = true) _
    case turn =>
      rintro ⟨y, x⟩ rest b s' ⟨hb', rfl, i, hz, hi⟩
      have hlt' : i < (us.toList.zip vs.toList).length := by
        rcases Nat.lt_or_ge i (us.toList.zip vs.toList).length with h' | h'
        · exact h'
        · rw [List.drop_of_length_le h'] at hz; cases hz
      have h1 : i < us.size := by omega
      have h2 : i < vs.size := by omega
      rw [List.drop_eq_getElem_cons hlt'] at hz
      injection hz with hyx hrest
      have hy : y = us[i] := by have := congrArg Prod.fst hyx; simpa using this
      have hx : x = vs[i] := by have := congrArg Prod.snd hyx; simpa using this
      subst hy hx
      refine wpAny_bind (he i h1 h2 prog w _ _ ?_)
      cases hy : e i with
      | true =>
        wp_walk
        exact ⟨rfl, rfl, i + 1, hrest, fun j hj => by
          by_cases z : j = i
          · rw [z]; exact hy
          · exact hi j (by omega)⟩
      | false =>
        have q := hlt i h1 h2 hi hy
        dsimp only
        rw [if_pos (by rfl)]
        refine wpAny_bind (wpAny_rule (wpAny_bind (q prog w _ _ ?_)))
        exact wpAny_bind (wpAny_pure (wpAny_pure (wpAny_pure ⟨_, rfl, h⟩)))
    case fin =>
      rintro ⟨b1, b2⟩ s' ⟨hb', rfl, i, hz, hi⟩
      simp only at hb'
      subst hb'
      have hge : min us.size vs.size ≤ i := by
        rcases Nat.lt_or_ge i (us.toList.zip vs.toList).length with h' | h'
        · rw [List.drop_eq_getElem_cons h'] at hz; cases hz
        · omega
      have := hall fun j hj => hi j (by omega)
      wp_walk
      exact ⟨_, rfl, by rw [this] at h; simpa [Builtin.Tuple.tupleCompareSizes] using h⟩
    case h =>
      exact ⟨rfl, rfl, 0, rfl, fun j hj => absurd hj (Nat.not_lt_zero _)⟩
theorem LeAt.tuples {A : Around} {s : Shared} {l b : Addr} {us vs : Array Value} {e : Nat → Bool} {c : Bool} (hl : s.heap.IsTuple l us) (hb : s.heap.IsTuple b vs) (hu : A.units < cLine)
    (he : ∀ j (h1 : j < us.size) (h2 : j < vs.size), SeqAt.EqAt A.in1 s us[j] vs[j] (e j)) (hlt : ∀ i (h1 : i < us.size) (h2 : i < vs.size), (∀ j, j < i → e j = true) → e i = false → LeAt A.in1 s us[i] vs[i] c)
    (hall : (∀ j, j < min us.size vs.size → e j = true) → c = decide (us.size ≤ vs.size)) : LeAt A s (.ref l) (.ref b) c := fun prog w E Q h => by
  obtain ⟨⟨cls, dd, data, sl⟩, ho, hc, n, hd⟩ := id hl
  obtain ⟨⟨cls2, dd2, data2, sl2⟩, ho2, hc2, n2, hd2⟩ := id hb
  simp only at hc hd hc2 hd2
  subst hc hd hc2 hd2
  exact richCompare_meets_room (op := .LtE) ⟨_, ho, rfl⟩ ⟨_, ho2, rfl⟩ F.slot_tuple_le F.entry_tuple_le (F.args_tuple_le_2 _ _) (tuple_leAt l b us vs n n2 dd dd2 sl sl2 e c)
    ⟨ho, ho2, he, hlt, hall, show Value.bool c ≠ Value.notImplemented ∧ Q (.bool c) s from ⟨(fun x => nomatch x), h⟩⟩ hu
theorem LeAt.ints {A : Around} {s : Shared} (i j : Int) (t u : Tok) : LeAt A s (.int i t) (.int j u) (decide (i ≤ j)) := fun prog w E Q h =>
  richCompare_gives (op := .LtE) (typeIs_int s _ t) (typeIs_int s _ u) F.slot_int_le F.entry_int_le (F.args_int_le_2 _ _) (gives_int_le _ _ t u) (fun x => nomatch x) h
open SeqAt in
theorem le_reads {A : Around} {s : Shared} {a b : Value} {as bs : List Addr} {ns ms : List Int} (ra : Reads s.heap a (.tuple (ns.map PyData.int)) as) (rb : Reads s.heap b (.tuple (ms.map PyData.int)) bs) (hu : A.units + 2 < cLine) :
    LeAt A s a b (!(ltD (.tuple (ms.map PyData.int)) (.tuple (ns.map PyData.int)))) := by
  cases ra with
  | tuple h1 h2 h3 h4 =>
    cases rb with
    | tuple k1 k2 k3 k4 =>
      rename_i l o us m b' o' vs m'
      have lx := ReadsAll.length _ _ _ h4
      have ly := ReadsAll.length _ _ _ k4
      rw [Array.length_toList] at lx ly
      rw [ltD]
      have eq' : ∀ j (g1 : j < us.size) (g2 : j < vs.size), EqAt A.in1 s us[j] vs[j] (pairEq (ms.map PyData.int) (ns.map PyData.int) j) := fun j g1 g2 => by
        obtain ⟨p1, r1⟩ := reads_at (i := j) (by rw [Array.length_toList]; exact g1) h4
        obtain ⟨p2, r2⟩ := reads_at (i := j) (by rw [Array.length_toList]; exact g2) k4
        have dj := depth_at (ns.map PyData.int) j (by omega)
        rw [ints_deep] at dj
        have := eqAt_reads ((ns.map PyData.int).getD j .none) ((ms.map PyData.int).getD j .none) A.in1 s _ _ _ _ r1 r2 (lays_at (ints_lay ns) (by omega)) (lays_at (ints_lay ms) (by omega)) (by show A.units + 1 + _ < cLine; omega)
        simp only [Array.getElem_toList] at this
        rw [← pairEq_symm]
        exact this
      refine LeAt.tuples ⟨_, h1, h2, _, h3⟩ ⟨_, k1, k2, _, k3⟩ (by omega) eq' (fun i g1 g2 hj hf => ?_) fun hj => ?_
      · obtain ⟨p1, r1⟩ := reads_at (i := i) (by rw [Array.length_toList]; exact g1) h4
        obtain ⟨p2, r2⟩ := reads_at (i := i) (by rw [Array.length_toList]; exact g2) k4
        rw [ltDs_at _ _ i (by omega) (by omega) hj hf]
        obtain ⟨x, ex⟩ := intT_at (ns := ns) (i := i) (by omega)
        obtain ⟨y, ey⟩ := intT_at (ns := ms) (i := i) (by omega)
        rw [ex] at r1 ⊢
        rw [ey] at r2 ⊢
        simp only [Array.getElem_toList] at r1 r2
        generalize us[i] = u0 at r1 ⊢
        generalize vs[i] = v0 at r2 ⊢
        cases r1
        cases r2
        have e : (!(ltD (.int y) (.int x))) = decide (x ≤ y) := by
          show (!(decide (y < x))) = decide (x ≤ y)
          by_cases z : y < x
          · rw [decide_eq_true z, decide_eq_false (by omega)]; rfl
          · rw [decide_eq_false z, decide_eq_true (by omega)]; rfl
        rw [e]
        exact LeAt.ints _ _ _ _
      · rw [ltDs_all _ _ fun j h => hj j (by omega), lx, ly]
        by_cases z : (ms.map PyData.int).length < (ns.map PyData.int).length
        · rw [decide_eq_true z, decide_eq_false (by omega)]; rfl
        · rw [decide_eq_false z, decide_eq_true (by omega)]; rfl
def rLeT (K : PySem.W.Frag) : R2 := fun x y H Q => ∃ ns ms : List Int, DV K H x (.tuple (ns.map PyData.int)) ∧ DV K H y (.tuple (ms.map PyData.int)) ∧ Q (.bl (!(ltD (.tuple (ms.map PyData.int)) (.tuple (ns.map PyData.int))))) H
theorem op_leT {X : Cx} (hu : X.A.units + 2 < cLine) : OpR X (compareOp .LtE) (rLeT X.K) := by
  intro pins s σ H x y v w Q I rx ry h
  obtain ⟨ns, ms, hx, hy, q⟩ := h
  obtain ⟨as, ra⟩ := hx.reads I rx
  obtain ⟨bs, rb⟩ := hy.reads I ry
  exact le_reads ra rb hu X.prog X.w X.xe _ ⟨.bl _, H, I, rfl, q⟩
end L2
namespace Rga
theorem qs_snoc (bh : Nat → Option Nat) (ms : List Nat) (n : Nat) : qsOf bh (ms ++ [n]) = (n, bh n) :: qsOf bh ms := by
  unfold qsOf
  rw [List.reverse_append]
  rfl
theorem row_snoc (bh : Nat → Option Nat) (ms : List Nat) (n : Nat) : rowR (qsOf bh (ms ++ [n])) = ins (n, bh n) (rowR (qsOf bh ms)) := by rw [qs_snoc]; rfl
theorem wf_up {R : Nat → Nat → Prop} (irr : ∀ i, ¬ R i i) {bh : Nat → Option Nat} : ∀ (l : List Nat), l.reverse.Pairwise R → (∀ i ∈ l, ∀ j ∈ l, R i j → ¬ R j i) → (∀ i ∈ l, ∀ b, bh i = some b → b ∈ l ∧ R b i) → WF (l.map fun k => (k, bh k))
  | [], _, _, _ => trivial
  | x :: l, hp, as, h => by
    rw [List.reverse_cons, List.pairwise_append] at hp
    have up : ∀ i ∈ l, R i x := fun i hi => hp.2.2 i (List.mem_reverse.mpr hi) x List.mem_cons_self
    have nm : nms (l.map fun k => (k, bh k)) = l := by
      unfold nms
      rw [List.map_map]
      show List.map (fun x => x) _ = _
      rw [List.map_id']
    refine ⟨fun z => ?_, fun b hb => ?_, wf_up irr l hp.1 (fun i hi j hj => as i (List.mem_cons_of_mem _ hi) j (List.mem_cons_of_mem _ hj)) fun i hi b hb => ?_⟩
    · rw [nm] at z
      exact irr x (up x z)
    · rw [nm]
      obtain ⟨h1, h2⟩ := h x List.mem_cons_self b hb
      rcases List.mem_cons.mp h1 with z | z
      · rw [z] at h2; exact absurd h2 (irr x)
      · exact z
    · obtain ⟨h1, h2⟩ := h i (List.mem_cons_of_mem _ hi) b hb
      rcases List.mem_cons.mp h1 with z | z
      · rw [z] at h2
        exact absurd h2 (as i (List.mem_cons_of_mem _ hi) x List.mem_cons_self (up i hi))
      · exact ⟨z, h2⟩
theorem pos_lt {P : Nat → Bool} : ∀ {l A B : List Nat} {x y : Nat} {a b : Nat}, l.Nodup → l.filter P = A ++ x :: B → y ∈ B → l[a]? = some x → l[b]? = some y → a < b
  | [], A, B, x, y, a, b, _, h, _, _, _ => by cases A <;> cases h
  | c :: l, A, B, x, y, a, b, nd, h, hy, ha, hb => by
    have hnd := List.nodup_cons.mp nd
    by_cases hc : P c = true
    · rw [List.filter_cons_of_pos hc] at h
      cases A with
      | nil =>
        injection h with h1 h2
        subst h1
        cases a with
        | zero =>
          cases b with
          | zero =>
            have e : c = y := by simpa using hb
            subst e
            rw [← h2] at hy
            exact absurd (List.mem_filter.mp hy).1 hnd.1
          | succ b => omega
        | succ a =>
          have : l[a]? = some c := by simpa using ha
          exact absurd (List.mem_of_getElem? this) hnd.1
      | cons d A =>
        injection h with h1 h2
        have hxl : x ∈ l := (List.mem_filter.mp (by rw [h2]; exact List.mem_append_right _ List.mem_cons_self)).1
        have hyl : y ∈ l := (List.mem_filter.mp (by rw [h2]; exact List.mem_append_right _ (List.mem_cons_of_mem _ hy))).1
        cases a with
        | zero =>
          have e : c = x := by simpa using ha
          exact absurd (e ▸ hxl) hnd.1
        | succ a =>
          cases b with
          | zero =>
            have e : c = y := by simpa using hb
            exact absurd (e ▸ hyl) hnd.1
          | succ b => exact Nat.succ_lt_succ (pos_lt hnd.2 h2 hy (by simpa using ha) (by simpa using hb))
    · rw [List.filter_cons_of_neg hc] at h
      have hxl : x ∈ l := (List.mem_filter.mp (by rw [h]; exact List.mem_append_right _ List.mem_cons_self)).1
      have hyl : y ∈ l := (List.mem_filter.mp (by rw [h]; exact List.mem_append_right _ (List.mem_cons_of_mem _ hy))).1
      cases a with
      | zero =>
        have e : c = x := by simpa using ha
        exact absurd (e ▸ hxl) hnd.1
      | succ a =>
        cases b with
        | zero =>
          have e : c = y := by simpa using hb
          exact absurd (e ▸ hyl) hnd.1
        | succ b => exact Nat.succ_lt_succ (pos_lt hnd.2 h hy (by simpa using ha) (by simpa using hb))
end Rga
set_option maxHeartbeats 40000000
namespace My
open PySem L2 PyProof.Rows
def top (i : Nat) : Stmt := PySem.Challenge.pw_pagefolk_k16_whole_between_for_ever.main.body.getD i (.Pass ⟨0, 0, 0, 0⟩)
abbrev s_fkey_of_place : Stmt := top 1
abbrev s_ffollowers_of : Stmt := top 2
abbrev s_fordered : Stmt := top 3
abbrev s_f_law_begun : Stmt := top 5
abbrev s_f_law_draw : Stmt := top 6
abbrev s_f_law_name : Stmt := top 7
abbrev s_f_law_key : Stmt := top 8
abbrev s_f_law_places : Stmt := top 9
abbrev s_f_law_some : Stmt := top 10
abbrev s_f_law_free : Stmt := top 11
abbrev s_flaw : Stmt := top 12
structure Adr where
  fkey_of_place : Addr
  fkey_of_placed : FuncData
  ffollowers_of : Addr
  ffollowers_ofd : FuncData
  fordered : Addr
  forderedd : FuncData
  f_law_begun : Addr
  f_law_begund : FuncData
  f_law_draw : Addr
  f_law_drawd : FuncData
  f_law_name : Addr
  f_law_named : FuncData
  f_law_key : Addr
  f_law_keyd : FuncData
  f_law_places : Addr
  f_law_placesd : FuncData
  f_law_some : Addr
  f_law_somed : FuncData
  f_law_somec : Addr
  f_law_free : Addr
  f_law_freed : FuncData
  flaw : Addr
  flawd : FuncData
structure Txt (K : PySem.W.Frag) (mg : Str → Option Value) (d : Adr) (tk : Str → Tok) : Prop where
  b_len : mg "len" = none
  b_list : mg "list" = none
  b_max : mg "max" = none
  b_min : mg "min" = none
  b_range : mg "range" = none
  b_sorted : mg "sorted" = none
  F_fkey_of_place : Fun K "key_of_place" "key_of_place" s_fkey_of_place d.fkey_of_place d.fkey_of_placed
  m_fkey_of_place : mg "key_of_place" = some (.ref d.fkey_of_place)
  k_fkey_of_place : PySem.W.keepIn K (.ref d.fkey_of_place) = true
  d_fkey_of_place : Binds K d.fkey_of_placed ["place"] []
  F_ffollowers_of : Fun K "followers_of" "followers_of" s_ffollowers_of d.ffollowers_of d.ffollowers_ofd
  m_ffollowers_of : mg "followers_of" = some (.ref d.ffollowers_of)
  k_ffollowers_of : PySem.W.keepIn K (.ref d.ffollowers_of) = true
  d_ffollowers_of : Binds K d.ffollowers_ofd ["places"] []
  F_fordered : Fun K "ordered" "ordered" s_fordered d.fordered d.forderedd
  m_fordered : mg "ordered" = some (.ref d.fordered)
  k_fordered : PySem.W.keepIn K (.ref d.fordered) = true
  d_fordered : Binds K d.forderedd ["places"] []
  F_f_law_begun : Fun K "_law_begun" "_law_begun" s_f_law_begun d.f_law_begun d.f_law_begund
  m_f_law_begun : mg "_law_begun" = some (.ref d.f_law_begun)
  k_f_law_begun : PySem.W.keepIn K (.ref d.f_law_begun) = true
  d_f_law_begun : Binds K d.f_law_begund ["_law_script", "_law_k"] []
  F_f_law_draw : Fun K "_law_draw" "_law_draw" s_f_law_draw d.f_law_draw d.f_law_drawd
  m_f_law_draw : mg "_law_draw" = some (.ref d.f_law_draw)
  k_f_law_draw : PySem.W.keepIn K (.ref d.f_law_draw) = true
  d_f_law_draw : Binds K d.f_law_drawd ["_law_state", "_law_many"] []
  F_f_law_name : Fun K "_law_name" "_law_name" s_f_law_name d.f_law_name d.f_law_named
  m_f_law_name : mg "_law_name" = some (.ref d.f_law_name)
  k_f_law_name : PySem.W.keepIn K (.ref d.f_law_name) = true
  d_f_law_name : Binds K d.f_law_named ["_law_state", "_law_k", "_law_paces"] []
  F_f_law_key : Fun K "_law_key" "_law_key" s_f_law_key d.f_law_key d.f_law_keyd
  m_f_law_key : mg "_law_key" = some (.ref d.f_law_key)
  k_f_law_key : PySem.W.keepIn K (.ref d.f_law_key) = true
  d_f_law_key : Binds K d.f_law_keyd ["_law_state", "_law_last", "_law_many"] []
  F_f_law_places : Fun K "_law_places" "_law_places" s_f_law_places d.f_law_places d.f_law_placesd
  m_f_law_places : mg "_law_places" = some (.ref d.f_law_places)
  k_f_law_places : PySem.W.keepIn K (.ref d.f_law_places) = true
  d_f_law_places : Binds K d.f_law_placesd ["_law_script"] []
  F_f_law_some : Fun K "_law_some" "_law_some" s_f_law_some d.f_law_some d.f_law_somed
  m_f_law_some : mg "_law_some" = some (.ref d.f_law_some)
  k_f_law_some : PySem.W.keepIn K (.ref d.f_law_some) = true
  d_f_law_some : Binds K d.f_law_somed ["_law_places_here", "_law_state"] []
  LE_f_law_some : d.f_law_somed.code = .ref d.f_law_somec
  LC_f_law_some : PySem.W.codeHdIn K d.f_law_somec (tabP K "_law_some") = true
  F_f_law_free : Fun K "_law_free" "_law_free" s_f_law_free d.f_law_free d.f_law_freed
  m_f_law_free : mg "_law_free" = some (.ref d.f_law_free)
  k_f_law_free : PySem.W.keepIn K (.ref d.f_law_free) = true
  d_f_law_free : Binds K d.f_law_freed ["_law_places_here", "_law_some_here", "_law_state"] []
  F_flaw : Fun K "law" "law" s_flaw d.flaw d.flawd
  m_flaw : mg "law" = some (.ref d.flaw)
  k_flaw : PySem.W.keepIn K (.ref d.flaw) = true
  d_flaw : Binds K d.flawd ["_law_script"] []
theorem szOk {n : Nat} (h : Nat.ble n 1000 = true) : n ≤ sizeLine := Nat.le_of_lt (small1000 (Nat.le_of_ble_eq_true h))
theorem big {n : Nat} (h : n ≤ 1000) : n ≤ sizeLine := Nat.le_of_lt (small1000 h)
theorem itT {c : Bool} {A B : Prop} (h : c = true) (a : A) : if c = true then A else B := by rw [if_pos h]; exact a
theorem itF {c : Bool} {A B : Prop} (h : c = false) (b : B) : if c = true then A else B := by rw [if_neg (by rw [h]; decide)]; exact b
def SR (H : Hp) (p : Addr) (n : Nat) : Prop := ∃ (a : Int) (b : Bool) (c e : Int), H p = some (.lst [.int a, .bl b, .int c, .int e]) ∧ 0 ≤ c ∧ c ≤ 2000 + n
theorem SR.same {H H' : Hp} {p : Addr} {n : Nat} (r : SR H p n) (s : Same H H') : SR H' p n := by
  obtain ⟨a, b, c, e, h, q⟩ := r
  exact ⟨a, b, c, e, s _ _ h, q⟩
theorem SR.some {H : Hp} {p : Addr} {n : Nat} (r : SR H p n) : ∃ u, H p = Option.some u := by
  obtain ⟨a, b, c, e, h, q⟩ := r
  exact ⟨_, h⟩
theorem SR.more {H : Hp} {p : Addr} {n m : Nat} (r : SR H p n) (h : n ≤ m) : SR H p m := by
  obtain ⟨a, b, c, e, h1, h2, h3⟩ := r
  exact ⟨a, b, c, e, h1, h2, by omega⟩
theorem SR.ne {H : Hp} {p q : Addr} {n : Nat} (r : SR H p n) (h : H q = none) : p ≠ q := by
  obtain ⟨u, e⟩ := r.some
  exact ne_of_none e h
theorem SR.cut {H H' : Hp} {p : Addr} {n : Nat} (r : SR H p n) (s : Same (L2.del H p) H') : Tups H H' := by
  obtain ⟨a, b, c, e, h, _⟩ := r
  exact Tups.cut h s
theorem nkOf_kV (p2 : Nat) (w : Str) (num e : Nat) : (nkOf p2 w num e).map kV = [.str w, .int (num : Int)] ++ (if p2 = 0 then [] else [.int (e : Int)]) := by
  unfold nkOf
  by_cases h : p2 = 0
  · rw [if_pos h, if_pos h]; rfl
  · rw [if_neg h, if_neg h]; rfl
theorem nk_old {TS : List Dr} {t : Dr} {i : Nat} (h : i < TS.length) : nkT TS i = nkT (TS ++ [t]) i := by unfold nkT; rw [ts_old h]
theorem bh_old {TS : List Dr} {t : Dr} {i : Nat} (h : i < TS.length) : bhT TS i = bhT (TS ++ [t]) i := by unfold bhT; rw [ts_old h]
theorem d_old {p2 : Nat} {TS : List Dr} {t : Dr} {i : Nat} (h : i < TS.length) : dT p2 TS i = dT p2 (TS ++ [t]) i := by unfold dT; rw [ts_old h]
theorem kd_old {TS : List Dr} {t : Dr} {k : Option Nat} (h : ∀ i, k = some i → i < TS.length) : kd (nkT TS) k = kd (nkT (TS ++ [t])) k := by
  cases k with
  | none => rfl
  | some i =>
    show KD.tup _ = KD.tup _
    rw [nk_old (h i rfl)]
def sp_f_law_begun (K : PySem.W.Frag) : Sp := fun vs H Q _ => ∃ sp ns, ∃ k : Nat, vs = [.ref sp, .int (k : Int)] ∧ SqL K H sp (List.map V.int ns) ∧ k ≤ 63 ∧ ∀ H' p, Same H H' → H p = none → SR H' p 0 → Q (.ref p) H'
def sp_f_law_draw (_ : PySem.W.Frag) : Sp := fun vs H Q _ => ∃ p, ∃ n k : Nat, vs = [.ref p, .int (k : Int)] ∧ SR H p n ∧ n ≤ 100000 ∧ 0 < k ∧ k ≤ 1000000 ∧ ∀ H', ∀ r : Nat, Same (del H p) H' → SR H' p (n + 1) → r < k → Q (.int (r : Int)) H'
section
variable {K : PySem.W.Frag} {vs : List V} {H : Hp} {Q : VK} {E : XK}
theorem len_f_law_begun (h : sp_f_law_begun K vs H Q E) : vs.length = 2 := by obtain ⟨_, _, _, rfl, _⟩ := h; rfl
theorem len_f_law_draw (h : sp_f_law_draw K vs H Q E) : vs.length = 2 := by obtain ⟨_, _, _, rfl, _⟩ := h; rfl
end
theorem SR.upd {H : Hp} {p q : Addr} {n : Nat} {o : HO} (r : SR H p n) (h : p ≠ q) : SR (L2.upd H q o) p n := by
  obtain ⟨a, b, c, e, h1, h2⟩ := r
  exact ⟨a, b, c, e, by rw [upd_ne h]; exact h1, h2⟩
def sp_fkey_of_place (K : PySem.W.Frag) : Sp := fun vs H Q _ => ∃ v nk bh D k, vs = [v] ∧ PL nk bh D H v k ∧ ∀ kv, DT H kv (D k) → Q kv H
theorem len_fkey_of_place {K : PySem.W.Frag} {vs : List V} {H : Hp} {Q : VK} {E : XK} (h : sp_fkey_of_place K vs H Q E) : vs.length = 1 := by obtain ⟨_, _, _, _, _, rfl, _⟩ := h; rfl
def sp_ffollowers_of (K : PySem.W.Frag) : Sp := fun vs H Q _ => ∃ p ys nk bh D ms js t, vs = [.ref p] ∧ SqL K H p ys ∧ AN (PL nk bh D H) ys js ∧ js.Perm ms ∧ PLW nk bh D ms t ∧ ∀ H' dq kvs, Same H H' → FD nk bh ms ms H H' dq kvs → Q (.ref dq) H'
theorem len_ffollowers_of {K : PySem.W.Frag} {vs : List V} {H : Hp} {Q : VK} {E : XK} (h : sp_ffollowers_of K vs H Q E) : vs.length = 1 := by obtain ⟨_, _, _, _, _, _, _, _, rfl, _⟩ := h; rfl
def sp_fordered (K : PySem.W.Frag) : Sp := fun vs H Q _ => ∃ p ys nk bh D ms js t, vs = [.ref p] ∧ SqL K H p ys ∧ AN (PL nk bh D H) ys js ∧ js.Perm ms ∧ PLW nk bh D ms t ∧ ∀ H' q zs, Same H H' → H q = none → H' q = some (.lst zs) → AN (NM nk H') zs (Rga.rowR (Rga.qsOf bh ms)) → Q (.ref q) H'
theorem len_fordered {K : PySem.W.Frag} {vs : List V} {H : Hp} {Q : VK} {E : XK} (h : sp_fordered K vs H Q E) : vs.length = 1 := by obtain ⟨_, _, _, _, _, _, _, _, rfl, _⟩ := h; rfl
theorem abc_all : ∀ c ∈ ("abcdefghijklmnopqrstuvwxyz" : Str).cps.toList, c ≤ 122 := by decide +kernel
def sp_f_law_name (K : PySem.W.Frag) : Sp := fun vs H Q _ => ∃ p pp, ∃ n k p0 p1 p2 : Nat, vs = [.ref p, .int (k : Int), .ref pp] ∧ SR H p n ∧ n ≤ 90000 ∧ H pp = some (.lst [.int (p0 : Int), .int (p1 : Int), .int (p2 : Int)]) ∧ k ≤ 70 ∧ p0 ≤ 70 ∧ p1 ≤ 70 ∧ ∀ H' q w, ∀ e : Nat, Same (del H p) H' → SR H' p (n + 20) → IsT w → H' q = some (.tup ([.str w, .int ((1 + (p0 + (1 + p1) * k) % 67 : Nat) : Int)] ++ (if p2 = 0 then [] else [.int (e : Int)]))) → Q (.ref q) H'
theorem len_f_law_name {K : PySem.W.Frag} {vs : List V} {H : Hp} {Q : VK} {E : XK} (h : sp_f_law_name K vs H Q E) : vs.length = 3 := by obtain ⟨_, _, _, _, _, _, _, rfl, _⟩ := h; rfl
def sp_f_law_key (K : PySem.W.Frag) : Sp := fun vs H Q _ => ∃ p lq, ∃ n a b c m : Nat, vs = [.ref p, .ref lq, .int (m : Int)] ∧ SR H p n ∧ n ≤ 90000 ∧ H lq = some (.tup [.int (a : Int), .int (b : Int), .int (c : Int)]) ∧ b ≤ 5 ∧ 0 < m ∧ m ≤ 1000000 ∧ ∀ H' q, ∀ a' b' c' : Nat, Same (del H p) H' → SR H' p (n + 4) → Up3 a b c a' b' c' → b' ≤ 5 → c' ≤ c + 12 → H' q = some (.tup [.int (a' : Int), .int (b' : Int), .int (c' : Int)]) → Q (.ref q) H'
theorem len_f_law_key {K : PySem.W.Frag} {vs : List V} {H : Hp} {Q : VK} {E : XK} (h : sp_f_law_key K vs H Q E) : vs.length = 3 := by obtain ⟨_, _, _, _, _, _, _, rfl, _⟩ := h; rfl
def sp_f_law_places (K : PySem.W.Frag) : Sp := fun vs H Q _ => ∃ sp ns, vs = [.ref sp] ∧ SqL K H sp (List.map V.int ns) ∧ ns.length ≤ 63 ∧ ∀ H' q pp dp pv dv TS js p0 p1 p2, Same H H' → H' q = some (.tup [.ref pp, .ref dp]) → H' pp = some (.lst pv) → H' dp = some (.lst dv) → TOk p0 p1 p2 TS → TS.length ≤ 60 → p1 < 66 → AN (PL (nkT TS) (bhT TS) (dT p2 TS) H') pv js → js.Perm (List.range TS.length) → AN (NM (nkT TS) H') dv (Rga.rowR (Rga.qsOf (bhT TS) (List.range TS.length))) → Q (.ref q) H'
theorem len_f_law_places {K : PySem.W.Frag} {vs : List V} {H : Hp} {Q : VK} {E : XK} (h : sp_f_law_places K vs H Q E) : vs.length = 1 := by obtain ⟨_, _, rfl, _⟩ := h; rfl
def kP : Key → PyData
  | .inl i => .int i
  | .inr s => .str s
theorem kP_dts {H : Hp} : ∀ ks : List Key, DTs H (ks.map kV) (ks.map kP)
  | [] => .nil
  | .inl i :: ks => .cons (.int i) (kP_dts ks)
  | .inr s :: ks => .cons (.str s) (kP_dts ks)
def dN (nk : Nat → List Key) (i : Nat) : PyData := .tuple ((nk i).map kP)
theorem NM.dt {nk : Nat → List Key} {H : Hp} {v : V} {i : Nat} (h : NM nk H v i) : DT H v (dN nk i) := by
  obtain ⟨b, rfl, h⟩ := h
  exact .tup h (kP_dts _)
theorem name_keys {p0 p1 p2 : Nat} {TS : List Dr} (ok : TOk p0 p1 p2 TS) {js : List Nat} (hj : ∀ i ∈ js, i < TS.length) : KeysAre (js.map (dN (nkT TS))) 3 := by
  have form : ∀ d ∈ js.map (dN (nkT TS)), ∃ w, ∃ n e : Nat, d = .tuple ((nkOf p2 w n e).map kP) ∧ IsT w := fun d hd => by
    obtain ⟨i, hi, rfl⟩ := List.mem_map.mp hd
    obtain ⟨w, e, h1, h2⟩ := ok.name i (hj i hi)
    exact ⟨w, _, e, by unfold dN; rw [h1], h2⟩
  unfold nkOf at form
  by_cases hp : p2 = 0
  · simp only [if_pos hp] at form
    refine ⟨lays_all fun d hd => ?_, fun d hd => ?_, fun x hx y hy => ?_, fun d hd => ?_⟩
    · obtain ⟨w, n, e, rfl, hw⟩ := form d hd
      show (PyData.strOk w && (true && true)) = true
      rw [isT_ok hw]; rfl
    · obtain ⟨w, n, e, rfl, hw⟩ := form d hd; trivial
    · obtain ⟨w, n, e, rfl, hw⟩ := form x hx
      obtain ⟨w', n', e', rfl, hw'⟩ := form y hy
      rfl
    · obtain ⟨w, n, e, rfl, hw⟩ := form d hd; exact (by decide : 1 ≤ 60)
  · simp only [if_neg hp] at form
    refine ⟨lays_all fun d hd => ?_, fun d hd => ?_, fun x hx y hy => ?_, fun d hd => ?_⟩
    · obtain ⟨w, n, e, rfl, hw⟩ := form d hd
      show (PyData.strOk w && (true && (true && true))) = true
      rw [isT_ok hw]; rfl
    · obtain ⟨w, n, e, rfl, hw⟩ := form d hd; trivial
    · obtain ⟨w, n, e, rfl, hw⟩ := form x hx
      obtain ⟨w', n', e', rfl, hw'⟩ := form y hy
      rfl
    · obtain ⟨w, n, e, rfl, hw⟩ := form d hd; exact (by decide : 1 ≤ 60)
theorem dsort_eq : ∀ {xs ys : List PyData}, xs.Perm ys → (xs.Pairwise fun a b => ltD b a = false) → (ys.Pairwise fun a b => ltD b a = false) → (∀ a ∈ xs, ∀ b ∈ xs, sk a b = true) → xs = ys
  | [], ys, p, _, _, _ => (List.nil_perm.mp p).symm
  | x :: xs, [], p, _, _, _ => absurd p.length_eq (by simp)
  | x :: xs, y :: ys, p, hx, hy, hk => by
    have e : x = y := by
      have my : y ∈ x :: xs := p.mem_iff.mpr List.mem_cons_self
      have mx : x ∈ y :: ys := p.mem_iff.mp List.mem_cons_self
      rcases List.mem_cons.mp my with z | z
      · exact z.symm
      · rcases List.mem_cons.mp mx with z' | z'
        · exact z'
        · exact ltD_tot x y (hk x List.mem_cons_self y my) ((List.pairwise_cons.mp hy).1 x z') ((List.pairwise_cons.mp hx).1 y z)
    subst e
    rw [dsort_eq ((List.perm_cons x).mp p) (List.pairwise_cons.mp hx).2 (List.pairwise_cons.mp hy).2 fun a ha b hb => hk a (List.mem_cons_of_mem _ ha) b (List.mem_cons_of_mem _ hb)]
theorem sort_same {D : Nat → PyData} {js ix ix' : List Nat} {t : Nat} (hk : KeysAre (js.map D) t) (h : SortIx (js.map D) ix) (h' : SortIx (js.map D) ix') : (ix.map fun i => js.getD i 0).map D = (ix'.map fun i => js.getD i 0).map D := by
  have p : ∀ {ix : List Nat}, SortIx (js.map D) ix → (ix.map fun i => js.getD i 0).Perm js := fun h => perm_ix (by have := h.1; rwa [List.length_map] at this)
  have pw : ∀ {ix : List Nat}, SortIx (js.map D) ix → ((ix.map fun i => js.getD i 0).map D).Pairwise fun a b => ltD b a = false := fun {ix} h => by
    have p1 : ix.Perm (List.range js.length) := by have := h.1; rwa [List.length_map] at this
    have e : (ix.map fun i => js.getD i 0).map D = ix.map (keyAt (js.map D)) := by
      rw [List.map_map]
      refine List.map_congr_left fun i hi => ?_
      have : i < js.length := List.mem_range.mp (p1.mem_iff.mp hi)
      unfold keyAt
      rw [List.getD_eq_getElem?_getD (l := js.map D), List.getElem?_map, List.getElem?_eq_getElem this]
      show D (js.getD i 0) = D js[i]
      rw [List.getD_eq_getElem?_getD, List.getElem?_eq_getElem this]
      rfl
    rw [e]
    exact h.2
  refine dsort_eq (((p h).trans (p h').symm).map D) (pw h) (pw h') fun a ha b hb => hk.one a ?_ b ?_
  · exact ((p h).map D).mem_iff.mp ha
  · exact ((p h).map D).mem_iff.mp hb
def rkI (p2 a b c : Nat) : List Int := if p2 = 0 then [(a : Int), (b : Int) * 100000 + (c : Int)] else [(a : Int), (b : Int), (c : Int)]
theorem rkI_D (p2 a b c : Nat) : rkD p2 a b c = .tuple ((rkI p2 a b c).map PyData.int) := by
  unfold rkD rkI
  by_cases h : p2 = 0
  · rw [if_pos h, if_pos h]; rfl
  · rw [if_neg h, if_neg h]; rfl
def iT (p2 : Nat) (TS : List Dr) (i : Nat) : List Int := rkI p2 (TS.getD i d0).2.2.1 (TS.getD i d0).2.2.2.1 (TS.getD i d0).2.2.2.2
theorem iT_D (p2 : Nat) (TS : List Dr) (i : Nat) : dT p2 TS i = .tuple ((iT p2 TS i).map PyData.int) := rkI_D _ _ _ _
theorem dts_get {H : Hp} : ∀ {vs : List V} {ds : List PyData} {m : Nat} {v : V} {d : PyData}, DTs H vs ds → vs[m]? = some v → ds[m]? = some d → DT H v d
  | _, _, 0, _, _, .cons a _, e1, e2 => by cases e1; cases e2; exact a
  | _, _, m + 1, _, _, .cons _ b, e1, e2 => dts_get (m := m) b (by simpa using e1) (by simpa using e2)
theorem dts_snoc {H : Hp} {x : V} {d : PyData} (h : DT H x d) : ∀ {xs : List V} {ds : List PyData}, DTs H xs ds → DTs H (xs ++ [x]) (ds ++ [d])
  | _, _, .nil => .cons h .nil
  | _, _, .cons a t => .cons a (dts_snoc h t)
theorem dts_ints {H : Hp} : ∀ {ns : List Int} {xs : List V}, DTs H xs (ns.map PyData.int) → xs = ns.map V.int
  | [], _, .nil => rfl
  | _ :: _, _, .cons (.int i) t => by rw [dts_ints t]; rfl
theorem cut_take {pv : List V} {r : Nat} (h : r ≤ pv.length) : cutV pv none (some (r : Int)) = pv.take r := by
  unfold cutV
  rw [HT.sIx_nat, HT.sIx_none, List.drop_zero]
  congr 1
  omega
theorem cut_drop {pv : List V} {r : Nat} (h : r ≤ pv.length) : cutV pv (some (r : Int)) none = pv.drop r := by
  unfold cutV
  rw [HT.sIx_nat, HT.sIx_none, Nat.min_eq_left h]
  exact List.take_of_length_le (by rw [List.length_drop]; exact Nat.le_refl _)
abbrev lamLn : Nat := 71
abbrev lamQ : Str := (("_law_some" : Str) ++ ".<locals>.") ++ "<lambda>"
abbrev TBL (K : PySem.W.Frag) (H : Hp) : Prop := Tb lamLn 79 lamQ (tabP K "_law_some") H
structure NW (nk : Nat → List Key) (ms : List Nat) : Prop where
  keys : KeysAre (ms.map (dN nk)) 3
  inj : ∀ i ∈ ms, ∀ j ∈ ms, nk i = nk j → i = j
theorem kP_inj : ∀ {a b : List Key}, a.map kP = b.map kP → a = b
  | [], [], _ => rfl
  | [], _ :: _, h => by cases h
  | _ :: _, [], h => by cases h
  | x :: a, y :: b, h => by
    have h1 : kP x = kP y := (List.cons.inj h).1
    have e : x = y := by
      cases x <;> cases y
      · unfold kP at h1; rw [PyData.int.inj h1]
      · cases h1
      · cases h1
      · unfold kP at h1; rw [PyData.str.inj h1]
    rw [e, kP_inj (List.cons.inj h).2]
section
variable {nk : Nat → List Key} {ms : List Nat} {i j : Nat}
theorem NW.eqv (N : NW nk ms) (hi : i ∈ ms) (hj : j ∈ ms) : PyData.eqv (dN nk i) (dN nk j) = decide (i = j) := by
  have s := sk_eq _ _ (N.keys.one _ (List.mem_map.mpr ⟨i, hi, rfl⟩) _ (List.mem_map.mpr ⟨j, hj, rfl⟩))
  by_cases e : i = j
  · rw [decide_eq_true e]
    exact s.mpr (by rw [e])
  · rw [decide_eq_false e]
    cases q : PyData.eqv (dN nk i) (dN nk j) with
    | false => rfl
    | true =>
      have z := s.mp q
      unfold dN at z
      injection z with z
      exact absurd (N.inj i hi j hj (kP_inj z)) e
theorem NW.lay (N : NW nk ms) (hi : i ∈ ms) : (dN nk i).canLay0 = true := lay_of N.keys.lay (List.mem_map.mpr ⟨i, hi, rfl⟩)
theorem NW.deep (N : NW nk ms) (hi : i ∈ ms) : (dN nk i).depth ≤ 60 := N.keys.deep _ (List.mem_map.mpr ⟨i, hi, rfl⟩)
theorem NW.sub {ls : List Nat} (N : NW nk ms) (h : ∀ i ∈ ls, i ∈ ms) : NW nk ls :=
  ⟨N.keys.sub fun x hx => by
    obtain ⟨i, hi, rfl⟩ := List.mem_map.mp hx
    exact List.mem_map.mpr ⟨i, h i hi, rfl⟩, fun i hi j hj => N.inj i (h i hi) j (h j hj)⟩
end
def sp_f_law_some (K : PySem.W.Frag) : Sp := fun vs H Q _ => ∃ p st pv nk bh D ms js t, ∃ n : Nat, vs = [.ref p, .ref st] ∧ del H st p = some (.lst pv) ∧ AN (PL nk bh D H) pv js ∧ js.Perm ms ∧ PLW nk bh D ms t ∧ SR H st n ∧ n ≤ 50000 ∧ TBL K H ∧
  ∀ H' q sv, ∀ kept : Nat → Bool, Same (del (del H st) (tabP K "_law_some")) H' → SR H' st (n + 64) → TBL K H' → del H' st q = some (.lst sv) → AN (PL nk bh D H') sv (js.filter kept) → (∀ k, kept k = true → ∀ b, bh k = some b → kept b = true) → Q (.ref q) H'
theorem len_f_law_some {K : PySem.W.Frag} {vs : List V} {H : Hp} {Q : VK} {E : XK} (h : sp_f_law_some K vs H Q E) : vs.length = 2 := by obtain ⟨_, _, _, _, _, _, _, _, _, _, rfl, _⟩ := h; rfl
def sp_flaw (K : PySem.W.Frag) : Sp := fun vs H Q _ => ∃ sp ns, vs = [.ref sp] ∧ SqL K H sp (List.map V.int ns) ∧ ns.length ≤ 63 ∧ H (tabP K "_law_some") = some (.tbl #[]) ∧ ∀ H', Q (.bl true) H'
theorem len_flaw {K : PySem.W.Frag} {vs : List V} {H : Hp} {Q : VK} {E : XK} (h : sp_flaw K vs H Q E) : vs.length = 1 := by obtain ⟨_, _, rfl, _⟩ := h; rfl
theorem law_spec : ∀ (K : PySem.W.Frag) (H : Hp) (a : Addr) (ns : List Int), ns.length ≤ 63 → H (tabP K "_law_some") = some (.tbl #[]) → SqL K H a (ns.map V.int) → sp_flaw K [.ref a] H (fun v _ => v = .bl true) fun _ _ _ => False :=
  fun K H a ns h1 h2 h3 => ⟨a, ns, rfl, h3, h1, h2, fun _ => rfl⟩
def sp_f_law_free (K : PySem.W.Frag) : Sp := fun vs H Q _ => ∃ p sp st pv sv nk bh D js ks, ∃ I : Nat → List Int, ∃ n : Nat, vs = [.ref p, .ref sp, .ref st] ∧ del H st p = some (.lst pv) ∧ del H st sp = some (.lst sv) ∧ AN (PL nk bh D H) pv js ∧ AN (PL nk bh D H) sv ks ∧
  (∀ i, D i = .tuple ((I i).map PyData.int)) ∧ (∀ i ∈ js, ∃ x y r, I i = x :: y :: r ∧ y < 9000000) ∧ (∀ i ∈ ks, i ∈ js) ∧ js.length ≤ 63 ∧ ks.length ≤ 63 ∧ SR H st n ∧ n ≤ 90000 ∧
  ∀ H' q, ∀ a b : Int, Same (del H st) H' → SR H' st (n + 2) → H' q = some (.tup [.int a, .int b, .int 0]) → (∀ i ∈ ks, ltD (D i) (.tuple [.int a, .int b, .int 0]) = true) → (∀ i ∈ js, D i ≠ .tuple [.int a, .int b, .int 0]) → Q (.ref q) H'
theorem len_f_law_free {K : PySem.W.Frag} {vs : List V} {H : Hp} {Q : VK} {E : XK} (h : sp_f_law_free K vs H Q E) : vs.length = 3 := by obtain ⟨_, _, _, _, _, _, _, _, _, _, _, _, rfl, _⟩ := h; rfl
theorem far_up {r0 r1 b : Int} {rest : List Int} {d : Nat} (h : r1 < b) : ltD (.tuple ((r0 :: r1 :: rest).map PyData.int)) (.tuple [.int (r0 + (d : Int)), .int b, .int 0]) = true := by
  rw [ltD]
  show ltDs (.int r0 :: .int r1 :: rest.map PyData.int) _ = true
  by_cases z : d = 0
  · subst z
    rw [show r0 + ((0 : Nat) : Int) = r0 by omega]
    exact ltD_int3 (ltD_int2 h)
  · exact ltD_int2 (by omega)
theorem iT_low {p0 p1 p2 : Nat} {TS : List Dr} (ok : TOk p0 p1 p2 TS) {i : Nat} (hi : i < TS.length) : ∃ x y r, iT p2 TS i = x :: y :: r ∧ y < 9000000 := by
  have h1 := ok.hand i hi
  have h2 := ok.small i hi
  unfold iT rkI
  by_cases h : p2 = 0
  · rw [if_pos h]
    exact ⟨_, _, _, rfl, by omega⟩
  · rw [if_neg h]
    exact ⟨_, _, _, rfl, by omega⟩
structure NewP (p2 : Nat) (TS : List Dr) (nk' : Nat → List Key) (bh' : Nat → Option Nat) (D' : Nat → PyData) (bn : Option Nat) (a b : Int) : Prop where
  nkn : nk' TS.length = [.inr "new", .inl 0, .inl 0]
  nko : ∀ i, i < TS.length → nkT TS i = nk' i
  bhn : bh' TS.length = bn
  bho : ∀ i, i < TS.length → bhT TS i = bh' i
  Dn : D' TS.length = .tuple [.int a, .int b, .int 0]
  Do : ∀ i, i < TS.length → dT p2 TS i = D' i
theorem newP_ex (p2 : Nat) (TS : List Dr) (bn : Option Nat) (a b : Int) : ∃ nk' bh' D', NewP p2 TS nk' bh' D' bn a b :=
  ⟨fun i => if i = TS.length then [.inr "new", .inl 0, .inl 0] else nkT TS i, fun i => if i = TS.length then bn else bhT TS i, fun i => if i = TS.length then .tuple [.int a, .int b, .int 0] else dT p2 TS i,
    if_pos rfl, fun i hi => (if_neg (Nat.ne_of_lt hi)).symm, if_pos rfl, fun i hi => (if_neg (Nat.ne_of_lt hi)).symm, if_pos rfl, fun i hi => (if_neg (Nat.ne_of_lt hi)).symm⟩
section
variable {p0 p1 p2 : Nat} {TS : List Dr} {nk' : Nat → List Key} {bh' : Nat → Option Nat} {D' : Nat → PyData} {bn : Option Nat} {a b : Int}
theorem NewP.inj (Z : NewP p2 TS nk' bh' D' bn a b) (ok : TOk p0 p1 p2 TS) (hl : TS.length ≤ 60) (hp : p1 < 66) {i j : Nat} (hi : i ≤ TS.length) (hj : j ≤ TS.length) (e : nk' i = nk' j) : i = j := by
  have no : ∀ i, i < TS.length → nk' i ≠ nk' TS.length := fun i hi z => by
    obtain ⟨w, e', h1, _⟩ := ok.name i hi
    rw [← Z.nko i hi, h1, Z.nkn] at z
    unfold nkOf L2.numOf at z
    injection z with _ z
    injection z with z _
    injection z with z
    omega
  rcases Nat.lt_or_eq_of_le hi with hi | rfl
  · rcases Nat.lt_or_eq_of_le hj with hj | rfl
    · rw [← Z.nko i hi, ← Z.nko j hj] at e
      exact (ok.plw hl hp).inj i (List.mem_range.mpr hi) j (List.mem_range.mpr hj) e
    · exact absurd e (no i hi)
  · rcases Nat.lt_or_eq_of_le hj with hj | rfl
    · exact absurd e.symm (no j hj)
    · rfl
theorem NewP.rk (Z : NewP p2 TS nk' bh' D' bn a b) {i : Nat} (hi : i ≤ TS.length) : RkD (D' i) := by
  rcases Nat.lt_or_eq_of_le hi with hi | rfl
  · rw [← Z.Do i hi]; exact rkD_rk _ _ _ _
  · rw [Z.Dn]; exact .inr ⟨_, _, _, rfl⟩
theorem NewP.plw (Z : NewP p2 TS nk' bh' D' bn a b) (ok : TOk p0 p1 p2 TS) (hl : TS.length ≤ 60) (hp : p1 < 66) {ms : List Nat} (hms : ∀ i ∈ ms, i ≤ TS.length) (few : ms.length < 64) (up : ms.Pairwise fun a b => ltD (D' a) (D' b) = true)
    (hb : ∀ i ∈ ms, ∀ b, bh' i = some b → b ∈ ms ∧ ltD (D' b) (D' i) = true) : PLW nk' bh' D' ms 2 := by
  have keys : KeysAre (ms.map D') 2 := rk_keys fun d hd => by
    obtain ⟨i, hi, rfl⟩ := List.mem_map.mp hd
    exact Z.rk (hms i hi)
  have one : ∀ i ∈ ms, ∀ j ∈ ms, sk (D' i) (D' j) = true := fun i hi j hj => keys.one _ (List.mem_map.mpr ⟨i, hi, rfl⟩) _ (List.mem_map.mpr ⟨j, hj, rfl⟩)
  refine ⟨few, up, fun i hi j hj e => Z.inj ok hl hp (hms i hi) (hms j hj) e, Rga.wf_up (R := fun a b => ltD (D' a) (D' b) = true) (fun i z => by rw [ltD_irr] at z; cases z) ms.reverse (by rw [List.reverse_reverse]; exact up) (fun i hi j hj h1 h2 => ?_) (fun i hi b hb' => ?_), keys⟩
  · have hi := List.mem_reverse.mp hi
    have hj := List.mem_reverse.mp hj
    have := ltD_tr _ _ _ (one i hi j hj) (one j hj i hi) (one i hi i hi) h1 h2
    rw [ltD_irr] at this
    cases this
  · obtain ⟨h1, h2⟩ := hb i (List.mem_reverse.mp hi) b hb'
    exact ⟨List.mem_reverse.mpr h1, h2⟩
theorem NewP.nw (Z : NewP p2 TS nk' bh' D' bn a b) (ok : TOk p0 p1 p2 TS) (hl : TS.length ≤ 60) (hp : p1 < 66) : NW nk' (List.range (TS.length + 1)) := by
  refine ⟨?_, fun i hi j hj e => Z.inj ok hl hp (by have := List.mem_range.mp hi; omega) (by have := List.mem_range.mp hj; omega) e⟩
  have form : ∀ d ∈ (List.range (TS.length + 1)).map (dN nk'), ∃ (w : Str) (n : Int), IsT w ∧ (d = .tuple [.str w, .int n] ∨ ∃ e : Int, d = .tuple [.str w, .int n, .int e]) := fun d hd => by
    obtain ⟨i, hi, rfl⟩ := List.mem_map.mp hd
    have hi := List.mem_range.mp hi
    unfold dN
    by_cases h : i < TS.length
    · obtain ⟨w, e, h1, h2⟩ := ok.name i h
      rw [← Z.nko i h, h1]
      refine ⟨w, ((L2.numOf p0 p1 i : Nat) : Int), h2, ?_⟩
      unfold nkOf
      by_cases z : p2 = 0
      · rw [if_pos z]; exact .inl rfl
      · rw [if_neg z]; exact .inr ⟨_, rfl⟩
    · obtain rfl : i = TS.length := by omega
      rw [Z.nkn]
      exact ⟨"new", 0, by show ∀ c ∈ (("new" : Str)).cps.toList, c ≤ 122; decide +kernel, .inr ⟨_, rfl⟩⟩
  refine ⟨lays_all fun d hd => ?_, fun d hd => ?_, fun x hx y hy => ?_, fun d hd => ?_⟩
  · obtain ⟨w, n, hw, rfl | ⟨e, rfl⟩⟩ := form d hd
    · show (PyData.strOk w && (true && true)) = true
      rw [isT_ok hw]; rfl
    · show (PyData.strOk w && (true && (true && true))) = true
      rw [isT_ok hw]; rfl
  · obtain ⟨w, n, hw, rfl | ⟨e, rfl⟩⟩ := form d hd <;> trivial
  · obtain ⟨w, n, hw, rfl | ⟨e, rfl⟩⟩ := form x hx <;> obtain ⟨w', n', hw', rfl | ⟨e', rfl⟩⟩ := form y hy <;> rfl
  · obtain ⟨w, n, hw, rfl | ⟨e, rfl⟩⟩ := form d hd
    · exact (by decide : 1 ≤ 60)
    · exact (by decide : 1 ≤ 60)
end
theorem qs_congr2 {bh bh' : Nat → Option Nat} {ms : List Nat} (h : ∀ i ∈ ms, bh i = bh' i) : Rga.qsOf bh ms = Rga.qsOf bh' ms := by
  unfold Rga.qsOf
  exact List.map_congr_left fun i hi => by rw [h i (List.mem_reverse.mp hi)]
theorem back_up {p0 p1 p2 : Nat} {TS : List Dr} (ok : TOk p0 p1 p2 TS) {i b : Nat} (hi : i < TS.length) (e : bhT TS i = some b) : ltD (dT p2 TS b) (dT p2 TS i) = true := by
  have hb := ok.back i hi b e
  exact rk_up (ok.up b i hb hi) (ok.small b (by omega)) (ok.small i hi)
theorem put_in {p0 p1 p2 : Nat} {TS : List Dr} {nk' : Nat → List Key} {bh' : Nat → Option Nat} {D' : Nat → PyData} {a b : Int} {kept : Nat → Bool} {r : Nat} {row : List Nat} (ok : TOk p0 p1 p2 TS) (hl : TS.length ≤ 60) (hp : p1 < 66)
    (hrow : Rga.rowR (Rga.qsOf (bhT TS) (List.range TS.length)) = row) (Z : NewP p2 TS nk' bh' D' (Rga.bhAt (row.filter kept) r) a b) (hr : r ≤ (row.filter kept).length)
    (hcl : ∀ k, kept k = true → ∀ b, bhT TS k = some b → kept b = true) (hlt : ∀ i, i < TS.length → kept i = true → ltD (dT p2 TS i) (.tuple [.int a, .int b, .int 0]) = true) (hne : ∀ i, i < TS.length → dT p2 TS i ≠ .tuple [.int a, .int b, .int 0]) :
    PLW nk' bh' D' ((List.range TS.length).filter kept ++ [TS.length]) 2 ∧ Rga.rowR (Rga.qsOf bh' ((List.range TS.length).filter kept ++ [TS.length])) = Rga.insN (row.filter kept) r TS.length ∧
    ∃ msA rowA, msA.Perm (TS.length :: List.range TS.length) ∧ PLW nk' bh' D' msA 2 ∧ Rga.rowR (Rga.qsOf bh' msA) = rowA ∧ rowA.Nodup ∧ (∀ i ∈ rowA, i ≤ TS.length) ∧ TS.length ∈ rowA ∧ rowA.filter (fun i => decide (i ≠ TS.length)) = row ∧ rowA.filter (fun i => kept i || decide (i = TS.length)) = Rga.insN (row.filter kept) r TS.length := by
  have W := ok.plw hl hp
  have wf := W.wf
  have rin : ∀ i ∈ row, i < TS.length := fun i hi => List.mem_range.mp (Rga.row_mem wf (by rw [← hrow] at hi; exact hi))
  have clo : Rga.Clo kept (Rga.qsOf (bhT TS) (List.range TS.length)) := Rga.clo_qs fun k _ hk b hb => hcl k hk b hb
  have hrowS : Rga.rowR (Rga.qsOf (bhT TS) ((List.range TS.length).filter kept)) = row.filter kept := by rw [Rga.qs_filter, Rga.row_filter clo, hrow]
  have nd : row.Nodup := by rw [← hrow]; exact Rga.row_nodup wf
  have hbn : ∀ b, Rga.bhAt (row.filter kept) r = some b → b < TS.length ∧ kept b = true := fun b e => by
    cases r with
    | zero => cases e
    | succ r =>
      have := List.mem_filter.mp (List.mem_of_getElem? (show (row.filter kept)[r]? = some b from e))
      exact ⟨rin b this.1, this.2⟩
  have mem1 : ∀ i ∈ (List.range TS.length).filter kept, i < TS.length ∧ kept i = true := fun i hi => ⟨List.mem_range.mp (List.mem_filter.mp hi).1, (List.mem_filter.mp hi).2⟩
  have rowP : Rga.rowR (Rga.qsOf bh' ((List.range TS.length).filter kept ++ [TS.length])) = Rga.insN (row.filter kept) r TS.length := by
    rw [Rga.row_snoc, Z.bhn, qs_congr2 (bh := bh') (bh' := bhT TS) (fun i hi => (Z.bho i (mem1 i hi).1).symm), hrowS, Rga.ins_at (nd.filter _) hr]
  refine ⟨Z.plw ok hl hp (fun i hi => ?_) ?_ ?_ (fun i hi b hb => ?_), rowP, ?_⟩
  · rcases List.mem_append.mp hi with z | z
    · exact Nat.le_of_lt (mem1 i z).1
    · exact Nat.le_of_eq (List.mem_singleton.mp z)
  · rw [List.length_append, List.length_singleton]
    have := List.length_filter_le kept (List.range TS.length)
    rw [List.length_range] at this
    omega
  · rw [List.pairwise_append]
    refine ⟨(W.up.filter _).imp_of_mem fun {x y} hx hy h => ?_, List.pairwise_singleton _ _, fun x hx y hy => ?_⟩
    · rw [← Z.Do x (mem1 x hx).1, ← Z.Do y (mem1 y hy).1]; exact h
    · rw [List.mem_singleton.mp hy, Z.Dn, ← Z.Do x (mem1 x hx).1]
      exact hlt x (mem1 x hx).1 (mem1 x hx).2
  · rcases List.mem_append.mp hi with z | z
    · obtain ⟨h1, h2⟩ := mem1 i z
      rw [← Z.bho i h1] at hb
      have hbi := ok.back i h1 b hb
      refine ⟨List.mem_append_left _ (List.mem_filter.mpr ⟨List.mem_range.mpr (by omega), hcl i h2 b hb⟩), ?_⟩
      rw [← Z.Do b (by omega), ← Z.Do i h1]
      exact back_up ok h1 hb
    · rw [List.mem_singleton.mp z, Z.bhn] at hb
      obtain ⟨h1, h2⟩ := hbn b hb
      refine ⟨List.mem_append_left _ (List.mem_filter.mpr ⟨List.mem_range.mpr h1, h2⟩), ?_⟩
      rw [List.mem_singleton.mp z, Z.Dn, ← Z.Do b h1]
      exact hlt b h1 h2
  · -- among all
    obtain ⟨lo, hlo⟩ : ∃ lo : Nat → Bool, lo = fun i => ltD (dT p2 TS i) (.tuple [.int a, .int b, .int 0]) := ⟨_, rfl⟩
    have lo_i : ∀ i, lo i = ltD (dT p2 TS i) (.tuple [.int a, .int b, .int 0]) := fun i => by rw [hlo]
    have skn : ∀ i, sk (dT p2 TS i) (.tuple [.int a, .int b, .int 0]) = true := fun i => by
      rw [iT_D, sk]; exact ints_sk _ [a, b, 0]
    have skk : ∀ i j, sk (dT p2 TS i) (dT p2 TS j) = true := fun i j => by
      rw [iT_D, iT_D, sk]; exact ints_sk _ _
    have hi_up : ∀ i, i < TS.length → ¬ lo i = true → ltD (.tuple [.int a, .int b, .int 0]) (dT p2 TS i) = true := fun i hi h => by
      cases q : ltD (.tuple [.int a, .int b, .int 0]) (dT p2 TS i) with
      | true => rfl
      | false => exact absurd (ltD_tot _ _ (skn i) (by rw [← lo_i]; simpa using h) q) (hne i hi)
    have m1 : ∀ i ∈ (List.range TS.length).filter lo, i < TS.length ∧ lo i = true := fun i hi => ⟨List.mem_range.mp (List.mem_filter.mp hi).1, (List.mem_filter.mp hi).2⟩
    have m2 : ∀ i ∈ (List.range TS.length).filter (fun i => !lo i), i < TS.length ∧ ¬ lo i = true := fun i hi => ⟨List.mem_range.mp (List.mem_filter.mp hi).1, by simpa using (List.mem_filter.mp hi).2⟩
    have perm0 : ((List.range TS.length).filter lo ++ (List.range TS.length).filter fun i => !lo i).Perm (List.range TS.length) := List.filter_append_perm _ _
    have upA : ((List.range TS.length).filter lo ++ TS.length :: (List.range TS.length).filter fun i => !lo i).Pairwise fun x y => ltD (D' x) (D' y) = true := by
      rw [List.pairwise_append, List.pairwise_cons]
      refine ⟨(W.up.filter _).imp_of_mem fun {x y} hx hy h => ?_, ⟨fun y hy => ?_, (W.up.filter _).imp_of_mem fun {x y} hx hy h => ?_⟩, fun x hx y hy => ?_⟩
      · rw [← Z.Do x (m1 x hx).1, ← Z.Do y (m1 y hy).1]; exact h
      · rw [Z.Dn, ← Z.Do y (m2 y hy).1]; exact hi_up y (m2 y hy).1 (m2 y hy).2
      · rw [← Z.Do x (m2 x hx).1, ← Z.Do y (m2 y hy).1]; exact h
      · rcases List.mem_cons.mp hy with z | z
        · rw [z, Z.Dn, ← Z.Do x (m1 x hx).1, ← lo_i]; exact (m1 x hx).2
        · rw [← Z.Do x (m1 x hx).1, ← Z.Do y (m2 y z).1]
          rcases ltD_nt _ _ _ (skk x y) (skn y) (skn x) ((lo_i x).symm.trans (m1 x hx).2) with q | q
          · exact q
          · rw [← lo_i] at q
            exact absurd q (m2 y z).2
    have permA : ((List.range TS.length).filter lo ++ TS.length :: (List.range TS.length).filter fun i => !lo i).Perm (TS.length :: List.range TS.length) := List.perm_middle.trans (perm0.cons _)
    have leA : ∀ i ∈ (List.range TS.length).filter lo ++ TS.length :: (List.range TS.length).filter (fun i => !lo i), i ≤ TS.length := fun i hi => by
      rcases List.mem_cons.mp (permA.mem_iff.mp hi) with z | z
      · exact Nat.le_of_eq z
      · exact Nat.le_of_lt (List.mem_range.mp z)
    have inA : ∀ i, i ≤ TS.length → i ∈ (List.range TS.length).filter lo ++ TS.length :: (List.range TS.length).filter (fun i => !lo i) := fun i hi => permA.mem_iff.mpr (by
      rcases Nat.lt_or_eq_of_le hi with z | z
      · exact List.mem_cons_of_mem _ (List.mem_range.mpr z)
      · rw [z]; exact List.mem_cons_self)
    have ndA : ∀ x, x ≠ TS.length → ((List.range TS.length).filter lo ++ TS.length :: (List.range TS.length).filter fun i => !lo i).filter (fun i => decide (i ≠ TS.length)) = List.range TS.length := fun _ _ => by
      have e1 : ∀ l : List Nat, (∀ i ∈ l, i < TS.length) → l.filter (fun i => decide (i ≠ TS.length)) = l := fun l h => List.filter_eq_self.mpr fun i hi => decide_eq_true (Nat.ne_of_lt (h i hi))
      rw [List.filter_append, List.filter_cons_of_neg (by simp), e1 _ (fun i hi => (m1 i hi).1), e1 _ (fun i hi => (m2 i hi).1)]
      refine Rga.eq_by (R := fun x y => ltD (dT p2 TS x) (dT p2 TS y)) perm0 ?_ W.up
      have sub : ((List.range TS.length).filter lo ++ (List.range TS.length).filter fun i => !lo i).Pairwise fun x y => ltD (D' x) (D' y) = true := upA.sublist (List.Sublist.append (List.Sublist.refl _) (List.sublist_cons_self _ _))
      refine sub.imp_of_mem fun {x y} hx hy h => ?_
      have hx' := List.mem_range.mp (perm0.mem_iff.mp hx)
      have hy' := List.mem_range.mp (perm0.mem_iff.mp hy)
      rw [← Z.Do x hx', ← Z.Do y hy'] at h
      cases q : ltD (dT p2 TS y) (dT p2 TS x) with
      | false => rfl
      | true =>
        have := ltD_tr _ _ _ (skk x y) (skk y x) (skk x x) h q
        rw [ltD_irr] at this
        cases this
    have cloN : ∀ k ∈ (List.range TS.length).filter lo ++ TS.length :: (List.range TS.length).filter (fun i => !lo i), k ≠ TS.length → ∀ b, bh' k = some b → b < TS.length ∧ bhT TS k = some b := fun k hk hne b hb => by
      have hk' : k < TS.length := Nat.lt_of_le_of_ne (leA k hk) hne
      rw [← Z.bho k hk'] at hb
      have := ok.back k hk' b hb
      exact ⟨by omega, hb⟩
    have PA := Z.plw ok hl hp leA (by rw [permA.length_eq, List.length_cons, List.length_range]; omega) upA fun i hi b hb => by
      by_cases z : i = TS.length
      · rw [z, Z.bhn] at hb
        obtain ⟨h1, h2⟩ := hbn b hb
        refine ⟨inA b (Nat.le_of_lt h1), ?_⟩
        rw [z, Z.Dn, ← Z.Do b h1]
        exact hlt b h1 h2
      · obtain ⟨h1, h2⟩ := cloN i hi z b hb
        have hi' : i < TS.length := Nat.lt_of_le_of_ne (leA i hi) z
        refine ⟨inA b (Nat.le_of_lt h1), ?_⟩
        rw [← Z.Do b h1, ← Z.Do i hi']
        exact back_up ok hi' h2
    have memA : ∀ i, i ∈ Rga.rowR (Rga.qsOf bh' ((List.range TS.length).filter lo ++ TS.length :: (List.range TS.length).filter fun i => !lo i)) ↔ i ∈ (List.range TS.length).filter lo ++ TS.length :: (List.range TS.length).filter fun i => !lo i := fun i => by
      have pp : (Rga.rowR (Rga.qsOf bh' ((List.range TS.length).filter lo ++ TS.length :: (List.range TS.length).filter fun i => !lo i))).Perm (Rga.nms (Rga.qsOf bh' ((List.range TS.length).filter lo ++ TS.length :: (List.range TS.length).filter fun i => !lo i))) := Rga.row_perm PA.wf
      rw [pp.mem_iff, Rga.nms_qs, List.mem_reverse]
    refine ⟨_, _, permA, PA, rfl, Rga.row_nodup PA.wf, fun i hi => leA i ((memA i).mp hi), (memA _).mpr (inA _ (Nat.le_refl _)), ?_, ?_⟩
    · refine (Rga.row_filter (P := fun i => decide (i ≠ TS.length)) (Rga.clo_qs fun k hk hP b hb => decide_eq_true (Nat.ne_of_lt (cloN k hk (of_decide_eq_true hP) b hb).1))).symm.trans ((congrArg Rga.rowR (Rga.qs_filter (fun i => decide (i ≠ TS.length)) bh' _).symm).trans ?_)
      by_cases h0 : TS.length = 0
      · rw [ndA 1 (by omega), qs_congr2 (bh := bh') (bh' := bhT TS) (fun i hi => (Z.bho i (List.mem_range.mp hi)).symm), hrow]
      · rw [ndA 0 (by omega), qs_congr2 (bh := bh') (bh' := bhT TS) (fun i hi => (Z.bho i (List.mem_range.mp hi)).symm), hrow]
    · refine (Rga.row_filter (P := fun i => kept i || decide (i = TS.length)) (Rga.clo_qs fun k hk hP b hb => ?_)).symm.trans ((congrArg Rga.rowR (Rga.qs_filter (fun i => kept i || decide (i = TS.length)) bh' _).symm).trans ?_)
      rotate_left
      · rw [← rowP]
        congr 2
        rw [List.filter_append, List.filter_cons_of_pos (by simp)]
        have e1 : ((List.range TS.length).filter lo).filter (fun i => kept i || decide (i = TS.length)) = (List.range TS.length).filter kept := by
          rw [List.filter_filter]
          refine List.filter_congr fun i hi => ?_
          have hi' := List.mem_range.mp hi
          rw [decide_eq_false (Nat.ne_of_lt hi'), Bool.or_false]
          cases hk : kept i with
          | false => rfl
          | true => rw [lo_i, hlt i hi' hk]; rfl
        have e2 : ((List.range TS.length).filter (fun i => !lo i)).filter (fun i => kept i || decide (i = TS.length)) = [] := by
          rw [List.filter_eq_nil_iff]
          intro i hi z
          obtain ⟨h1, h2⟩ := m2 i hi
          have hk : kept i = true := by
            rw [decide_eq_false (Nat.ne_of_lt h1), Bool.or_false] at z
            exact z
          exact h2 (by rw [lo_i]; exact hlt i h1 hk)
        rw [e1, e2]
      · by_cases z : k = TS.length
        · rw [z, Z.bhn] at hb
          rw [(hbn b hb).2]; rfl
        · obtain ⟨h1, h2⟩ := cloN k hk z b hb
          have hk' : kept k = true := by
            rw [decide_eq_false z, Bool.or_false] at hP
            exact hP
          rw [hcl k hk' b h2]; rfl
theorem sc_fkey_of_place : FnScope ["place"] ["place"] (defScope s_fkey_of_place) := ⟨rfl, rfl, rfl, by decide +kernel, rfl, by decide +kernel, by decide +kernel⟩
theorem sc_f_law_begun : FnScope ["_law_script", "_law_k", "_law_cell"] ["_law_script", "_law_k"] (defScope s_f_law_begun) := ⟨rfl, rfl, rfl, by decide +kernel, rfl, by decide +kernel, by decide +kernel⟩
theorem sc_f_law_draw : FnScope ["_law_state", "_law_many", "_law_number"] ["_law_state", "_law_many"] (defScope s_f_law_draw) := ⟨rfl, rfl, rfl, by decide +kernel, rfl, by decide +kernel, by decide +kernel⟩
theorem sc_f_law_name : FnScope ["_law_state", "_law_k", "_law_paces", "_law_letters", "_law_word", "_law_number"] ["_law_state", "_law_k", "_law_paces"] (defScope s_f_law_name) := ⟨rfl, rfl, rfl, by decide +kernel, rfl, by decide +kernel, by decide +kernel⟩
theorem sc_f_law_key : FnScope ["_law_state", "_law_last", "_law_many", "_law_height", "_law_hand", "_law_which", "_law_kind"] ["_law_state", "_law_last", "_law_many"] (defScope s_f_law_key) := ⟨rfl, rfl, rfl, by decide +kernel, rfl, by decide +kernel, by decide +kernel⟩
theorem sc_f_law_some : FnScope ["_law_places_here", "_law_state", "_law_bits", "_law_name_here", "_law_behind", "_law_rank", "_law_kept"] ["_law_places_here", "_law_state"] (defScope s_f_law_some) := ⟨rfl, rfl, rfl, by decide +kernel, rfl, by decide +kernel, by decide +kernel⟩
theorem sc_f_law_free : FnScope ["_law_places_here", "_law_some_here", "_law_state", "_law_keys", "_law_least", "_law_rank"] ["_law_places_here", "_law_some_here", "_law_state"] (defScope s_f_law_free) := ⟨rfl, rfl, rfl, by decide +kernel, rfl, by decide +kernel, by decide +kernel⟩
theorem sc_ffollowers_of : FnScope ["places", "followers", "place"] ["places"] (defScope s_ffollowers_of) := ⟨rfl, rfl, rfl, by decide +kernel, rfl, by decide +kernel, by decide +kernel⟩
theorem sc_f_law_places : FnScope ["_law_script", "_law_first", "_law_paces", "_law_many", "_law_last", "_law_due", "_law_places_here", "_law_k", "_law_state", "_law_name_here", "_law_at", "_law_behind", "_law_rank"] ["_law_script"] (defScope s_f_law_places) := ⟨rfl, rfl, rfl, by decide +kernel, rfl, by decide +kernel, by decide +kernel⟩
theorem sc_fordered : FnScope ["places", "followers", "row", "to_come", "name"] ["places"] (defScope s_fordered) := ⟨rfl, rfl, rfl, by decide +kernel, rfl, by decide +kernel, by decide +kernel⟩
theorem sc_flaw : FnScope ["_law_script", "_law_places_here", "_law_due", "_law_told", "_law_state", "_law_turn", "_law_some_here", "_law_heard", "_law_at", "_law_more", "_law_found", "_law_place"] ["_law_script"] (defScope s_flaw) := ⟨rfl, rfl, rfl, by decide +kernel, rfl, by decide +kernel, by decide +kernel⟩
section
variable {P : Program} {w : World} {K : PySem.W.Frag} {mg : Str → Option Value} {base : Heap} {d : Adr} {tk : Str → Tok}
theorem ok_fkey_of_place (T : Txt K mg d tk) : FnOk P w K mg base CX0 1 d.fkey_of_place d.fkey_of_placed ["place"] (sp_fkey_of_place K) := by
  refine T.F_fkey_of_place.ok sc_fkey_of_place (fun vs H Q E h => len_fkey_of_place h) (fun cdv A outer s H vs Q E hr h => ?_)
  have hu : (A.deeper (envOfC "key_of_place" (defScope s_fkey_of_place) s.heap.objs.size d.fkey_of_place cdv)).units < cLine := hr.units0
  refine ⟨_, (@pss_one _ _ _ (@ps_ret _ _ _ _ (@pe_ix _ _ _ _ _ _ _ ix_tup (@pv _ 0 _ _ rfl (Or.inl rfl) rfl rfl) (@pe_int _ _ _ _) (fun _ _ => rfl)))), ?_⟩
  obtain ⟨v, nk, bh, D, k, rfl, pl, kk⟩ := h
  obtain ⟨b, vn, vb, vk, rfl, e1, e2, e3, e4⟩ := pl
  exact ⟨_, rfl, b, _, 2, _, rfl, rfl, SqT.of e1, rfl, kk vk e4⟩
theorem ok_f_law_begun (T : Txt K mg d tk) : FnOk P w K mg base CX0 1 d.f_law_begun d.f_law_begund ["_law_script", "_law_k"] (sp_f_law_begun K) := by
  refine T.F_f_law_begun.ok sc_f_law_begun (fun vs H Q E h => len_f_law_begun h) (fun cdv A outer s H vs Q E hr h => ?_)
  have hu : (A.deeper (envOfC "_law_begun" (defScope s_f_law_begun) s.heap.objs.size d.f_law_begun cdv)).units < cLine := hr.units0
  refine ⟨_, (@pss_cons _ _ _ _ _ (@ps_set _ _ (2) _ _ _ _ sc_f_law_begun.nd rfl (Or.inl rfl) (@pe_int _ _ _ _) (by rfl) (by first | exact .inl rfl | exact .inr rfl)) (@pss_cons _ _ _ _ _ (@ps_if _ _ _ _ _ _ _ _ (@pt_cmpR _ _ _ _ _ _ _ _ op_lt (@pv _ 1 _ _ rfl (Or.inl rfl) rfl rfl) (@pe_callB _ _ _ _ _ _ _ _ _ call_len_seq (by rfl) T.b_len boot_len (@pa_cons _ _ _ _ _ (@pv _ 0 _ _ rfl (Or.inl rfl) rfl rfl) (@pa_nil _) (by rfl)) (by decide) (by decide) (by rfl) (by rfl)) (nomark _)) (@pss_one _ _ _ (@ps_set _ _ (2) _ _ _ _ sc_f_law_begun.nd rfl (Or.inl rfl) (@pe_ix _ _ _ _ _ _ _ ix_any (@pv _ 0 _ _ rfl (Or.inl rfl) rfl rfl) (@pv _ 1 _ _ rfl (Or.inl rfl) rfl rfl) (fun _ _ => rfl)) (by rfl) (by first | exact .inl rfl | exact .inr rfl))) (@pss_nil _)) (@pss_one _ _ _ (@ps_ret _ _ _ _ (@pe_lstA _ _ _ _ (@pa_cons _ _ _ _ _ (@pv _ 2 _ _ rfl (Or.inl rfl) rfl rfl) (@pa_cons _ _ _ _ _ (@pe_and _ _ _ _ _ _ _ (@pe_cmpR _ _ _ _ _ _ _ _ op_ge (@pv _ 2 _ _ rfl (Or.inl rfl) rfl rfl) (@pe_op _ _ _ _ _ _ _ _ op_pow (@pe_int _ _ _ _) (@pe_int _ _ _ _)) (nomark _)) (@pe_one _ _ _ _ _ (@pe_cmpR _ _ _ _ _ _ _ _ op_eq (@pe_op _ _ _ _ _ _ _ _ op_mod (@pe_ix _ _ _ _ _ _ _ ix_list (@pv _ 0 _ _ rfl (Or.inl rfl) rfl rfl) (@pe_int _ _ _ _) (fun _ _ => rfl)) (@pe_int _ _ _ _)) (@pe_int _ _ _ _) (nomark _)))) (@pa_cons _ _ _ _ _ (@pe_op _ _ _ _ _ _ _ _ op_add (@pe_op _ _ _ _ _ _ _ _ op_mul (@pe_int _ _ _ _) (@pv _ 1 _ _ rfl (Or.inl rfl) rfl rfl)) (@pe_int _ _ _ _)) (@pa_cons _ _ _ _ _ (@pv _ 2 _ _ rfl (Or.inl rfl) rfl rfl) (@pa_nil _) (by rfl)) (by rfl)) (by rfl)) (by rfl))))))), ?_⟩
  obtain ⟨sp, ns, k, rfl, hs, hk, kk⟩ := h
  refine ⟨_, rfl, _, rfl, sp, _, rfl, .inl hs, _, _, rfl, rfl, _, rfl, ?_⟩
  refine ite2 (fun hb => ?_) fun hb => ?_
  · have hb := of_decide_eq_true hb
    refine ⟨_, rfl, _, rfl, sp, _, _, rfl, rfl, hs, by omega, hb, fun v hv => ?_⟩
    obtain ⟨m, _, rfl⟩ := List.mem_map.mp hv
    refine ⟨_, rfl, _, rfl, _, _, rfl, rfl, ⟨by decide, by decide, by decide⟩, _, _, rfl, rfl, _, rfl, ?_⟩
    refine ite2 (fun _ => ?_) fun _ => ?_
    · rw [List.length_map] at hb
      obtain ⟨a0, h0⟩ : ∃ i, atI (List.map V.int ns) 0 = some (.int i) := ⟨ns[0]'(by omega), atI_nat (j := 0) (by rw [List.getElem?_map, List.getElem?_eq_getElem (by omega : 0 < ns.length)]; rfl)⟩
      refine ⟨_, rfl, sp, _, 0, .int a0, rfl, rfl, hs, h0, _, _, rfl, rfl, (by show (0 : Int) < 2; decide), rfl, ?_⟩
      refine ⟨_, rfl, _, _, rfl, rfl, .inl ⟨by decide, by decide⟩, _, _, rfl, rfl, _, rfl, szOk rfl, fun p H1 g s e => kk H1 p s g ⟨_, _, _, _, e, by omega, by omega⟩⟩
    · refine ⟨_, rfl, _, _, rfl, rfl, .inl ⟨by decide, by decide⟩, _, _, rfl, rfl, _, rfl, szOk rfl, fun p H1 g s e => kk H1 p s g ⟨_, _, _, _, e, by omega, by omega⟩⟩
  · refine ⟨_, rfl, _, rfl, _, _, rfl, rfl, ⟨by decide, by decide, by decide⟩, _, _, rfl, rfl, _, rfl, itF (by decide +kernel) ?_⟩
    refine ⟨_, rfl, _, _, rfl, rfl, .inl ⟨by decide, by decide⟩, _, _, rfl, rfl, _, rfl, szOk rfl, fun p H1 g s e => kk H1 p s g ⟨_, _, _, _, e, by omega, by omega⟩⟩
theorem ok_f_law_draw (T : Txt K mg d tk) : FnOk P w K mg base CX0 1 d.f_law_draw d.f_law_drawd ["_law_state", "_law_many"] (sp_f_law_draw K) := by
  refine T.F_f_law_draw.ok sc_f_law_draw (fun vs H Q E h => len_f_law_draw h) (fun cdv A outer s H vs Q E hr h => ?_)
  have hu : (A.deeper (envOfC "_law_draw" (defScope s_f_law_draw) s.heap.objs.size d.f_law_draw cdv)).units < cLine := hr.units0
  refine ⟨_, (@pss_cons _ _ _ _ _ (@ps_set _ _ (2) _ _ _ _ sc_f_law_draw.nd rfl (Or.inl rfl) (@pe_ix _ _ _ _ _ _ _ ix_list (@pv _ 0 _ _ rfl (Or.inl rfl) rfl rfl) (@pe_int _ _ _ _) (fun _ _ => rfl)) (by rfl) (by first | exact .inl rfl | exact .inr rfl)) (@pss_cons _ _ _ _ _ (@ps_if _ _ _ _ _ _ _ _ (@PW.pt _ _ _ (@pw_and _ _ _ _ _ _ _ (@pt_val _ _ _ (@pe_ix _ _ _ _ _ _ _ ix_list (@pv _ 0 _ _ rfl (Or.inl rfl) rfl rfl) (@pe_int _ _ _ _) (fun _ _ => rfl)) (by intro _; rfl)) (@pw_and1 _ _ _ _ (@pt_cmpR _ _ _ _ _ _ _ _ op_gt (@pv _ 2 _ _ rfl (Or.inl rfl) rfl rfl) (@pe_int _ _ _ _) (nomark _))))) (@pss_cons _ _ _ _ _ (@ps_asg _ _ _ _ _ _ (@pe_op _ _ _ _ _ _ _ _ op_fdiv (@pv _ 2 _ _ rfl (Or.inl rfl) rfl rfl) (@pv _ 1 _ _ rfl (Or.inl rfl) rfl rfl)) (@pg_sub _ _ _ _ _ _ _ (@pv _ 0 _ _ rfl (Or.inl rfl) rfl rfl) (@pe_int _ _ _ _) set_list (by intro _; rfl)) (by rfl) (by rfl) (by rfl)) (@pss_one _ _ _ (@ps_ret _ _ _ _ (@pe_op _ _ _ _ _ _ _ _ op_mod (@pv _ 2 _ _ rfl (Or.inl rfl) rfl rfl) (@pv _ 1 _ _ rfl (Or.inl rfl) rfl rfl))))) (@pss_nil _)) (@pss_cons _ _ _ _ _ (@ps_asg _ _ _ _ _ _ (@pe_op _ _ _ _ _ _ _ _ op_add (@pe_ix _ _ _ _ _ _ _ ix_list (@pv _ 0 _ _ rfl (Or.inl rfl) rfl rfl) (@pe_int _ _ _ _) (fun _ _ => rfl)) (@pe_int _ _ _ _)) (@pg_sub _ _ _ _ _ _ _ (@pv _ 0 _ _ rfl (Or.inl rfl) rfl rfl) (@pe_int _ _ _ _) set_list (by intro _; rfl)) (by rfl) (by rfl) (by rfl)) (@pss_cons _ _ _ _ _ (@ps_asg _ _ _ _ _ _ (@pe_op _ _ _ _ _ _ _ _ op_mod (@pe_op _ _ _ _ _ _ _ _ op_add (@pe_op _ _ _ _ _ _ _ _ op_add (@pe_op _ _ _ _ _ _ _ _ op_mul (@pe_op _ _ _ _ _ _ _ _ op_mod (@pe_ix _ _ _ _ _ _ _ ix_list (@pv _ 0 _ _ rfl (Or.inl rfl) rfl rfl) (@pe_int _ _ _ _) (fun _ _ => rfl)) (@pe_int _ _ _ _)) (@pe_int _ _ _ _)) (@pe_op _ _ _ _ _ _ _ _ op_mul (@pe_op _ _ _ _ _ _ _ _ op_mul (@pe_int _ _ _ _) (@pe_ix _ _ _ _ _ _ _ ix_list (@pv _ 0 _ _ rfl (Or.inl rfl) rfl rfl) (@pe_int _ _ _ _) (fun _ _ => rfl))) (@pe_ix _ _ _ _ _ _ _ ix_list (@pv _ 0 _ _ rfl (Or.inl rfl) rfl rfl) (@pe_int _ _ _ _) (fun _ _ => rfl)))) (@pe_int _ _ _ _)) (@pe_int _ _ _ _)) (@pg_sub _ _ _ _ _ _ _ (@pv _ 0 _ _ rfl (Or.inl rfl) rfl rfl) (@pe_int _ _ _ _) set_list (by intro _; rfl)) (by rfl) (by rfl) (by rfl)) (@pss_one _ _ _ (@ps_ret _ _ _ _ (@pe_op _ _ _ _ _ _ _ _ op_mod (@pe_op _ _ _ _ _ _ _ _ op_fdiv (@pe_op _ _ _ _ _ _ _ _ op_mod (@pe_op _ _ _ _ _ _ _ _ op_mul (@pe_ix _ _ _ _ _ _ _ ix_list (@pv _ 0 _ _ rfl (Or.inl rfl) rfl rfl) (@pe_int _ _ _ _) (fun _ _ => rfl)) (@pe_int _ _ _ _)) (@pe_int _ _ _ _)) (@pe_int _ _ _ _)) (@pv _ 1 _ _ rfl (Or.inl rfl) rfl rfl)))))))), ?_⟩
  obtain ⟨p, n, k, rfl, ⟨a, b, c, e, hp, c0, c1⟩, hn, k0, k1000, kk⟩ := h
  have hk : (0 : Int) < (k : Int) := by omega
  refine ⟨_, rfl, p, _, 0, .int a, rfl, rfl, SqL.of hp, rfl, ?_⟩
  refine ⟨_, rfl, p, _, 1, .bl b, rfl, rfl, SqL.of hp, rfl, _, rfl, ?_⟩
  have slow : ∀ x : Int, ∃ r : Nat, x % (k : Int) = (r : Int) ∧ r < k := fun x => by
    obtain ⟨r, hr⟩ := Int.eq_ofNat_of_zero_le (mod_lo x hk)
    have := mod_hi x hk
    exact ⟨r, hr, by omega⟩
  refine ite2 (fun _ => ⟨_, rfl, _, _, rfl, rfl, _, rfl, ite2 (fun _ => ?_) fun _ => ?_⟩) fun _ => itF rfl ?_
  · refine ⟨_, rfl, _, rfl, _, _, rfl, rfl, ⟨hk, by omega⟩, _, rfl, p, _, 0, 0, rfl, rfl, hp, rfl, ?_⟩
    refine ⟨_, rfl, _, rfl, _, _, rfl, rfl, hk, ?_⟩
    obtain ⟨r, hr, hlt⟩ := slow a
    show Q (V.int (a % (k : Int))) _
    rw [hr]
    exact kk _ r (del_same.wr del_at) ⟨_, _, _, _, upd_same, c0, by omega⟩ hlt
  all_goals
    refine ⟨_, rfl, p, _, 2, .int c, rfl, rfl, SqL.of hp, rfl, _, _, rfl, rfl, _, rfl, p, _, 2, 2, rfl, rfl, hp, rfl, ?_⟩
    refine ⟨_, rfl, p, _, 3, .int e, rfl, rfl, SqL.of upd_same, rfl, _, _, rfl, rfl, (by show (0 : Int) < 2147483647; decide), _, _, rfl, rfl, .inr ⟨by decide, by decide⟩, _, rfl, p, _, 2, .int (c + 1), rfl, rfl, SqL.of upd_same, rfl, _, _, rfl, rfl, .inl ⟨by decide, by decide⟩, _, rfl, p, _, 2, .int (c + 1), rfl, rfl, SqL.of upd_same, rfl, _, _, rfl, rfl, .inr ⟨by omega, by omega⟩, _, _, rfl, rfl, _, _, rfl, rfl, _, _, rfl, rfl, (by show (0 : Int) < 2147483647; decide), _, rfl, p, _, 3, 3, rfl, rfl, upd_same, rfl, ?_⟩
    refine ⟨_, rfl, p, _, 3, _, rfl, rfl, SqL.of upd_same, rfl, _, _, rfl, rfl, .inr ⟨by decide, by decide⟩, _, _, rfl, rfl, (by show (0 : Int) < 2147483629; decide), _, _, rfl, rfl, ⟨by decide, by decide⟩, _, rfl, _, _, rfl, rfl, hk, ?_⟩
    obtain ⟨r, hr, hlt⟩ := slow (((e % 2147483647 * 48271 + 7919 * (c + 1) * (c + 1) + 11) % 2147483647) * 69621 % 2147483629 / 64)
    show Q (V.int (((e % 2147483647 * 48271 + 7919 * (c + 1) * (c + 1) + 11) % 2147483647) * 69621 % 2147483629 / 64 % (k : Int))) _
    rw [hr]
    exact kk _ r ((del_same.wr del_at).wr del_at) ⟨_, _, _, _, upd_same, by omega, by omega⟩ hlt
theorem ok_f_law_name (T : Txt K mg d tk) (gf_law_draw : FnOk P w K mg base CX0 1 d.f_law_draw d.f_law_drawd ["_law_state", "_law_many"] (sp_f_law_draw K)) : FnOk P w K mg base CX0 2 d.f_law_name d.f_law_named ["_law_state", "_law_k", "_law_paces"] (sp_f_law_name K) := by
  refine T.F_f_law_name.ok sc_f_law_name (fun vs H Q E h => len_f_law_name h) (fun cdv A outer s H vs Q E hr h => ?_)
  have hu : (A.deeper (envOfC "_law_name" (defScope s_f_law_name) s.heap.objs.size d.f_law_name cdv)).units < cLine := hr.units0
  refine ⟨_, (@pss_cons _ _ _ _ _ (@ps_set _ _ (3) _ _ _ _ sc_f_law_name.nd rfl (Or.inr rfl) (@pe_str _ _ _ _) (by rfl) (by first | exact .inl rfl | exact .inr rfl)) (@pss_cons _ _ _ _ _ (@ps_set _ _ (4) _ _ _ _ sc_f_law_name.nd rfl (Or.inl rfl) (@pe_bm _ _ _ _ _ _ _ _ _ _ _ _ PySem.F.plainAttrs_str PySem.F.slot_str_join PySem.F.type_str_join mt_join (@pe_str _ _ _ _) (@pa_cons _ _ _ _ _ (@pe_lcomp _ _ _ _ _ _ _ (["_law_turn"]) ([("_law_letters", 3), ("_law_state", 0)]) _ _ _ _ _ rfl (@pi_range1 _ _ _ _ _ _ (by rfl) T.b_range (@pa_cons _ _ _ _ _ (@pe_op _ _ _ _ _ _ _ _ op_add (@pe_int _ _ _ _) (@pe_call _ _ _ _ _ _ _ _ _ _ _ _ _ _ _ _ gf_law_draw (hr.mono (by decide)) (by rfl) T.m_f_law_draw T.k_f_law_draw T.d_f_law_draw .nil pass0 (@pa_cons _ _ _ _ _ (@pv _ 0 _ _ rfl (Or.inr (Or.inl rfl)) rfl rfl) (@pa_cons _ _ _ _ _ (@pe_int _ _ _ _) (@pa_nil _) (by rfl)) (by rfl)) (by decide) (by rfl) (by rfl))) (@pa_nil _) (by rfl)) (by rfl)) ⟨rfl, by decide +kernel, by decide +kernel⟩ (caps_def (defScope s_f_law_name) ["_law_state", "_law_k", "_law_paces", "_law_letters", "_law_word", "_law_number"] rfl rfl (fun _ h => cell_has h) (by decide +kernel) (by decide +kernel) (by decide +kernel)) (fun _ _ _ => (@pg_name _ _ (0) _ (by show List.Nodup (["_law_turn", "_law_letters", "_law_state"] : List Str); decide +kernel) rfl (Or.inl rfl) (by first | exact .inl rfl | exact .inr rfl))) (fun _ => fresh_name rfl) (fun _ _ _ => (@pts_nil _)) (fun _ _ _ => (@pe_ix _ _ _ _ _ _ _ ix_str (@pv _ 1 _ _ rfl (Or.inr (Or.inl rfl)) rfl rfl) (@pe_call _ _ _ _ _ _ _ _ _ _ _ _ _ _ _ _ gf_law_draw (hr.mono (by decide)) (by rfl) T.m_f_law_draw T.k_f_law_draw T.d_f_law_draw .nil pass0 (@pa_cons _ _ _ _ _ (@pv _ 2 _ _ rfl (Or.inr (Or.inl rfl)) rfl rfl) (@pa_cons _ _ _ _ _ (@pe_int _ _ _ _) (@pa_nil _) (by rfl)) (by rfl)) (by decide) (by rfl) (by rfl)) (fun _ _ => rfl))) (by intro _; rfl)) (@pa_nil _) (by rfl)) (by rfl) (by rfl) (by rfl) (by rfl) (by rfl)) (by rfl) (by first | exact .inl rfl | exact .inr rfl)) (@pss_cons _ _ _ _ _ (@ps_set _ _ (5) _ _ _ _ sc_f_law_name.nd rfl (Or.inl rfl) (@pe_op _ _ _ _ _ _ _ _ op_add (@pe_int _ _ _ _) (@pe_op _ _ _ _ _ _ _ _ op_mod (@pe_op _ _ _ _ _ _ _ _ op_add (@pe_ix _ _ _ _ _ _ _ ix_list (@pv _ 2 _ _ rfl (Or.inl rfl) rfl rfl) (@pe_int _ _ _ _) (fun _ _ => rfl)) (@pe_op _ _ _ _ _ _ _ _ op_mul (@pe_op _ _ _ _ _ _ _ _ op_add (@pe_int _ _ _ _) (@pe_ix _ _ _ _ _ _ _ ix_list (@pv _ 2 _ _ rfl (Or.inl rfl) rfl rfl) (@pe_int _ _ _ _) (fun _ _ => rfl))) (@pv _ 1 _ _ rfl (Or.inl rfl) rfl rfl))) (@pe_int _ _ _ _))) (by rfl) (by first | exact .inl rfl | exact .inr rfl)) (@pss_cons _ _ _ _ _ (@ps_if _ _ _ _ _ _ _ _ (@pt_cmpR _ _ _ _ _ _ _ _ op_eq (@pe_ix _ _ _ _ _ _ _ ix_list (@pv _ 2 _ _ rfl (Or.inl rfl) rfl rfl) (@pe_int _ _ _ _) (fun _ _ => rfl)) (@pe_int _ _ _ _) (nomark _)) (@pss_one _ _ _ (@ps_ret _ _ _ _ (@pe_tupA _ _ _ _ _ (@pa_cons _ _ _ _ _ (@pv _ 4 _ _ rfl (Or.inl rfl) rfl rfl) (@pa_cons _ _ _ _ _ (@pv _ 5 _ _ rfl (Or.inl rfl) rfl rfl) (@pa_nil _) (by rfl)) (by rfl))))) (@pss_nil _)) (@pss_one _ _ _ (@ps_ret _ _ _ _ (@pe_tupA _ _ _ _ _ (@pa_cons _ _ _ _ _ (@pv _ 4 _ _ rfl (Or.inl rfl) rfl rfl) (@pa_cons _ _ _ _ _ (@pv _ 5 _ _ rfl (Or.inl rfl) rfl rfl) (@pa_cons _ _ _ _ _ (@pe_call _ _ _ _ _ _ _ _ _ _ _ _ _ _ _ _ gf_law_draw (hr.mono (by decide)) (by rfl) T.m_f_law_draw T.k_f_law_draw T.d_f_law_draw .nil pass0 (@pa_cons _ _ _ _ _ (@pv _ 0 _ _ rfl (Or.inr (Or.inl rfl)) rfl rfl) (@pa_cons _ _ _ _ _ (@pe_int _ _ _ _) (@pa_nil _) (by rfl)) (by rfl)) (by decide) (by rfl) (by rfl)) (@pa_nil _) (by rfl)) (by rfl)) (by rfl))))))))), ?_⟩
  obtain ⟨p, pp, n, k, p0, p1, p2, rfl, r0, hn, hpp, hk, h0, h1, kk⟩ := h
  have npp : pp ≠ p := fun z => by
    obtain ⟨a, b, c, e, hp, _⟩ := r0
    rw [z, hp] at hpp
    cases hpp
  have go : ∀ {Ha Hb : Hp}, Same (del H p) Ha → Same (del Ha p) Hb → Same (del H p) Hb := fun s t => (s.cut del_at).trans t
  have epp : ∀ {Ha : Hp}, Same (del H p) Ha → Ha pp = some (.lst [.int (p0 : Int), .int (p1 : Int), .int (p2 : Int)]) := fun s => s _ _ (by rw [del_ne npp]; exact hpp)
  refine ⟨rfl, _, rfl, p, n, 8, rfl, r0, by omega, by omega, by omega, fun H1 r s1 r1 hr => ?_⟩
  refine ⟨_, _, rfl, rfl, _, rfl, by omega, by omega, lc_range (n := (1 + (r : Int)).toNat) (big (by omega)) (fun i ys H' => ∃ zs : List Str, ys = zs.map V.str ∧ (∀ z ∈ zs, z.length = 1 ∧ IsT z) ∧ zs.length = i ∧ Same (del H p) H' ∧ SR H' p (n + 1 + i))
    ⟨[], rfl, (fun _ z => nomatch z), rfl, s1, r1⟩ (fun i ys H' K1 K0 hi q k1 k0 => ?_) fun H' q ys P hy hq => ?_⟩
  · obtain ⟨zs, rfl, hz, hzl, s6, r6⟩ := q
    refine iteT (B := K0 H') ?_
    refine ⟨_, rfl, _, rfl, p, _, 26, rfl, r6, by omega, by omega, by omega, fun H7 r7 s7 q7 hr7 => ?_⟩
    obtain ⟨c, hc⟩ := atI_in ("abcdefghijklmnopqrstuvwxyz" : Str).cps.toList (r7 : Int) (by omega) (by rw [show ("abcdefghijklmnopqrstuvwxyz" : Str).cps.toList.length = 26 from by decide +kernel]; omega)
    refine ⟨_, _, _, rfl, rfl, (by decide +kernel), hc, k1 _ _ ⟨zs ++ [⟨#[c]⟩], by rw [List.map_append]; rfl, fun z hz' => ?_, by rw [List.length_append, List.length_singleton, hzl], go s6 s7, q7.more (by omega)⟩⟩
    rcases List.mem_append.mp hz' with y | y
    · exact hz z y
    · rw [List.mem_singleton.mp y]
      exact ⟨rfl, isT_one (abc_all c (atI_mem hc))⟩
  obtain ⟨zs, rfl, hz, hzl, s6, r6⟩ := P
  have hsum : (zs.map (·.length)).sum ≤ 100 := by
    have : ∀ l : List Str, (∀ z ∈ l, z.length = 1 ∧ IsT z) → (l.map (·.length)).sum = l.length := fun l => by
      induction l with
      | nil => intro _; rfl
      | cons z l ih =>
        intro h
        rw [List.map_cons, List.sum_cons, ih fun y hy => h y (List.mem_cons_of_mem _ hy), (h z (by simp)).1, List.length_cons]
        omega
    rw [this zs hz]
    omega
  refine ⟨"", q, zs, rfl, rfl, SqL.of upd_same, ?_, ?_⟩
  · rw [show ("" : Str).length = 0 from rfl]
    omega
  have s7 : Same (del H p) (upd H' q (.lst (zs.map V.str))) := s6.up hq
  have r7 : SR (upd H' q (.lst (zs.map V.str))) p (n + 10) := (r6.same (Same.new hq)).more (by omega)
  have hT : IsT (Txt.join "" zs) := isT_join (by unfold L2.IsT; decide +kernel) fun z h => (hz z h).2
  have e7 := epp s7
  refine ⟨_, rfl, pp, _, 0, _, rfl, rfl, SqL.of e7, rfl, _, rfl, pp, _, 1, _, rfl, rfl, SqL.of e7, rfl, _, _, rfl, rfl, _, rfl, _, _, rfl, rfl, .inr ⟨by omega, by omega⟩, _, _, rfl, rfl, _, _, rfl, rfl, (by show (0 : Int) < 67; decide), _, _, rfl, rfl, ?_⟩
  have en : (1 + ((p0 : Int) + (1 + (p1 : Int)) * (k : Int)) % 67) = ((1 + (p0 + (1 + p1) * k) % 67 : Nat) : Int) := by push_cast; rfl
  refine ⟨_, rfl, pp, _, 2, _, rfl, rfl, SqL.of e7, rfl, rfl, _, rfl, ?_⟩
  by_cases hp2 : p2 = 0
  · refine itT (decide_eq_true (by rw [hp2]; rfl)) ?_
    refine ⟨_, rfl, _, rfl, szOk rfl, fun q' H8 g8 s8 e8 => ?_⟩
    refine kk H8 q' _ 0 (s7.trans s8) ((r7.same s8).more (by omega)) hT ?_
    rw [if_pos hp2, ← en]
    exact e8
  · refine itF (decide_eq_false fun z => hp2 (by injection z; omega)) ?_
    refine ⟨_, rfl, _, rfl, _, rfl, p, _, 12, rfl, r7, by omega, by omega, by omega, fun H8 r8 s8 q8 hr8 => ?_⟩
    refine ⟨szOk rfl, fun q' H9 g9 s9 e9 => ?_⟩
    refine kk H9 q' _ r8 ((go s7 s8).trans s9) ((q8.same s9).more (by omega)) hT ?_
    rw [if_neg hp2, ← en]
    exact e9
theorem ok_f_law_key (T : Txt K mg d tk) (gf_law_draw : FnOk P w K mg base CX0 1 d.f_law_draw d.f_law_drawd ["_law_state", "_law_many"] (sp_f_law_draw K)) : FnOk P w K mg base CX0 2 d.f_law_key d.f_law_keyd ["_law_state", "_law_last", "_law_many"] (sp_f_law_key K) := by
  refine T.F_f_law_key.ok sc_f_law_key (fun vs H Q E h => len_f_law_key h) (fun cdv A outer s H vs Q E hr h => ?_)
  have hu : (A.deeper (envOfC "_law_key" (defScope s_f_law_key) s.heap.objs.size d.f_law_key cdv)).units < cLine := hr.units0
  refine ⟨_, (@pss_cons _ _ _ _ _ (@ps_asg _ _ _ _ _ _ (@pv _ 1 _ _ rfl (Or.inl rfl) rfl rfl) (@pg_tup _ _ _ _ _ _ rfl (@pgs_cons _ _ _ _ _ (@pg_name _ _ (3) _ sc_f_law_key.nd rfl (Or.inl rfl) (by first | exact .inl rfl | exact .inr rfl)) (@pgs_cons _ _ _ _ _ (@pg_name _ _ (4) _ sc_f_law_key.nd rfl (Or.inl rfl) (by first | exact .inl rfl | exact .inr rfl)) (@pgs_cons _ _ _ _ _ (@pg_name _ _ (5) _ sc_f_law_key.nd rfl (Or.inl rfl) (by first | exact .inl rfl | exact .inr rfl)) (@pgs_nil _) (by rfl)) (by rfl)) (by rfl)) (by rfl) (by rfl)) (by rfl) (by rfl) (by rfl)) (@pss_cons _ _ _ _ _ (@ps_set _ _ (6) _ _ _ _ sc_f_law_key.nd rfl (Or.inl rfl) (@pe_call _ _ _ _ _ _ _ _ _ _ _ _ _ _ _ _ gf_law_draw (hr.mono (by decide)) (by rfl) T.m_f_law_draw T.k_f_law_draw T.d_f_law_draw .nil pass0 (@pa_cons _ _ _ _ _ (@pv _ 0 _ _ rfl (Or.inl rfl) rfl rfl) (@pa_cons _ _ _ _ _ (@pe_int _ _ _ _) (@pa_nil _) (by rfl)) (by rfl)) (by decide) (by rfl) (by rfl)) (by rfl) (by first | exact .inl rfl | exact .inr rfl)) (@pss_cons _ _ _ _ _ (@ps_if _ _ _ _ _ _ _ _ (@PW.pt _ _ _ (@pw_or _ _ _ _ _ _ _ (@pt_cmpR _ _ _ _ _ _ _ _ op_eq (@pv _ 6 _ _ rfl (Or.inl rfl) rfl rfl) (@pe_int _ _ _ _) (nomark _)) (@pw_or1 _ _ _ _ (@PW.pt _ _ _ (@pw_and _ _ _ _ _ _ _ (@pt_cmpR _ _ _ _ _ _ _ _ op_eq (@pv _ 6 _ _ rfl (Or.inl rfl) rfl rfl) (@pe_int _ _ _ _) (nomark _)) (@pw_and1 _ _ _ _ (@pt_cmpR _ _ _ _ _ _ _ _ op_eq (@pv _ 4 _ _ rfl (Or.inl rfl) rfl rfl) (@pe_int _ _ _ _) (nomark _)))))))) (@pss_one _ _ _ (@ps_ret _ _ _ _ (@pe_tupA _ _ _ _ _ (@pa_cons _ _ _ _ _ (@pe_op _ _ _ _ _ _ _ _ op_add (@pe_op _ _ _ _ _ _ _ _ op_add (@pv _ 3 _ _ rfl (Or.inl rfl) rfl rfl) (@pe_int _ _ _ _)) (@pe_call _ _ _ _ _ _ _ _ _ _ _ _ _ _ _ _ gf_law_draw (hr.mono (by decide)) (by rfl) T.m_f_law_draw T.k_f_law_draw T.d_f_law_draw .nil pass0 (@pa_cons _ _ _ _ _ (@pv _ 0 _ _ rfl (Or.inl rfl) rfl rfl) (@pa_cons _ _ _ _ _ (@pv _ 2 _ _ rfl (Or.inl rfl) rfl rfl) (@pa_nil _) (by rfl)) (by rfl)) (by decide) (by rfl) (by rfl))) (@pa_cons _ _ _ _ _ (@pe_call _ _ _ _ _ _ _ _ _ _ _ _ _ _ _ _ gf_law_draw (hr.mono (by decide)) (by rfl) T.m_f_law_draw T.k_f_law_draw T.d_f_law_draw .nil pass0 (@pa_cons _ _ _ _ _ (@pv _ 0 _ _ rfl (Or.inl rfl) rfl rfl) (@pa_cons _ _ _ _ _ (@pe_int _ _ _ _) (@pa_nil _) (by rfl)) (by rfl)) (by decide) (by rfl) (by rfl)) (@pa_cons _ _ _ _ _ (@pe_call _ _ _ _ _ _ _ _ _ _ _ _ _ _ _ _ gf_law_draw (hr.mono (by decide)) (by rfl) T.m_f_law_draw T.k_f_law_draw T.d_f_law_draw .nil pass0 (@pa_cons _ _ _ _ _ (@pv _ 0 _ _ rfl (Or.inl rfl) rfl rfl) (@pa_cons _ _ _ _ _ (@pe_int _ _ _ _) (@pa_nil _) (by rfl)) (by rfl)) (by decide) (by rfl) (by rfl)) (@pa_nil _) (by rfl)) (by rfl)) (by rfl))))) (@pss_nil _)) (@pss_cons _ _ _ _ _ (@ps_if _ _ _ _ _ _ _ _ (@pt_cmpR _ _ _ _ _ _ _ _ op_eq (@pv _ 6 _ _ rfl (Or.inl rfl) rfl rfl) (@pe_int _ _ _ _) (nomark _)) (@pss_one _ _ _ (@ps_ret _ _ _ _ (@pe_tupA _ _ _ _ _ (@pa_cons _ _ _ _ _ (@pv _ 3 _ _ rfl (Or.inl rfl) rfl rfl) (@pa_cons _ _ _ _ _ (@pe_op _ _ _ _ _ _ _ _ op_add (@pe_op _ _ _ _ _ _ _ _ op_add (@pv _ 4 _ _ rfl (Or.inl rfl) rfl rfl) (@pe_int _ _ _ _)) (@pe_call _ _ _ _ _ _ _ _ _ _ _ _ _ _ _ _ gf_law_draw (hr.mono (by decide)) (by rfl) T.m_f_law_draw T.k_f_law_draw T.d_f_law_draw .nil pass0 (@pa_cons _ _ _ _ _ (@pv _ 0 _ _ rfl (Or.inl rfl) rfl rfl) (@pa_cons _ _ _ _ _ (@pe_op _ _ _ _ _ _ _ _ op_sub (@pe_int _ _ _ _) (@pv _ 4 _ _ rfl (Or.inl rfl) rfl rfl)) (@pa_nil _) (by rfl)) (by rfl)) (by decide) (by rfl) (by rfl))) (@pa_cons _ _ _ _ _ (@pe_call _ _ _ _ _ _ _ _ _ _ _ _ _ _ _ _ gf_law_draw (hr.mono (by decide)) (by rfl) T.m_f_law_draw T.k_f_law_draw T.d_f_law_draw .nil pass0 (@pa_cons _ _ _ _ _ (@pv _ 0 _ _ rfl (Or.inl rfl) rfl rfl) (@pa_cons _ _ _ _ _ (@pe_int _ _ _ _) (@pa_nil _) (by rfl)) (by rfl)) (by decide) (by rfl) (by rfl)) (@pa_nil _) (by rfl)) (by rfl)) (by rfl))))) (@pss_nil _)) (@pss_one _ _ _ (@ps_ret _ _ _ _ (@pe_tupA _ _ _ _ _ (@pa_cons _ _ _ _ _ (@pv _ 3 _ _ rfl (Or.inl rfl) rfl rfl) (@pa_cons _ _ _ _ _ (@pv _ 4 _ _ rfl (Or.inl rfl) rfl rfl) (@pa_cons _ _ _ _ _ (@pe_op _ _ _ _ _ _ _ _ op_add (@pe_op _ _ _ _ _ _ _ _ op_add (@pv _ 5 _ _ rfl (Or.inl rfl) rfl rfl) (@pe_int _ _ _ _)) (@pe_call _ _ _ _ _ _ _ _ _ _ _ _ _ _ _ _ gf_law_draw (hr.mono (by decide)) (by rfl) T.m_f_law_draw T.k_f_law_draw T.d_f_law_draw .nil pass0 (@pa_cons _ _ _ _ _ (@pv _ 0 _ _ rfl (Or.inl rfl) rfl rfl) (@pa_cons _ _ _ _ _ (@pe_int _ _ _ _) (@pa_nil _) (by rfl)) (by rfl)) (by decide) (by rfl) (by rfl))) (@pa_nil _) (by rfl)) (by rfl)) (by rfl))))))))), ?_⟩
  obtain ⟨p, lq, n, a, b, c, m, rfl, r0, hn, hlq, hb, hm0, hm, kk⟩ := h
  have go : ∀ {Ha Hb : Hp}, Same (del H p) Ha → Same (del Ha p) Hb → Same (del H p) Hb := fun s t => (s.cut del_at).trans t
  refine ⟨_, rfl, lq, _, rfl, SqT.of hlq, rfl, _, _, rfl, _, _, rfl, _, _, rfl, rfl, ?_⟩
  refine ⟨_, rfl, p, n, 3, rfl, r0, by omega, by omega, by omega, fun H1 r s1 r1 hr => ?_⟩
  have i1 : ∀ {x y : Nat}, decide (V.int (x : Int) = V.int (y : Int)) = decide (x = y) := fun {x y} => by
    by_cases h : x = y
    · rw [h, decide_eq_true rfl, decide_eq_true rfl]
    · rw [decide_eq_false h, decide_eq_false fun z => h (by injection z; omega)]
  refine ⟨_, rfl, rfl, _, rfl, ?_⟩
  refine ite2 (fun c0 => ?_) fun c0 => ?_
  rotate_left
  · have c0 : r ≠ 0 := fun z => c0 (by rw [z]; rfl)
    refine ⟨_, rfl, rfl, _, rfl, ?_⟩
    refine ite2 (fun c1 => ?_) fun c1 => ?_
    · have c1 : r = 1 := of_decide_eq_true (i1 (y := 1) ▸ c1)
      refine ⟨_, rfl, rfl, _, rfl, ?_⟩
      refine ite2 (fun c2 => ?_) fun c2 => ?_
      · have c2 : b = 5 := of_decide_eq_true (i1 (y := 5) ▸ c2)
        refine ⟨_, rfl, _, _, rfl, rfl, _, rfl, _, rfl, p, _, m, rfl, r1, by omega, by omega, by omega, fun H2 x s2 r2 hx => ?_⟩
        refine ⟨_, _, rfl, rfl, _, rfl, p, _, 6, rfl, r2, by omega, by omega, by omega, fun H3 y s3 r3 hy => ?_⟩
        refine ⟨_, rfl, p, _, 12, rfl, r3, by omega, by omega, by omega, fun H4 z s4 r4 hz => ?_⟩
        refine ⟨szOk rfl, fun q H5 g5 s5 e5 => ?_⟩
        refine kk H5 q (a + 1 + x) y z ((go (go (go s1 s2) s3) s4).trans s5) (r4.same s5) (.inl (by omega)) (by omega) (by omega) ?_
        rw [show ((a + 1 + x : Nat) : Int) = (a : Int) + 1 + (x : Int) by omega]
        exact e5
      · have c2 : b ≠ 5 := fun z => c2 (by rw [z]; rfl)
        refine ⟨_, rfl, rfl, _, rfl, itT (by rw [c1]; rfl) ?_⟩
        refine ⟨_, rfl, _, rfl, _, _, rfl, rfl, _, rfl, _, rfl, _, _, rfl, rfl, p, _, 5 - b, (by rw [show ((5 - b : Nat) : Int) = 5 - (b : Int) by omega]; rfl), r1, by omega, by omega, by omega, fun H2 x s2 r2 hx => ?_⟩
        refine ⟨_, _, rfl, rfl, _, rfl, p, _, 12, rfl, r2, by omega, by omega, by omega, fun H4 z s4 r4 hz => ?_⟩
        refine ⟨szOk rfl, fun q H5 g5 s5 e5 => ?_⟩
        refine kk H5 q a (b + 1 + x) z ((go (go s1 s2) s4).trans s5) ((r4.same s5).more (by omega)) (.inr ⟨rfl, .inl (by omega)⟩) (by omega) (by omega) ?_
        rw [show ((b + 1 + x : Nat) : Int) = (b : Int) + 1 + (x : Int) by omega]
        exact e5
    · have c1 : r ≠ 1 := fun z => c1 (by rw [z]; rfl)
      refine itF rfl ?_
      refine ⟨_, rfl, rfl, _, rfl, itF (decide_eq_false fun z => c1 (by injection z; omega)) ?_⟩
      refine ⟨_, rfl, _, rfl, _, rfl, _, _, rfl, rfl, _, rfl, p, _, 12, rfl, r1, by omega, by omega, by omega, fun H2 x s2 r2 hx => ?_⟩
      refine ⟨_, _, rfl, rfl, szOk rfl, fun q H5 g5 s5 e5 => ?_⟩
      refine kk H5 q a b (c + 1 + x) ((go s1 s2).trans s5) ((r2.same s5).more (by omega)) (.inr ⟨rfl, .inr ⟨rfl, by omega⟩⟩) (by omega) (by omega) ?_
      rw [show ((c + 1 + x : Nat) : Int) = (c : Int) + 1 + (x : Int) by omega]
      exact e5
  · refine ⟨_, rfl, _, _, rfl, rfl, _, rfl, _, rfl, p, _, m, rfl, r1, by omega, by omega, by omega, fun H2 x s2 r2 hx => ?_⟩
    refine ⟨_, _, rfl, rfl, _, rfl, p, _, 6, rfl, r2, by omega, by omega, by omega, fun H3 y s3 r3 hy => ?_⟩
    refine ⟨_, rfl, p, _, 12, rfl, r3, by omega, by omega, by omega, fun H4 z s4 r4 hz => ?_⟩
    refine ⟨szOk rfl, fun q H5 g5 s5 e5 => ?_⟩
    refine kk H5 q (a + 1 + x) y z ((go (go (go s1 s2) s3) s4).trans s5) (r4.same s5) (.inl (by omega)) (by omega) (by omega) ?_
    rw [show ((a + 1 + x : Nat) : Int) = (a : Int) + 1 + (x : Int) by omega]
    exact e5
theorem ok_f_law_some (T : Txt K mg d tk) (hB : base.BuiltinsAt mg (tabP K "_law_some")) (gf_law_draw : FnOk P w K mg base CX0 1 d.f_law_draw d.f_law_drawd ["_law_state", "_law_many"] (sp_f_law_draw K)) : FnOk P w K mg base CX0 2 d.f_law_some d.f_law_somed ["_law_places_here", "_law_state"] (sp_f_law_some K) := by
  refine T.F_f_law_some.okC sc_f_law_some (fun vs H Q E h => len_f_law_some h) (fun cdv A outer s H vs Q E hcv hr h => ?_)
  have hcode : (envOfC "_law_some" (defScope s_f_law_some) s.heap.objs.size d.f_law_some cdv).code = .ref d.f_law_somec := hcv.symm.trans T.LE_f_law_some
  have hu : (A.deeper (envOfC "_law_some" (defScope s_f_law_some) s.heap.objs.size d.f_law_some cdv)).units < cLine := hr.units0
  have hu1 : (A.deeper (envOfC "_law_some" (defScope s_f_law_some) s.heap.objs.size d.f_law_some cdv)).units + 1 < cLine := hu_of hr
  refine ⟨_, (@pss_cons _ _ _ _ _ (@ps_set _ _ (2) _ _ _ _ sc_f_law_some.nd rfl (Or.inl rfl) (@pe_dctG _ _) (by rfl) (by first | exact .inl rfl | exact .inr rfl)) (@pss_cons _ _ _ _ _ (@ps_for _ _ _ _ _ _ _ _ PassesOwn.never rfl (@pi_list _ _ _ _ (@pv _ 0 _ _ rfl (Or.inl rfl) rfl rfl)) (@pg_tup _ _ _ _ _ _ rfl (@pgs_cons _ _ _ _ _ (@pg_name _ _ (3) _ sc_f_law_some.nd rfl (Or.inl rfl) (by first | exact .inl rfl | exact .inr rfl)) (@pgs_cons _ _ _ _ _ (@pg_name _ _ (4) _ sc_f_law_some.nd rfl (Or.inl rfl) (by first | exact .inl rfl | exact .inr rfl)) (@pgs_cons _ _ _ _ _ (@pg_name _ _ (5) _ sc_f_law_some.nd rfl (Or.inl rfl) (by first | exact .inl rfl | exact .inr rfl)) (@pgs_nil _) (by rfl)) (by rfl)) (by rfl)) (by rfl) (by rfl)) (@pss_one _ _ _ (@ps_dputG _ _ _ _ _ _ _ _ _ hu1 (@pv _ 2 _ _ rfl (Or.inl rfl) rfl rfl) (@pv _ 3 _ _ rfl (Or.inl rfl) rfl rfl) (@pe_cmpR _ _ _ _ _ _ _ _ op_gt (@pe_call _ _ _ _ _ _ _ _ _ _ _ _ _ _ _ _ gf_law_draw (hr.mono (by decide)) (by rfl) T.m_f_law_draw T.k_f_law_draw T.d_f_law_draw .nil pass0 (@pa_cons _ _ _ _ _ (@pv _ 1 _ _ rfl (Or.inl rfl) rfl rfl) (@pa_cons _ _ _ _ _ (@pe_int _ _ _ _) (@pa_nil _) (by rfl)) (by rfl)) (by decide) (by rfl) (by rfl)) (@pe_int _ _ _ _) (nomark _)) rfl)) (by intro _; rfl)) (@pss_cons _ _ _ _ _ (@ps_set _ _ (6) _ _ _ _ sc_f_law_some.nd rfl (Or.inr rfl) (@pe_dctG _ _) (by rfl) (by first | exact .inl rfl | exact .inr rfl)) (@pss_cons _ _ _ _ _ (@ps_for _ _ _ _ _ _ _ _ PassesOwn.never rfl (@pi_list _ _ _ _ (@pe_sortL _ (0) _ ("_law_place") _ _ _ _ _ _ _ _ _ _ _ _ hcode T.LC_f_law_some hB (hr.mono (by decide)) (by rfl) T.b_sorted boot_sorted ⟨rfl, rfl, rfl, by decide +kernel, rfl, by decide +kernel, by decide +kernel⟩ (fun _ _ _ _ => rfl) (fun _ _ _ _ _ _ => (@pe_ix _ _ _ _ _ _ _ (ix_tupK (K := K) rfl) (@pv _ 0 _ _ rfl (Or.inl rfl) rfl rfl) (@pe_int _ _ _ _) (fun _ _ => rfl))) (@pa_cons _ _ _ _ _ (@pv _ 0 _ _ rfl (Or.inl rfl) rfl rfl) (@pa_nil _) (by rfl)) (by rfl) (by rfl) (by decide) (by decide) (by rfl))) (@pg_tup _ _ _ _ _ _ rfl (@pgs_cons _ _ _ _ _ (@pg_name _ _ (3) _ sc_f_law_some.nd rfl (Or.inl rfl) (by first | exact .inl rfl | exact .inr rfl)) (@pgs_cons _ _ _ _ _ (@pg_name _ _ (4) _ sc_f_law_some.nd rfl (Or.inl rfl) (by first | exact .inl rfl | exact .inr rfl)) (@pgs_cons _ _ _ _ _ (@pg_name _ _ (5) _ sc_f_law_some.nd rfl (Or.inl rfl) (by first | exact .inl rfl | exact .inr rfl)) (@pgs_nil _) (by rfl)) (by rfl)) (by rfl)) (by rfl) (by rfl)) (@pss_one _ _ _ (@ps_if _ _ _ _ _ _ _ _ (@PW.pt _ _ _ (@pw_and _ _ _ _ _ _ _ (@pt_val _ _ _ (@pe_dgetG _ _ _ _ _ _ hu1 (@pv _ 2 _ _ rfl (Or.inl rfl) rfl rfl) (@pv _ 3 _ _ rfl (Or.inl rfl) rfl rfl) (fun _ _ => rfl)) (by intro _; rfl)) (@pw_and1 _ _ _ _ (@PW.pt _ _ _ (@pw_or _ _ _ _ _ _ _ (@pt_cmpR _ _ _ _ _ _ _ _ op_isN (@pv _ 4 _ _ rfl (Or.inl rfl) rfl rfl) (@pe_non _ _ _) (nomark _)) (@pw_or1 _ _ _ _ (@pt_cmpR _ _ _ _ _ _ _ _ (op_inG hu1) (@pv _ 4 _ _ rfl (Or.inl rfl) rfl rfl) (@pv _ 6 _ _ rfl (Or.inr (Or.inl rfl)) rfl rfl) rfl))))))) (@pss_one _ _ _ (@ps_dputG _ _ _ _ _ _ _ _ _ hu1 (@pv _ 6 _ _ rfl (Or.inr (Or.inl rfl)) rfl rfl) (@pv _ 3 _ _ rfl (Or.inl rfl) rfl rfl) (@pe_bl _ _ _ _) rfl)) (@pss_nil _))) (by intro _; rfl)) (@pss_one _ _ _ (@ps_ret _ _ _ _ (@pe_lcomp _ _ _ _ _ _ _ (["_law_place"]) ([("_law_kept", 6)]) _ _ _ _ _ rfl (@pi_list _ _ _ _ (@pv _ 0 _ _ rfl (Or.inl rfl) rfl rfl)) ⟨rfl, by decide +kernel, by decide +kernel⟩ (caps_def (defScope s_f_law_some) ["_law_places_here", "_law_state", "_law_bits", "_law_name_here", "_law_behind", "_law_rank", "_law_kept"] rfl rfl (fun _ h => cell_has h) (by decide +kernel) (by decide +kernel) (by decide +kernel)) (fun _ _ _ => (@pg_name _ _ (0) _ (by show List.Nodup (["_law_place", "_law_kept"] : List Str); decide +kernel) rfl (Or.inl rfl) (by first | exact .inl rfl | exact .inr rfl))) (fun _ => fresh_name rfl) (fun _ _ _ => (@pts_one _ _ _ (@pt_cmpR _ _ _ _ _ _ _ _ (op_inG hu1) (@pe_ix _ _ _ _ _ _ _ (ix_tupK (K := K) rfl) (@pv _ 0 _ _ rfl (Or.inl rfl) rfl rfl) (@pe_int _ _ _ _) (fun _ _ => rfl)) (@pv _ 1 _ _ rfl (Or.inr (Or.inl rfl)) rfl rfl) rfl))) (fun _ _ _ => (@pv _ 0 _ _ rfl (Or.inl rfl) rfl rfl)) (by intro _; rfl)))))))), ?_⟩
  obtain ⟨p, st, pv, nk, bh, D, ms, js, t, n, rfl, hp, an, perm, W, hS, hn, hT, kk⟩ := h
  have few := W.few
  have hpst : p ≠ st := fun z => by rw [z, del_at] at hp; cases hp
  have hp0 : H p = some (.lst pv) := by rw [del_ne hpst] at hp; exact hp
  have hpl : pv.length = ms.length := by rw [an.1, perm.length_eq]
  have nP : ∀ {b u}, H b = some u → (∀ ps, u ≠ .tbl ps) → b ≠ tabP K "_law_some" := fun {b u} e hu z => by
    obtain ⟨ps, t'⟩ := hT.tbl
    rw [← z, e] at t'
    exact hu _ (Option.some.inj t')
  have tD : Tups H (del (del H st) (tabP K "_law_some")) := fun b xs e => by
    rw [del_ne (nP e fun ps z => by cases z), del_ne (fun z => by subst z; obtain ⟨_, _, _, _, h, _⟩ := hS; rw [h] at e; cases e)]
    exact e
  have anD : AN (PL nk bh D (del (del H st) (tabP K "_law_some"))) pv js := an.imp fun v i g => g.tups tD
  have sD : Same (del (del H st) (tabP K "_law_some")) H := del_same.trans del_same
  have dst : del (del H st) (tabP K "_law_some") st = none := del_free del_at
  have dtp : del (del H st) (tabP K "_law_some") (tabP K "_law_some") = none := del_at
  have dp : del (del H st) (tabP K "_law_some") p = some (.lst pv) := by rw [del_ne (nP hp0 fun ps z => by cases z)]; exact hp
  generalize del (del H st) (tabP K "_law_some") = Hd at tD anD sD dst dtp dp kk
  intro bp H1 g1 s1 e1
  have t1 : Same Hd H1 := sD.trans s1
  have dbp : Hd bp = none := sD.free g1
  have sbp : st ≠ bp := hS.ne g1
  refine ⟨_, rfl, p, rfl, ⟨_, SqL.of (t1 _ _ dp)⟩, for_list (xs := pv) (fun j σ Hx => ∃ (kvs : List (KD × V × V)) (u3 u4 u5 : Option V), σ = [some (.ref p), some (.ref st), some (.ref bp), u3, u4, u5, none] ∧ Same Hd Hx ∧ SR Hx st (n + j) ∧ TBL K Hx ∧ Hx bp = some (.dG kvs) ∧ kvs.length ≤ j ∧ ∀ i ∈ js.take j, ∃ b, vG kvs (.tup (nk i)) = some (.bl b)) ⟨[], _, _, _, rfl, t1, hS.same s1, hT.same s1, e1, Nat.le_refl _, fun i z => absurd z (by simp)⟩ (fun j σ Hx _ ⟨_, _, _, _, _, sx, _⟩ => SqL.of (sx _ _ dp)) ?_ ?_⟩
  · rintro j x σ Hx hx ⟨kvs, u3, u4, u5, rfl, sx, rx, tx, ex, hkl, hb⟩
    obtain ⟨m, em, pl⟩ := anD.at hx
    have hj : j < ms.length := by have := (List.getElem?_eq_some_iff.mp hx).1; omega
    obtain ⟨b, vn, vb, vk, rfl, eb, hn', hbk, hd⟩ := pl.tups sx.tups
    refine ⟨b, _, rfl, SqT.of eb, rfl, _, _, rfl, _, _, rfl, _, _, rfl, rfl, ?_⟩
    refine ⟨_, rfl, st, _, 3, rfl, rx, by omega, by omega, by omega, fun Hy r sy ry hr => ?_⟩
    have ty' : Tups Hx Hy := rx.cut sy
    have eyb : Hy bp = some (.dG kvs) := sy _ _ (by rw [del_ne sbp.symm]; exact ex)
    have tby : TBL K Hy := by
      obtain ⟨_, _, _, _, h, _⟩ := rx
      exact tx.cut h (fun ps z => by cases z) (fun φ z => by cases z) sy
    refine ⟨_, _, rfl, rfl, _, rfl, _, rfl, bp, kvs, .tup (nk m), rfl, eyb, hn'.tups ty', small1000 (by omega), ?_⟩
    refine ⟨pG kvs (.tup (nk m)) vn _, _, _, _, rfl, ((sx.cut dst).trans sy).wr dbp, ry.upd sbp, tby.wr eyb (fun ps z => by cases z) (fun φ z => by cases z), upd_same, Nat.le_trans (pG_len kvs _ _ _) (Nat.succ_le_succ hkl), fun i hi => ?_⟩
    rw [vG_put]
    by_cases ek : KD.tup (nk i) = KD.tup (nk m)
    · rw [if_pos ek]; exact ⟨_, rfl⟩
    · rw [if_neg ek]
      rw [List.take_add_one, em] at hi
      rcases List.mem_append.mp hi with z | z
      · exact hb i z
      · have z' : i = m := by simpa using z
        exact absurd (by rw [z']) ek
  rintro σ Hx ⟨kvs, u3, u4, u5, rfl, sx, rx, tx, ex, hkl, hb⟩
  rw [an.1, List.take_length] at hb
  have hjl : js.length = ms.length := perm.length_eq
  intro kp H2 g2 s2 e2
  have t2 := sx.trans s2
  have dkp : Hd kp = none := sx.free g2
  have tb2 := tx.same s2
  have nkb : kp ≠ bp := fun z => by rw [z, ex] at g2; cases g2
  refine ⟨_, rfl, tb2, fun H3 tb3 s3 => ?_⟩
  have n2 : ∀ {b u}, H2 b = some u → (∀ ps, u ≠ .tbl ps) → b ≠ tabP K "_law_some" := fun {b u} e hu z => by
    obtain ⟨ps, t'⟩ := tb2.tbl
    rw [← z, e] at t'
    exact hu _ (Option.some.inj t')
  have go3 : ∀ {b u}, H2 b = some u → (∀ ps, u ≠ .tbl ps) → H3 b = some u := fun {b u} e hu => del_same _ _ (s3 _ _ (by rw [del_ne (n2 e hu)]; exact e))
  have t3 : Same Hd H3 := ((t2.cut dtp).trans s3).trans del_same
  refine ⟨p, pv, js.map D, t, rfl, SqL.of (t3 _ _ dp), by rw [List.length_map, an.1], W.keys.perm (perm.map D), by omega, fun m y d H' Q' q1 q2 s q => ?_, fun q H4 ix g4 s4 six e4 => ?_⟩
  · obtain ⟨k, ek, pl⟩ := anD.at q1
    rw [List.getElem?_map, ek] at q2
    cases Option.some.inj q2
    obtain ⟨b, vn, vb, vk, rfl, h1, h2, h3, h4⟩ := pl.tups (t3.trans s).tups
    exact ⟨_, rfl, b, _, 2, _, rfl, rfl, SqT.of h1, rfl, q H' _ (Same.refl _) h4.dv⟩
  have hix : ∀ i ∈ ix, i < pv.length := fun i hi => by
    have := (six.1.mem_iff).mp hi
    rw [List.mem_range, List.length_map] at this
    rw [an.1]
    exact this
  have a2 := anD.ix ix hix
  rw [sort_by perm W.up six] at a2
  generalize ix.map (fun i => pv.getD i .non) = zs at e4 a2
  have hzl : zs.length = ms.length := a2.1
  have t4 := t3.trans s4
  have e3k : H3 kp = some (.dG []) := go3 e2 fun ps z => by cases z
  have e4k : H4 kp = some (.dG []) := s4 _ _ e3k
  have e4b : H4 bp = some (.dG kvs) := s4 _ _ (go3 (s2 _ _ ex) fun ps z => by cases z)
  have nqk : q ≠ kp := fun z => by rw [z, e3k] at g4; cases g4
  refine ⟨q, rfl, ⟨_, SqL.of e4⟩, for_list (xs := zs) (fun j σ H5 => ∃ (kv2 : List (KD × V × V)) (kept : Nat → Bool) (u3 u4 u5 : Option V), σ = [some (.ref p), some (.ref st), some (.ref bp), u3, u4, u5, some (.ref kp)] ∧ Same (del H4 kp) H5 ∧ H5 kp = some (.dG kv2) ∧ kv2.length ≤ j ∧ (∀ i ∈ ms, (vG kv2 (.tup (nk i))).isSome = kept i) ∧ (∀ i, kept i = true → i ∈ ms ∧ ∀ b, bh i = some b → kept b = true)) ⟨[], fun _ => false, _, _, _, rfl, del_same, e4k, Nat.le_refl _, fun i _ => rfl, fun i z => (by cases z)⟩ (fun j σ H5 _ ⟨_, _, _, _, _, _, s5, _⟩ => SqL.of (s5 _ _ (by rw [del_ne nqk]; exact e4))) ?_ ?_⟩
  · rintro j x σ H5 hx ⟨kv2, kept, w3, w4, w5, rfl, s5, e5, hk2, hks, hcl⟩
    obtain ⟨m, em, pl⟩ := a2.at hx
    have t5 : Same Hd H5 := (t4.cut dkp).trans s5
    have hmm : m ∈ ms := List.mem_of_getElem? em
    have hj : j < ms.length := (List.getElem?_eq_some_iff.mp em).1
    obtain ⟨b, vn, vb, vk, rfl, eb, hn', hbk, hd⟩ := pl.tups t5.tups
    obtain ⟨bt, hbt⟩ := hb m (perm.mem_iff.mpr hmm)
    have e5b : H5 bp = some (.dG kvs) := s5 _ _ (by rw [del_ne nkb.symm]; exact e4b)
    have skip : ∃ (kv3 : List (KD × V × V)) (kept3 : Nat → Bool) (w3 w4 w5 : Option V), [some (.ref p), some (.ref st), some (.ref bp), some vn, some vb, some vk, some (.ref kp)] = [some (.ref p), some (.ref st), some (.ref bp), w3, w4, w5, some (.ref kp)] ∧ Same (del H4 kp) H5 ∧ H5 kp = some (.dG kv3) ∧ kv3.length ≤ j + 1 ∧ (∀ i ∈ ms, (vG kv3 (.tup (nk i))).isSome = kept3 i) ∧ (∀ i, kept3 i = true → i ∈ ms ∧ ∀ b, bh i = some b → kept3 b = true) := ⟨kv2, kept, _, _, _, rfl, s5, e5, by omega, hks, hcl⟩
    have fin : (∀ b', bh m = some b' → kept b' = true) → ∃ (kv3 : List (KD × V × V)) (kept3 : Nat → Bool) (w3 w4 w5 : Option V), [some (.ref p), some (.ref st), some (.ref bp), some vn, some vb, some vk, some (.ref kp)] = [some (.ref p), some (.ref st), some (.ref bp), w3, w4, w5, some (.ref kp)] ∧ Same (del H4 kp) (L2.upd H5 kp (.dG (pG kv2 (.tup (nk m)) vn (.bl true)))) ∧ (L2.upd H5 kp (.dG (pG kv2 (.tup (nk m)) vn (.bl true)))) kp = some (.dG kv3) ∧ kv3.length ≤ j + 1 ∧ (∀ i ∈ ms, (vG kv3 (.tup (nk i))).isSome = kept3 i) ∧ (∀ i, kept3 i = true → i ∈ ms ∧ ∀ b, bh i = some b → kept3 b = true) := fun hbb => by
      refine ⟨_, fun i => kept i || decide (i = m), _, _, _, rfl, s5.wr del_at, upd_same, Nat.le_trans (pG_len kv2 _ _ _) (Nat.succ_le_succ hk2), fun i hi => ?_, fun i hi => ?_⟩
      · rw [vG_put]
        by_cases ek : KD.tup (nk i) = KD.tup (nk m)
        · have ei := W.inj i hi m hmm (KD.tup.inj ek)
          rw [if_pos ek]
          show true = (kept i || decide (i = m))
          rw [decide_eq_true ei, Bool.or_true]
        · rw [if_neg ek, hks i hi]
          show kept i = (kept i || decide (i = m))
          rw [decide_eq_false (show ¬ i = m from fun z => ek (by rw [z])), Bool.or_false]
      · have hi' : kept i = true ∨ i = m := by simpa using hi
        rcases hi' with z | z
        · exact ⟨(hcl i z).1, fun b hb' => by show (kept b || decide (b = m)) = true; rw [(hcl i z).2 b hb']; rfl⟩
        · subst z
          exact ⟨hmm, fun b hb' => by show (kept b || decide (b = i)) = true; rw [hbb b hb']; rfl⟩
    refine ⟨b, _, rfl, SqT.of eb, rfl, _, _, rfl, _, _, rfl, _, _, rfl, rfl, ?_⟩
    refine ⟨_, rfl, _, rfl, bp, kvs, .tup (nk m), _, rfl, Rd.of e5b, hn', hbt, bt, rfl, ?_⟩
    cases bt with
    | false => exact itF rfl (itF rfl skip)
    | true =>
      refine itT rfl ?_
      cases hbm : bh m with
      | none =>
        rw [hbm] at hbk
        have z : vb = .non := hbk
        subst z
        refine ⟨_, rfl, rfl, _, rfl, ?_⟩
        refine itT rfl (itT rfl ?_)
        exact ⟨_, rfl, _, rfl, kp, kv2, .tup (nk m), rfl, e5, hn', small1000 (by omega), fin fun b' z => by rw [hbm] at z; cases z⟩
      | some b' =>
        rw [hbm] at hbk
        obtain ⟨b2, rfl, hb2⟩ := id hbk
        refine ⟨_, rfl, rfl, _, rfl, ?_⟩
        refine itF rfl ?_
        refine ⟨_, rfl, _, rfl, kp, kv2, .tup (nk b'), rfl, Rd.of e5, hbk, _, rfl, ?_⟩
        have hbi := hks b' (Rga.bh_in W.wf hmm hbm)
        cases hkb : kept b' with
        | false => exact itF (hbi.trans hkb) skip
        | true => exact itT (hbi.trans hkb) ⟨_, rfl, _, rfl, kp, kv2, .tup (nk m), rfl, e5, hn', small1000 (by omega), fin fun b'' z => by rw [hbm] at z; cases z; exact hkb⟩
  rintro σ H5 ⟨kv2, kept, w3, w4, w5, rfl, s5, e5, hk2, hks, hcl⟩
  have t5 : Same Hd H5 := (t4.cut dkp).trans s5
  refine ⟨_, rfl, p, rfl, ⟨_, SqL.of (t5 _ _ dp)⟩, lc_any (xs := pv) (big (by omega)) (fun j vs H' => Same H5 H' ∧ AN (PL nk bh D H') vs ((js.take j).filter kept)) ⟨Same.refl _, .nil⟩ (fun _ _ H' s' => SqL.of ((t5.trans s'.1) _ _ dp)) (fun j x vs H' K1 K0 hx s' k1 k0 => ?_) fun H' np vs s' hyl hq => ?_⟩
  · obtain ⟨s', av⟩ := s'
    obtain ⟨m, em, pl⟩ := anD.at hx
    have pl' := pl.tups (t5.trans s').tups
    obtain ⟨b, vn, vb, vk, rfl, h1, h2, h3, h4⟩ := id pl'
    have hmm : m ∈ ms := perm.mem_iff.mp (List.mem_of_getElem? em)
    refine ⟨_, rfl, b, _, 0, _, rfl, rfl, SqT.of h1, rfl, _, rfl, kp, kv2, .tup (nk m), rfl, Rd.of (s' _ _ e5), h2, _, rfl, ?_⟩
    have htk : js.take (j + 1) = js.take j ++ [m] := by rw [List.take_add_one, em]; rfl
    have hki := hks m hmm
    cases hk : kept m with
    | true =>
      refine itT (hki.trans hk) ⟨_, rfl, k1 _ _ ⟨s', ?_⟩⟩
      rw [htk]
      exact AN.pick (vs := vs) av pl' hk
    | false =>
      refine itF (hki.trans hk) (k0 _ ⟨s', ?_⟩)
      rw [htk]
      exact av.skip (by rw [hk]; decide)
  obtain ⟨s', av⟩ := s'
  rw [an.1, List.take_length] at av
  have nH : Same H' (L2.upd H' np (.lst vs)) := Same.new hq
  obtain ⟨a, b, c, e, hst, hc0, hc1⟩ := rx
  have st3 : H3 st = some (.lst [.int a, .bl b, .int c, .int e]) := go3 (s2 _ _ hst) fun ps z => by cases z
  have nks : st ≠ kp := fun z => by rw [← z, hst] at g2; cases g2
  have st5 : H5 st = some (.lst [.int a, .bl b, .int c, .int e]) := s5 _ _ (by rw [del_ne nks]; exact s4 _ _ st3)
  have st6 := s' _ _ st5
  have nps : np ≠ st := fun z => by rw [z, st6] at hq; cases hq
  refine kk _ np vs kept ((t5.trans s').trans nH) ⟨a, b, c, e, nH _ _ st6, hc0, ?_⟩ ?_ (by rw [del_ne nps]; exact upd_same) (av.imp fun v i g => g.tups nH.tups) fun k hk => (hcl k hk).2
  · rw [hpl] at hc1
    omega
  · exact (((tb3.same s4).cut e4k (fun ps z => by cases z) (fun φ z => by cases z) s5).same s').same nH
theorem ok_f_law_free (T : Txt K mg d tk) (gf_law_draw : FnOk P w K mg base CX0 1 d.f_law_draw d.f_law_drawd ["_law_state", "_law_many"] (sp_f_law_draw K)) : FnOk P w K mg base CX0 2 d.f_law_free d.f_law_freed ["_law_places_here", "_law_some_here", "_law_state"] (sp_f_law_free K) := by
  refine T.F_f_law_free.ok sc_f_law_free (fun vs H Q E h => len_f_law_free h) (fun cdv A outer s H vs Q E hr h => ?_)
  have hu : (A.deeper (envOfC "_law_free" (defScope s_f_law_free) s.heap.objs.size d.f_law_free cdv)).units < cLine := hr.units0
  refine ⟨_, (@pss_cons _ _ _ _ _ (@ps_setC _ (3) _ _ _ _ _ _ _ _ _ (["_law_place"]) ([]) _ _ _ _ _ sc_f_law_free.nd rfl (Or.inl rfl) rfl (@pi_list _ _ _ _ (@pv _ 0 _ _ rfl (Or.inl rfl) rfl rfl)) ⟨rfl, by decide +kernel, by decide +kernel⟩ (caps0 (by decide +kernel)) (fun _ _ _ => (@pg_name _ _ (0) _ (by show List.Nodup (["_law_place"] : List Str); decide +kernel) rfl (Or.inl rfl) (by first | exact .inl rfl | exact .inr rfl))) (fun _ => fresh_name rfl) (fun _ _ _ => (@pts_nil _)) (fun _ _ _ => (@pe_ix _ _ _ _ _ _ _ (ix_tupK (K := K) rfl) (@pv _ 0 _ _ rfl (Or.inl rfl) rfl rfl) (@pe_int _ _ _ _) (fun _ _ => rfl))) (by intro _; rfl) (by rfl) (by first | exact .inl rfl | exact .inr rfl)) (@pss_cons _ _ _ _ _ (@ps_set _ _ (4) _ _ _ _ sc_f_law_free.nd rfl (Or.inl rfl) (@pe_callB _ _ _ _ _ _ _ _ _ (call_maxT rfl (hu61 hr)) (by rfl) T.b_max boot_max (@pa_cons _ _ _ _ _ (@pe_op _ _ _ _ _ _ _ _ op_catA (@pe_lcomp _ _ _ _ _ _ _ (["_law_place"]) ([]) _ _ _ _ _ rfl (@pi_list _ _ _ _ (@pv _ 1 _ _ rfl (Or.inl rfl) rfl rfl)) ⟨rfl, by decide +kernel, by decide +kernel⟩ (caps0 (by decide +kernel)) (fun _ _ _ => (@pg_name _ _ (0) _ (by show List.Nodup (["_law_place"] : List Str); decide +kernel) rfl (Or.inl rfl) (by first | exact .inl rfl | exact .inr rfl))) (fun _ => fresh_name rfl) (fun _ _ _ => (@pts_nil _)) (fun _ _ _ => (@pe_ix _ _ _ _ _ _ _ (ix_tupK (K := K) rfl) (@pv _ 0 _ _ rfl (Or.inl rfl) rfl rfl) (@pe_int _ _ _ _) (fun _ _ => rfl))) (by intro _; rfl)) (@pe_lstA _ _ _ _ (@pa_cons _ _ _ _ _ (@pe_tupA _ _ _ _ _ (@pa_cons _ _ _ _ _ (@pe_int _ _ _ _) (@pa_cons _ _ _ _ _ (@pe_int _ _ _ _) (@pa_cons _ _ _ _ _ (@pe_int _ _ _ _) (@pa_nil _) (by rfl)) (by rfl)) (by rfl))) (@pa_nil _) (by rfl)))) (@pa_nil _) (by rfl)) (by decide) (by decide) (by rfl) (by rfl)) (by rfl) (by first | exact .inl rfl | exact .inr rfl)) (@pss_cons _ _ _ _ _ (@ps_set _ _ (5) _ _ _ _ sc_f_law_free.nd rfl (Or.inl rfl) (@pe_tupA _ _ _ _ _ (@pa_cons _ _ _ _ _ (@pe_op _ _ _ _ _ _ _ _ op_add (@pe_ix _ _ _ _ _ _ _ ix_tup (@pv _ 4 _ _ rfl (Or.inl rfl) rfl rfl) (@pe_int _ _ _ _) (fun _ _ => rfl)) (@pe_call _ _ _ _ _ _ _ _ _ _ _ _ _ _ _ _ gf_law_draw (hr.mono (by decide)) (by rfl) T.m_f_law_draw T.k_f_law_draw T.d_f_law_draw .nil pass0 (@pa_cons _ _ _ _ _ (@pv _ 2 _ _ rfl (Or.inl rfl) rfl rfl) (@pa_cons _ _ _ _ _ (@pe_int _ _ _ _) (@pa_nil _) (by rfl)) (by rfl)) (by decide) (by rfl) (by rfl))) (@pa_cons _ _ _ _ _ (@pe_op _ _ _ _ _ _ _ _ op_add (@pe_int _ _ _ _) (@pe_call _ _ _ _ _ _ _ _ _ _ _ _ _ _ _ _ gf_law_draw (hr.mono (by decide)) (by rfl) T.m_f_law_draw T.k_f_law_draw T.d_f_law_draw .nil pass0 (@pa_cons _ _ _ _ _ (@pv _ 2 _ _ rfl (Or.inl rfl) rfl rfl) (@pa_cons _ _ _ _ _ (@pe_int _ _ _ _) (@pa_nil _) (by rfl)) (by rfl)) (by decide) (by rfl) (by rfl))) (@pa_cons _ _ _ _ _ (@pe_int _ _ _ _) (@pa_nil _) (by rfl)) (by rfl)) (by rfl))) (by rfl) (by first | exact .inl rfl | exact .inr rfl)) (@pss_cons _ _ _ _ _ (@ps_while _ _ _ _ _ _ PassesOwn.never (@PW.pt _ _ _ (@pw_or _ _ _ _ _ _ _ (@pt_cmpR _ _ _ _ _ _ _ _ (op_inD (hu63 hr)) (@pv _ 5 _ _ rfl (Or.inl rfl) rfl rfl) (@pv _ 3 _ _ rfl (Or.inl rfl) rfl rfl) rfl) (@pw_or1 _ _ _ _ (@pt_cmpR _ _ _ _ _ _ _ _ (op_leT (hu2 hr)) (@pv _ 5 _ _ rfl (Or.inl rfl) rfl rfl) (@pv _ 4 _ _ rfl (Or.inl rfl) rfl rfl) (nomark _))))) (@pss_one _ _ _ (@ps_set _ _ (5) _ _ _ _ sc_f_law_free.nd rfl (Or.inl rfl) (@pe_tupA _ _ _ _ _ (@pa_cons _ _ _ _ _ (@pe_ix _ _ _ _ _ _ _ ix_tup (@pv _ 5 _ _ rfl (Or.inl rfl) rfl rfl) (@pe_int _ _ _ _) (fun _ _ => rfl)) (@pa_cons _ _ _ _ _ (@pe_op _ _ _ _ _ _ _ _ op_add (@pe_ix _ _ _ _ _ _ _ ix_tup (@pv _ 5 _ _ rfl (Or.inl rfl) rfl rfl) (@pe_int _ _ _ _) (fun _ _ => rfl)) (@pe_int _ _ _ _)) (@pa_cons _ _ _ _ _ (@pe_int _ _ _ _) (@pa_nil _) (by rfl)) (by rfl)) (by rfl))) (by rfl) (by first | exact .inl rfl | exact .inr rfl)))) (@pss_one _ _ _ (@ps_ret _ _ _ _ (@pv _ 5 _ _ rfl (Or.inl rfl) rfl rfl))))))), ?_⟩
  obtain ⟨p, sp, st, pv, sv, nk, bh, D, js, ks, I, n, rfl, hp, hs, an, as, hD, hI, hsub, hjl, hkl, hS, hn, kk⟩ := h
  have hpst : p ≠ st := fun z => by rw [z, del_at] at hp; cases hp
  have hsst : sp ≠ st := fun z => by rw [z, del_at] at hs; cases hs
  have hp0 : H p = some (.lst pv) := by rw [del_ne hpst] at hp; exact hp
  have hs0 : H sp = some (.lst sv) := by rw [del_ne hsst] at hs; exact hs
  have hpl := an.1
  have hsl := as.1
  refine ⟨_, rfl, p, rfl, ⟨_, SqL.of hp0⟩, lc_any (xs := pv) (big (by omega)) (fun j vs H' => Same H H' ∧ DTs H' vs ((js.take j).map D)) ⟨Same.refl _, .nil⟩ (fun _ _ H' s' => SqL.of (s'.1 _ _ hp0)) (fun j x vs H' K1 K0 hx s' k1 k0 => ?_) fun Ha kq kv s' hya hqa => ?_⟩
  · obtain ⟨s', dv'⟩ := s'
    obtain ⟨k, ek, pl⟩ := an.at hx
    obtain ⟨b, vn, vb, vk, rfl, h1, h2, h3, h4⟩ := pl.tups s'.tups
    refine iteT (B := K0 H') ?_
    refine ⟨_, rfl, b, _, 2, _, rfl, rfl, SqT.of h1, rfl, k1 _ _ ⟨s', ?_⟩⟩
    rw [List.take_add_one, ek, List.map_append]
    exact dts_snoc h4 dv'
  obtain ⟨sa, dk⟩ := s'
  rw [hpl, List.take_length] at dk
  have nA : Same Ha (L2.upd Ha kq (.lst kv)) := Same.new hqa
  have ekq : (L2.upd Ha kq (.lst kv)) kq = some (.lst kv) := upd_same
  have sA := sa.trans nA
  have dkA := dk.tups nA.tups
  have fkq : H kq = none := sa.free hqa
  generalize L2.upd Ha kq (.lst kv) = HA at ekq sA dkA nA
  refine ⟨_, rfl, sp, rfl, ⟨_, SqL.of (sA _ _ hs0)⟩, lc_any (xs := sv) (big (by omega)) (fun j vs H' => Same HA H' ∧ DTs H' vs ((ks.take j).map D)) ⟨Same.refl _, .nil⟩ (fun _ _ H' s' => SqL.of ((sA.trans s'.1) _ _ hs0)) (fun j x vs H' K1 K0 hx s' k1 k0 => ?_) fun Hb np vs s' hyb hqb => ?_⟩
  · obtain ⟨s', dv'⟩ := s'
    obtain ⟨k, ek, pl⟩ := as.at hx
    obtain ⟨b, vn, vb, vk, rfl, h1, h2, h3, h4⟩ := pl.tups (sA.trans s').tups
    refine iteT (B := K0 H') ?_
    refine ⟨_, rfl, b, _, 2, _, rfl, rfl, SqT.of h1, rfl, k1 _ _ ⟨s', ?_⟩⟩
    rw [List.take_add_one, ek, List.map_append]
    exact dts_snoc h4 dv'
  obtain ⟨sb, dvs⟩ := s'
  rw [hsl, List.take_length] at dvs
  have nB : Same Hb (L2.upd Hb np (.lst vs)) := Same.new hqb
  refine ⟨szOk rfl, fun t1 Hc gc sc ec => ?_⟩
  refine ⟨szOk rfl, fun l1 Hd gd sd ed1 => ?_⟩
  refine ⟨np, l1, _, _, rfl, rfl, sd _ _ (sc _ _ upd_same), ed1, big (by show vs.length + 1 ≤ 1000; omega), fun mq He ge se ee => ?_⟩
  have tHe := ((nB.trans sc).trans sd).trans se
  have dall : DTs He (vs ++ [.ref t1]) ((ks.map I ++ [[0, 0, 0]]).map fun (ks : List Int) => PyData.tuple (ks.map PyData.int)) := by
    rw [List.map_append, List.map_map]
    refine dts_snoc (.tup (se _ _ (sd _ _ ec)) (.cons (.int _) (.cons (.int _) (.cons (.int _) .nil)))) ?_
    have e : ks.map D = ks.map ((fun (ks : List Int) => PyData.tuple (ks.map PyData.int)) ∘ I) := List.map_congr_left fun i _ => hD i
    rw [← e]
    exact dvs.tups tHe.tups
  refine ⟨mq, vs ++ [.ref t1], ks.map I ++ [[0, 0, 0]], rfl, SqL.of ee, dall.dv, by rw [List.length_append, List.length_singleton]; omega, fun m v ls hv hls hmax => ?_⟩
  have dtv := dts_get dall hv (d := .tuple (ls.map PyData.int)) (by rw [List.getElem?_map, hls]; rfl)
  obtain ⟨r0, r1, rest, rfl, hr1⟩ : ∃ r0 r1 rest, ls = r0 :: r1 :: rest ∧ r1 < 9000000 := by
    rcases List.mem_append.mp (List.mem_of_getElem? hls) with z | z
    · obtain ⟨i, hi, rfl⟩ := List.mem_map.mp z
      exact hI i (hsub i hi)
    · rw [List.mem_singleton.mp z]
      exact ⟨_, _, _, rfl, by decide⟩
  obtain ⟨rb, rfl, erb⟩ : ∃ rb, v = .ref rb ∧ He rb = some (.tup ((r0 :: r1 :: rest).map V.int)) := by
    cases dtv with
    | tup h1 h2 =>
      rw [dts_ints h2] at h1
      exact ⟨_, rfl, h1⟩
  have sAe : Same HA He := sb.trans tHe
  have rE := hS.same (sA.trans sAe)
  refine ⟨_, rfl, rb, _, 0, .int r0, rfl, rfl, SqT.of erb, atI_nat (j := 0) rfl, _, rfl, st, _, 3, rfl, rE, by omega, by omega, by omega, fun Jf d1 sf rf hd1 => ?_⟩
  refine ⟨_, _, rfl, rfl, _, rfl, st, _, 3, rfl, rf, by omega, by omega, by omega, fun Jg d2 sg rg hd2 => ?_⟩
  refine ⟨_, _, rfl, rfl, szOk rfl, fun rq Jh gh sh eh => ?_⟩
  have tef : Tups He Jf := rE.cut sf
  have tfg : Tups Jf Jg := rf.cut sg
  have teh : Tups He Jh := (tef.trans tfg).trans sh.tups
  have cutS : ∀ {X : Hp}, Same H X → Same (del H st) X := fun s => del_same.trans s
  have s0 : Same (del H st) Jh := ((((((cutS (sA.trans sAe)).cut del_at).trans sf).cut del_at).trans sg).trans sh)
  have nkst : kq ≠ st := fun z => by
    obtain ⟨_, _, _, _, h, _⟩ := hS
    rw [z, h] at fkq
    cases fkq
  have ekh : Jh kq = some (.lst kv) := sh _ _ (sg _ _ (by rw [del_ne nkst]; exact sf _ _ (by rw [del_ne nkst]; exact sAe _ _ ekq)))
  have dkh : DTs Jh kv (js.map D) := dkA.tups (sAe.tups.trans teh)
  have hlt : ltD (.tuple ((r0 :: r1 :: rest).map PyData.int)) (.tuple [.int (r0 + (d1 : Int)), .int (9000000 + (d2 : Int)), .int 0]) = true := far_up (by omega)
  have dne : ∀ i ∈ js, D i ≠ .tuple [.int (r0 + (d1 : Int)), .int (9000000 + (d2 : Int)), .int 0] := fun i hi z => by
    obtain ⟨x, y, r, e, hy⟩ := hI i hi
    rw [hD i, e] at z
    injection z with z
    injection z with _ z
    injection z with z _
    injection z with z
    omega
  refine ⟨fun mm σ H5 => σ = [some (.ref p), some (.ref sp), some (.ref st), some (.ref kq), some (.ref rb), some (.ref rq)] ∧ H5 = Jh, ⟨0, rfl, rfl⟩, ?_⟩
  rintro mm σ H5 ⟨rfl, rfl⟩
  have dr : DT H5 (.ref rq) (.tuple (([r0 + (d1 : Int), 9000000 + (d2 : Int), 0] : List Int).map PyData.int)) := .tup eh (.cons (.int _) (.cons (.int _) (.cons (.int _) .nil)))
  have lay1 : ∀ d ∈ js.map D, d.canLay0 = true := fun d hd => by
    obtain ⟨i, hi, rfl⟩ := List.mem_map.mp hd
    rw [hD i]
    exact ints_lay _
  refine ⟨_, rfl, _, rfl, .tuple (([r0 + (d1 : Int), 9000000 + (d2 : Int), 0] : List Int).map PyData.int), kq, js.map D, kv, dr.dv, rfl, .inl (SqL.of ekh), dkh.dv, rfl, lays_all lay1, (by show 1 ≤ _; decide), _, rfl, ?_⟩
  have hany : ((js.map D).any fun d => PyData.eqv d (.tuple (([r0 + (d1 : Int), 9000000 + (d2 : Int), 0] : List Int).map PyData.int))) = false := by
    rw [List.any_eq_false]
    intro d hd
    obtain ⟨i, hi, rfl⟩ := List.mem_map.mp hd
    intro z
    have z' := (sk_eq (D i) _ (by rw [hD i, sk]; exact ints_sk _ _)).mp z
    exact dne i hi z'
  refine itF hany ?_
  refine ⟨_, rfl, _, rfl, [r0 + (d1 : Int), 9000000 + (d2 : Int), 0], r0 :: r1 :: rest, dr.dv, (dtv.tups teh).dv, _, rfl, ?_⟩
  refine itF (by rw [show ltD (.tuple ((r0 :: r1 :: rest).map PyData.int)) (.tuple (([r0 + (d1 : Int), 9000000 + (d2 : Int), 0] : List Int).map PyData.int)) = true from hlt]; rfl) ?_
  refine ⟨_, rfl, kk _ rq _ _ s0 (rg.same sh) eh (fun i hi => ?_) dne⟩
  have hle := hmax (I i) (List.mem_append_left _ (List.mem_map.mpr ⟨i, hi, rfl⟩))
  rw [hD i]
  rcases ltD_nt (.tuple ((r0 :: r1 :: rest).map PyData.int)) (.tuple ((I i).map PyData.int)) (.tuple [.int (r0 + (d1 : Int)), .int (9000000 + (d2 : Int)), .int 0]) (by rw [sk]; exact ints_sk _ _) (by rw [sk]; exact ints_sk _ [r0 + (d1 : Int), 9000000 + (d2 : Int), 0]) (by rw [sk]; exact ints_sk _ [r0 + (d1 : Int), 9000000 + (d2 : Int), 0]) hlt with z | z
  · rw [hle] at z; cases z
  · exact z
theorem ok_ffollowers_of (T : Txt K mg d tk) (gfkey_of_place : FnOk P w K mg base CX0 1 d.fkey_of_place d.fkey_of_placed ["place"] (sp_fkey_of_place K)) : FnOk P w K mg base CX0 3 d.ffollowers_of d.ffollowers_ofd ["places"] (sp_ffollowers_of K) := by
  refine T.F_ffollowers_of.ok sc_ffollowers_of (fun vs H Q E h => len_ffollowers_of h) (fun cdv A outer s H vs Q E hr h => ?_)
  have hu : (A.deeper (envOfC "followers_of" (defScope s_ffollowers_of) s.heap.objs.size d.ffollowers_of cdv)).units < cLine := hr.units0
  have hu1 : (A.deeper (envOfC "followers_of" (defScope s_ffollowers_of) s.heap.objs.size d.ffollowers_of cdv)).units + 1 < cLine := hu_of hr
  refine ⟨_, (@pss_cons _ _ _ _ _ (@ps_set _ _ (1) _ _ _ _ sc_ffollowers_of.nd rfl (Or.inl rfl) (@pe_dctG _ _) (by rfl) (by first | exact .inl rfl | exact .inr rfl)) (@pss_cons _ _ _ _ _ (@ps_for _ _ _ _ _ _ _ _ PassesOwn.never rfl (@pi_list _ _ _ _ (@pe_sortK _ _ _ _ _ _ _ _ _ _ _ _ _ _ gfkey_of_place (hr.mono (by decide)) (by rfl) T.b_sorted boot_sorted (by rfl) T.m_fkey_of_place T.d_fkey_of_place rfl (@pa_cons _ _ _ _ _ (@pv _ 0 _ _ rfl (Or.inl rfl) rfl rfl) (@pa_nil _) (by rfl)) (by decide) (by decide) (by rfl) (by rfl))) (@pg_name _ _ (2) _ sc_ffollowers_of.nd rfl (Or.inl rfl) (by first | exact .inl rfl | exact .inr rfl)) (@pss_one _ _ _ (@ps_expr _ _ _ _ (@pe_bm _ _ _ _ _ _ _ _ _ _ _ _ PySem.F.plainAttrs_list PySem.F.slot_list_append PySem.F.type_list_append mt_append (@pe_bm _ _ _ _ _ _ _ _ _ _ _ _ PySem.F.plainAttrs_dict PySem.F.slot_dict_setdefault PySem.F.type_dict_setdefault (mt_setdefG hu1) (@pv _ 1 _ _ rfl (Or.inl rfl) rfl rfl) (@pa_cons _ _ _ _ _ (@pe_ix _ _ _ _ _ _ _ ix_tup (@pv _ 2 _ _ rfl (Or.inl rfl) rfl rfl) (@pe_int _ _ _ _) (fun _ _ => rfl)) (@pa_cons _ _ _ _ _ (@pe_lstA _ _ _ _ (@pa_nil _)) (@pa_nil _) (by rfl)) (by rfl)) (by rfl) (by rfl) (by rfl) (by rfl) (by rfl)) (@pa_cons _ _ _ _ _ (@pe_ix _ _ _ _ _ _ _ ix_tup (@pv _ 2 _ _ rfl (Or.inl rfl) rfl rfl) (@pe_int _ _ _ _) (fun _ _ => rfl)) (@pa_nil _) (by rfl)) (by rfl) (by rfl) (by rfl) (by rfl) (by rfl)) (by rfl))) (by intro _; rfl)) (@pss_one _ _ _ (@ps_ret _ _ _ _ (@pv _ 1 _ _ rfl (Or.inl rfl) rfl rfl))))), ?_⟩
  obtain ⟨p, ys, nk, bh, D, ms, js, t, rfl, hp, an, perm, W, kk⟩ := h
  intro dq H1 g1 s1 e1
  have hyl : ys.length = ms.length := by rw [an.1, perm.length_eq]
  have few := W.few
  refine ⟨_, rfl, p, ys, js.map D, t, rfl, hp.same s1, by rw [List.length_map, an.1], W.keys.perm (perm.map D), by omega, fun m y d H' Q' q1 q2 s q => ?_, fun q H2 ix g2 s2 six e2 => ?_⟩
  · obtain ⟨k, ek, pl⟩ := an.at q1
    rw [List.getElem?_map, ek] at q2
    cases Option.some.inj q2
    exact ⟨y, nk, bh, D, k, rfl, pl.tups (s1.trans s).tups, fun kv hk => q H' _ (Same.refl _) hk.dv⟩
  have hix : ∀ i ∈ ix, i < ys.length := fun i hi => by
    have := (six.1.mem_iff).mp hi
    rw [List.mem_range, List.length_map] at this
    rw [an.1]
    exact this
  have a2 := an.ix ix hix
  rw [sort_by perm W.up six] at a2
  generalize ix.map (fun i => ys.getD i .non) = zs at e2 a2
  have hzl : zs.length = ms.length := a2.1
  have s02 := s1.trans s2
  have fq : H q = none := s1.free g2
  refine ⟨q, rfl, ⟨_, SqL.of e2⟩, for_list (xs := zs) (fun j σ H3 => ∃ kvs u2, σ = [some (.ref p), some (.ref dq), u2] ∧ Same H H3 ∧ H3 q = some (.lst zs) ∧ FD nk bh ms (ms.take j) H H3 dq kvs ∧ kvs.length ≤ j ∧ ∀ k, vG kvs k ≠ some (.ref q)) ⟨[], none, rfl, s02, e2, ⟨s2 _ _ e1, g1, fun k _ => .inl ⟨rfl, rfl⟩, fun k k' q z => (by cases z), fun k q z => (by cases z)⟩, Nat.le_refl _, fun k z => (by cases z)⟩ (fun j σ H3 _ ⟨_, _, _, _, e, _⟩ => SqL.of e) ?_ ?_⟩
  · rintro j x σ H3 hx ⟨kvs, u2, rfl, s3, eq, fd, hkl, nq⟩
    obtain ⟨m, em, pl⟩ := a2.at hx
    have hmm : m ∈ ms := List.mem_of_getElem? em
    have hj : j < ms.length := (List.getElem?_eq_some_iff.mp em).1
    have htk : ms.take (j + 1) = ms.take j ++ [m] := by rw [List.take_add_one, em]; rfl
    have hb : ∀ i, bh m = some i → i ∈ ms := fun i e => Rga.bh_in W.wf hmm e
    obtain ⟨b, vn, vb, vk, rfl, eb, hn, hbk, hd⟩ := pl.tups s3.tups
    refine ⟨_, rfl, .inr (.inr (.inl ⟨rfl, .inr (.inr ⟨kvs, fd.has⟩)⟩)), _, rfl, b, _, 1, _, rfl, rfl, SqT.of eb, rfl, szOk rfl, fun z0 H4 g4 s4 e4 => ?_⟩
    have fd4 := fd.same s4
    have t4 := s3.trans s4
    have f0 : H z0 = none := s3.free g4
    refine ⟨dq, kvs, kd nk (bh m), vb, .ref z0, rfl, rfl, fd4.has, hbk.tups s4.tups, small1000 (by omega), fun u hu => ?_, fun hu => ?_⟩
    · rcases fd4.each (bh m) hb with ⟨h1, _⟩ | ⟨q', vs, h1, h2, h3, h4⟩
      · rw [h1] at hu; cases hu
      · rw [h1] at hu
        cases hu
        have vl : vs.length ≤ 63 := by
          rw [h3.1]
          unfold kids
          exact Nat.le_trans (List.length_filter_le _ _) (by rw [List.length_take]; omega)
        refine ⟨.inl ⟨rfl, _, SqL.of h2⟩, _, rfl, b, _, 0, _, rfl, rfl, SqT.of (s4 _ _ eb), rfl, q', _, _, rfl, rfl, h2, small1000 (by omega), ?_⟩
        refine ⟨kvs, _, rfl, t4.wr h4, ?_, ?_, by omega, nq⟩
        · rw [upd_ne (fun z => nq _ (by rw [z]; exact h1))]
          exact s4 _ _ eq
        · rw [htk]
          exact fd4.old W.inj hb h1 h2 (hn.tups s4.tups)
    · have nz : z0 ≠ dq := fun z => by rw [z, fd.has] at g4; cases g4
      refine ⟨.inl ⟨rfl, _, SqL.of (by rw [upd_ne nz]; exact e4)⟩, _, rfl, b, _, 0, _, rfl, rfl, SqT.of (Tups.wd fd4.has _ _ (s4 _ _ eb)), rfl, z0, _, _, rfl, rfl, (by rw [upd_ne nz]; exact e4), small1000 (by show 0 ≤ _; omega), ?_⟩
      have hqn : ∀ k, vG kvs k ≠ some (.ref z0) := fun k z => by
        obtain ⟨xs, y⟩ := fd.live k z0 z
        rw [y] at g4
        cases g4
      refine ⟨pG kvs (kd nk (bh m)) vb (.ref z0), _, rfl, (t4.wr g1).wr f0, ?_, ?_, Nat.le_trans (pG_len kvs _ _ _) (Nat.succ_le_succ hkl), fun k z => ?_⟩
      · have n1 : q ≠ z0 := fun z => by rw [← z, eq] at g4; cases g4
        have n2 : q ≠ dq := fun z => by rw [z, fd.has] at eq; cases eq
        rw [upd_ne n1, upd_ne n2]
        exact s4 _ _ eq
      · rw [htk]
        exact fd4.first W.inj hb hu f0 e4 hqn (hn.tups s4.tups)
      · rw [vG_put] at z
        by_cases ek : k = kd nk (bh m)
        · rw [if_pos ek] at z
          cases z
          rw [eq] at g4
          cases g4
        · rw [if_neg ek] at z
          exact nq k z
  · rintro σ H3 ⟨kvs, u2, rfl, s3, eq, fd, hkl, nq⟩
    rw [hzl, List.take_length] at fd
    exact ⟨_, rfl, kk H3 dq kvs s3 fd⟩
theorem ok_f_law_places (T : Txt K mg d tk) (gf_law_begun : FnOk P w K mg base CX0 1 d.f_law_begun d.f_law_begund ["_law_script", "_law_k"] (sp_f_law_begun K)) (gf_law_draw : FnOk P w K mg base CX0 1 d.f_law_draw d.f_law_drawd ["_law_state", "_law_many"] (sp_f_law_draw K)) (gf_law_key : FnOk P w K mg base CX0 2 d.f_law_key d.f_law_keyd ["_law_state", "_law_last", "_law_many"] (sp_f_law_key K)) (gf_law_name : FnOk P w K mg base CX0 2 d.f_law_name d.f_law_named ["_law_state", "_law_k", "_law_paces"] (sp_f_law_name K)) : FnOk P w K mg base CX0 3 d.f_law_places d.f_law_placesd ["_law_script"] (sp_f_law_places K) := by
  refine T.F_f_law_places.ok sc_f_law_places (fun vs H Q E h => len_f_law_places h) (fun cdv A outer s H vs Q E hr h => ?_)
  have hu : (A.deeper (envOfC "_law_places" (defScope s_f_law_places) s.heap.objs.size d.f_law_places cdv)).units < cLine := hr.units0
  refine ⟨_, (@pss_cons _ _ _ _ _ (@ps_set _ _ (1) _ _ _ _ sc_f_law_places.nd rfl (Or.inl rfl) (@pe_call _ _ _ _ _ _ _ _ _ _ _ _ _ _ _ _ gf_law_begun (hr.mono (by decide)) (by rfl) T.m_f_law_begun T.k_f_law_begun T.d_f_law_begun .nil pass0 (@pa_cons _ _ _ _ _ (@pv _ 0 _ _ rfl (Or.inl rfl) rfl rfl) (@pa_cons _ _ _ _ _ (@pe_int _ _ _ _) (@pa_nil _) (by rfl)) (by rfl)) (by decide) (by rfl) (by rfl)) (by rfl) (by first | exact .inl rfl | exact .inr rfl)) (@pss_cons _ _ _ _ _ (@ps_set _ _ (2) _ _ _ _ sc_f_law_places.nd rfl (Or.inl rfl) (@pe_lstA _ _ _ _ (@pa_cons _ _ _ _ _ (@pe_call _ _ _ _ _ _ _ _ _ _ _ _ _ _ _ _ gf_law_draw (hr.mono (by decide)) (by rfl) T.m_f_law_draw T.k_f_law_draw T.d_f_law_draw .nil pass0 (@pa_cons _ _ _ _ _ (@pv _ 1 _ _ rfl (Or.inl rfl) rfl rfl) (@pa_cons _ _ _ _ _ (@pe_int _ _ _ _) (@pa_nil _) (by rfl)) (by rfl)) (by decide) (by rfl) (by rfl)) (@pa_cons _ _ _ _ _ (@pe_call _ _ _ _ _ _ _ _ _ _ _ _ _ _ _ _ gf_law_draw (hr.mono (by decide)) (by rfl) T.m_f_law_draw T.k_f_law_draw T.d_f_law_draw .nil pass0 (@pa_cons _ _ _ _ _ (@pv _ 1 _ _ rfl (Or.inl rfl) rfl rfl) (@pa_cons _ _ _ _ _ (@pe_int _ _ _ _) (@pa_nil _) (by rfl)) (by rfl)) (by decide) (by rfl) (by rfl)) (@pa_cons _ _ _ _ _ (@pe_call _ _ _ _ _ _ _ _ _ _ _ _ _ _ _ _ gf_law_draw (hr.mono (by decide)) (by rfl) T.m_f_law_draw T.k_f_law_draw T.d_f_law_draw .nil pass0 (@pa_cons _ _ _ _ _ (@pv _ 1 _ _ rfl (Or.inl rfl) rfl rfl) (@pa_cons _ _ _ _ _ (@pe_int _ _ _ _) (@pa_nil _) (by rfl)) (by rfl)) (by decide) (by rfl) (by rfl)) (@pa_nil _) (by rfl)) (by rfl)) (by rfl))) (by rfl) (by first | exact .inl rfl | exact .inr rfl)) (@pss_cons _ _ _ _ _ (@ps_set _ _ (3) _ _ _ _ sc_f_law_places.nd rfl (Or.inl rfl) (@pe_ix _ _ _ _ _ _ _ ix_list (@pe_lstA _ _ _ _ (@pa_cons _ _ _ _ _ (@pe_int _ _ _ _) (@pa_cons _ _ _ _ _ (@pe_int _ _ _ _) (@pa_cons _ _ _ _ _ (@pe_op _ _ _ _ _ _ _ _ op_pow (@pe_int _ _ _ _) (@pe_int _ _ _ _)) (@pa_nil _) (by rfl)) (by rfl)) (by rfl))) (@pe_call _ _ _ _ _ _ _ _ _ _ _ _ _ _ _ _ gf_law_draw (hr.mono (by decide)) (by rfl) T.m_f_law_draw T.k_f_law_draw T.d_f_law_draw .nil pass0 (@pa_cons _ _ _ _ _ (@pv _ 1 _ _ rfl (Or.inl rfl) rfl rfl) (@pa_cons _ _ _ _ _ (@pe_int _ _ _ _) (@pa_nil _) (by rfl)) (by rfl)) (by decide) (by rfl) (by rfl)) (fun _ _ => rfl)) (by rfl) (by first | exact .inl rfl | exact .inr rfl)) (@pss_cons _ _ _ _ _ (@ps_set _ _ (4) _ _ _ _ sc_f_law_places.nd rfl (Or.inl rfl) (@pe_tupA _ _ _ _ _ (@pa_cons _ _ _ _ _ (@pe_op _ _ _ _ _ _ _ _ op_add (@pe_int _ _ _ _) (@pe_call _ _ _ _ _ _ _ _ _ _ _ _ _ _ _ _ gf_law_draw (hr.mono (by decide)) (by rfl) T.m_f_law_draw T.k_f_law_draw T.d_f_law_draw .nil pass0 (@pa_cons _ _ _ _ _ (@pv _ 1 _ _ rfl (Or.inl rfl) rfl rfl) (@pa_cons _ _ _ _ _ (@pv _ 3 _ _ rfl (Or.inl rfl) rfl rfl) (@pa_nil _) (by rfl)) (by rfl)) (by decide) (by rfl) (by rfl))) (@pa_cons _ _ _ _ _ (@pe_call _ _ _ _ _ _ _ _ _ _ _ _ _ _ _ _ gf_law_draw (hr.mono (by decide)) (by rfl) T.m_f_law_draw T.k_f_law_draw T.d_f_law_draw .nil pass0 (@pa_cons _ _ _ _ _ (@pv _ 1 _ _ rfl (Or.inl rfl) rfl rfl) (@pa_cons _ _ _ _ _ (@pe_int _ _ _ _) (@pa_nil _) (by rfl)) (by rfl)) (by decide) (by rfl) (by rfl)) (@pa_cons _ _ _ _ _ (@pe_int _ _ _ _) (@pa_nil _) (by rfl)) (by rfl)) (by rfl))) (by rfl) (by first | exact .inl rfl | exact .inr rfl)) (@pss_cons _ _ _ _ _ (@ps_set _ _ (5) _ _ _ _ sc_f_law_places.nd rfl (Or.inl rfl) (@pe_lstA _ _ _ _ (@pa_nil _)) (by rfl) (by first | exact .inl rfl | exact .inr rfl)) (@pss_cons _ _ _ _ _ (@ps_set _ _ (6) _ _ _ _ sc_f_law_places.nd rfl (Or.inl rfl) (@pe_lstA _ _ _ _ (@pa_nil _)) (by rfl) (by first | exact .inl rfl | exact .inr rfl)) (@pss_cons _ _ _ _ _ (@ps_for _ _ _ _ _ _ _ _ PassesOwn.never rfl (@pi_range2 _ _ _ _ _ _ _ (by rfl) T.b_range (@pa_cons _ _ _ _ _ (@pe_int _ _ _ _) (@pa_cons _ _ _ _ _ (@pe_callB _ _ _ _ _ _ _ _ _ (call_min2 rfl) (by rfl) T.b_min boot_min (@pa_cons _ _ _ _ _ (@pe_callB _ _ _ _ _ _ _ _ _ call_len_seq (by rfl) T.b_len boot_len (@pa_cons _ _ _ _ _ (@pv _ 0 _ _ rfl (Or.inl rfl) rfl rfl) (@pa_nil _) (by rfl)) (by decide) (by decide) (by rfl) (by rfl)) (@pa_cons _ _ _ _ _ (@pe_int _ _ _ _) (@pa_nil _) (by rfl)) (by rfl)) (by decide) (by decide) (by rfl) (by rfl)) (@pa_nil _) (by rfl)) (by rfl)) (by rfl) (by rfl)) (@pg_name _ _ (7) _ sc_f_law_places.nd rfl (Or.inl rfl) (by first | exact .inl rfl | exact .inr rfl)) (@pss_cons _ _ _ _ _ (@ps_set _ _ (8) _ _ _ _ sc_f_law_places.nd rfl (Or.inl rfl) (@pe_call _ _ _ _ _ _ _ _ _ _ _ _ _ _ _ _ gf_law_begun (hr.mono (by decide)) (by rfl) T.m_f_law_begun T.k_f_law_begun T.d_f_law_begun .nil pass0 (@pa_cons _ _ _ _ _ (@pv _ 0 _ _ rfl (Or.inl rfl) rfl rfl) (@pa_cons _ _ _ _ _ (@pv _ 7 _ _ rfl (Or.inl rfl) rfl rfl) (@pa_nil _) (by rfl)) (by rfl)) (by decide) (by rfl) (by rfl)) (by rfl) (by first | exact .inl rfl | exact .inr rfl)) (@pss_cons _ _ _ _ _ (@ps_set _ _ (4) _ _ _ _ sc_f_law_places.nd rfl (Or.inl rfl) (@pe_call _ _ _ _ _ _ _ _ _ _ _ _ _ _ _ _ gf_law_key (hr.mono (by decide)) (by rfl) T.m_f_law_key T.k_f_law_key T.d_f_law_key .nil pass0 (@pa_cons _ _ _ _ _ (@pv _ 8 _ _ rfl (Or.inl rfl) rfl rfl) (@pa_cons _ _ _ _ _ (@pv _ 4 _ _ rfl (Or.inl rfl) rfl rfl) (@pa_cons _ _ _ _ _ (@pv _ 3 _ _ rfl (Or.inl rfl) rfl rfl) (@pa_nil _) (by rfl)) (by rfl)) (by rfl)) (by decide) (by rfl) (by rfl)) (by rfl) (by first | exact .inl rfl | exact .inr rfl)) (@pss_cons _ _ _ _ _ (@ps_set _ _ (9) _ _ _ _ sc_f_law_places.nd rfl (Or.inl rfl) (@pe_call _ _ _ _ _ _ _ _ _ _ _ _ _ _ _ _ gf_law_name (hr.mono (by decide)) (by rfl) T.m_f_law_name T.k_f_law_name T.d_f_law_name .nil pass0 (@pa_cons _ _ _ _ _ (@pv _ 8 _ _ rfl (Or.inl rfl) rfl rfl) (@pa_cons _ _ _ _ _ (@pv _ 7 _ _ rfl (Or.inl rfl) rfl rfl) (@pa_cons _ _ _ _ _ (@pv _ 2 _ _ rfl (Or.inl rfl) rfl rfl) (@pa_nil _) (by rfl)) (by rfl)) (by rfl)) (by decide) (by rfl) (by rfl)) (by rfl) (by first | exact .inl rfl | exact .inr rfl)) (@pss_cons _ _ _ _ _ (@ps_set _ _ (10) _ _ _ _ sc_f_law_places.nd rfl (Or.inl rfl) (@pe_call _ _ _ _ _ _ _ _ _ _ _ _ _ _ _ _ gf_law_draw (hr.mono (by decide)) (by rfl) T.m_f_law_draw T.k_f_law_draw T.d_f_law_draw .nil pass0 (@pa_cons _ _ _ _ _ (@pv _ 8 _ _ rfl (Or.inl rfl) rfl rfl) (@pa_cons _ _ _ _ _ (@pe_op _ _ _ _ _ _ _ _ op_add (@pe_callB _ _ _ _ _ _ _ _ _ call_len_seq (by rfl) T.b_len boot_len (@pa_cons _ _ _ _ _ (@pv _ 5 _ _ rfl (Or.inl rfl) rfl rfl) (@pa_nil _) (by rfl)) (by decide) (by decide) (by rfl) (by rfl)) (@pe_int _ _ _ _)) (@pa_nil _) (by rfl)) (by rfl)) (by decide) (by rfl) (by rfl)) (by rfl) (by first | exact .inl rfl | exact .inr rfl)) (@pss_cons _ _ _ _ _ (@ps_set _ _ (11) _ _ _ _ sc_f_law_places.nd rfl (Or.inl rfl) (@pe_ix _ _ _ _ _ _ _ ix_list (@pe_op _ _ _ _ _ _ _ _ op_catA (@pe_lstA _ _ _ _ (@pa_cons _ _ _ _ _ (@pe_non _ _ _) (@pa_nil _) (by rfl))) (@pv _ 5 _ _ rfl (Or.inl rfl) rfl rfl)) (@pv _ 10 _ _ rfl (Or.inl rfl) rfl rfl) (fun _ _ => rfl)) (by rfl) (by first | exact .inl rfl | exact .inr rfl)) (@pss_cons _ _ _ _ _ (@ps_expr _ _ _ _ (@pe_bm _ _ _ _ _ _ _ _ _ _ _ _ PySem.F.plainAttrs_list PySem.F.slot_list_insert PySem.F.type_list_insert mt_insert (@pv _ 5 _ _ rfl (Or.inl rfl) rfl rfl) (@pa_cons _ _ _ _ _ (@pv _ 10 _ _ rfl (Or.inl rfl) rfl rfl) (@pa_cons _ _ _ _ _ (@pv _ 9 _ _ rfl (Or.inl rfl) rfl rfl) (@pa_nil _) (by rfl)) (by rfl)) (by rfl) (by rfl) (by rfl) (by rfl) (by rfl)) (by rfl)) (@pss_cons _ _ _ _ _ (@ps_set _ _ (12) _ _ _ _ sc_f_law_places.nd rfl (Or.inl rfl) (@pv _ 4 _ _ rfl (Or.inl rfl) rfl rfl) (by rfl) (by first | exact .inl rfl | exact .inr rfl)) (@pss_cons _ _ _ _ _ (@ps_if _ _ _ _ _ _ _ _ (@pt_cmpR _ _ _ _ _ _ _ _ op_eq (@pe_ix _ _ _ _ _ _ _ ix_list (@pv _ 2 _ _ rfl (Or.inl rfl) rfl rfl) (@pe_int _ _ _ _) (fun _ _ => rfl)) (@pe_int _ _ _ _) (nomark _)) (@pss_one _ _ _ (@ps_set _ _ (12) _ _ _ _ sc_f_law_places.nd rfl (Or.inl rfl) (@pe_tupA _ _ _ _ _ (@pa_cons _ _ _ _ _ (@pe_ix _ _ _ _ _ _ _ ix_tup (@pv _ 4 _ _ rfl (Or.inl rfl) rfl rfl) (@pe_int _ _ _ _) (fun _ _ => rfl)) (@pa_cons _ _ _ _ _ (@pe_op _ _ _ _ _ _ _ _ op_add (@pe_op _ _ _ _ _ _ _ _ op_mul (@pe_ix _ _ _ _ _ _ _ ix_tup (@pv _ 4 _ _ rfl (Or.inl rfl) rfl rfl) (@pe_int _ _ _ _) (fun _ _ => rfl)) (@pe_int _ _ _ _)) (@pe_ix _ _ _ _ _ _ _ ix_tup (@pv _ 4 _ _ rfl (Or.inl rfl) rfl rfl) (@pe_int _ _ _ _) (fun _ _ => rfl))) (@pa_nil _) (by rfl)) (by rfl))) (by rfl) (by first | exact .inl rfl | exact .inr rfl))) (@pss_nil _)) (@pss_one _ _ _ (@ps_expr _ _ _ _ (@pe_bm _ _ _ _ _ _ _ _ _ _ _ _ PySem.F.plainAttrs_list PySem.F.slot_list_insert PySem.F.type_list_insert mt_insert (@pv _ 6 _ _ rfl (Or.inl rfl) rfl rfl) (@pa_cons _ _ _ _ _ (@pe_call _ _ _ _ _ _ _ _ _ _ _ _ _ _ _ _ gf_law_draw (hr.mono (by decide)) (by rfl) T.m_f_law_draw T.k_f_law_draw T.d_f_law_draw .nil pass0 (@pa_cons _ _ _ _ _ (@pv _ 8 _ _ rfl (Or.inl rfl) rfl rfl) (@pa_cons _ _ _ _ _ (@pe_op _ _ _ _ _ _ _ _ op_add (@pe_callB _ _ _ _ _ _ _ _ _ call_len_seq (by rfl) T.b_len boot_len (@pa_cons _ _ _ _ _ (@pv _ 6 _ _ rfl (Or.inl rfl) rfl rfl) (@pa_nil _) (by rfl)) (by decide) (by decide) (by rfl) (by rfl)) (@pe_int _ _ _ _)) (@pa_nil _) (by rfl)) (by rfl)) (by decide) (by rfl) (by rfl)) (@pa_cons _ _ _ _ _ (@pe_tupA _ _ _ _ _ (@pa_cons _ _ _ _ _ (@pv _ 9 _ _ rfl (Or.inl rfl) rfl rfl) (@pa_cons _ _ _ _ _ (@pv _ 11 _ _ rfl (Or.inl rfl) rfl rfl) (@pa_cons _ _ _ _ _ (@pv _ 12 _ _ rfl (Or.inl rfl) rfl rfl) (@pa_nil _) (by rfl)) (by rfl)) (by rfl))) (@pa_nil _) (by rfl)) (by rfl)) (by rfl) (by rfl) (by rfl) (by rfl) (by rfl)) (by rfl))))))))))) (by intro _; rfl)) (@pss_one _ _ _ (@ps_ret _ _ _ _ (@pe_tupA _ _ _ _ _ (@pa_cons _ _ _ _ _ (@pv _ 6 _ _ rfl (Or.inl rfl) rfl rfl) (@pa_cons _ _ _ _ _ (@pv _ 5 _ _ rfl (Or.inl rfl) rfl rfl) (@pa_nil _) (by rfl)) (by rfl)))))))))))), ?_⟩
  obtain ⟨sp, ns, rfl, hs, hl, kk⟩ := h
  refine ⟨_, rfl, sp, ns, 1, rfl, hs, by omega, fun H1 fp s1 g1 r1 => ?_⟩
  refine ⟨_, rfl, fp, 0, 67, rfl, r1, by omega, by omega, by omega, fun H2 p0 s2 r2 hp0 => ?_⟩
  refine ⟨_, rfl, fp, _, 66, rfl, r2, by omega, by omega, by omega, fun H3 p1 s3 r3 hp1 => ?_⟩
  refine ⟨_, rfl, fp, _, 3, rfl, r3, by omega, by omega, by omega, fun H4 p2 s4 r4 hp2 => ?_⟩
  have go : ∀ {Ha Hb : Hp}, Same H Ha → Same (del Ha fp) Hb → Same H Hb := fun s t => (s.cut g1).trans t
  have t4 := go (go (go s1 s2) s3) s4
  refine ⟨szOk rfl, fun pq H5 g5 s5 e5 => ?_⟩
  refine ⟨_, _, rfl, rfl, ⟨by decide, by decide, by decide⟩, szOk rfl, fun mq H6 g6 s6 e6 => ?_⟩
  have r6 := (r4.same s5).same s6
  have t6 := (t4.trans s5).trans s6
  refine ⟨_, rfl, fp, _, 3, rfl, r6, by omega, by omega, by omega, fun H7 mi s7 r7 hmi => ?_⟩
  have nmf : mq ≠ fp := fun z => by obtain ⟨u, hu⟩ := (r4.same s5).some; rw [z, hu] at g6; cases g6
  have npf : pq ≠ fp := fun z => by obtain ⟨u, hu⟩ := r4.some; rw [z, hu] at g5; cases g5
  have e67 : H7 mq = _ := s7 _ _ (by rw [del_ne nmf]; exact e6)
  have e57 : H7 pq = _ := s7 _ _ (by rw [del_ne npf]; exact s6 _ _ e5)
  obtain ⟨m, hm0, hm1, hmv⟩ : ∃ m : Nat, 0 < m ∧ m ≤ 1000000 ∧ atI [V.int 2, V.int 60, V.int (10 ^ (6 : Int).toNat)] (mi : Int) = some (.int (m : Int)) := by
    rcases mi with _ | _ | _ | mi
    · exact ⟨2, by omega, by omega, rfl⟩
    · exact ⟨60, by omega, by omega, rfl⟩
    · exact ⟨1000000, by omega, by omega, rfl⟩
    · omega
  refine ⟨mq, _, mi, .int (m : Int), rfl, rfl, SqL.of e67, hmv, ?_⟩
  have t7 := go t6 s7
  refine ⟨_, rfl, _, rfl, fp, _, m, rfl, r7, by omega, hm0, hm1, fun H8 x s8 r8 hx => ?_⟩
  refine ⟨_, _, rfl, rfl, _, rfl, fp, _, 6, rfl, r8, by omega, by omega, by omega, fun H9 y s9 r9 hy => ?_⟩
  refine ⟨szOk rfl, fun lq Ha ga sa ea => ?_⟩
  have t9 := go (go t7 s8) s9
  have ta := t9.trans sa
  have e5a : Ha pq = _ := sa _ _ (s9 _ _ (by rw [del_ne npf]; exact s8 _ _ (by rw [del_ne npf]; exact e57)))
  refine ⟨szOk rfl, fun dp Hb gb sb eb => ?_⟩
  refine ⟨szOk rfl, fun pp Hc gc sc ec => ?_⟩
  have tc := (ta.trans sb).trans sc
  have ndp : dp ≠ pp := fun z => by rw [← z, eb] at gc; cases gc
  have fdp : H dp = none := ta.free gb
  have fpp : H pp = none := (ta.trans sb).free gc
  have npq : pq ≠ dp := fun z => by rw [← z, e5a] at gb; cases gb
  have npp : pq ≠ pp := fun z => by rw [← z, sb _ _ e5a] at gc; cases gc
  refine ⟨_, rfl, sp, _, rfl, .inl (hs.same tc), ?_⟩
  rw [List.length_map]
  refine ⟨_, _, rfl, ?_⟩
  obtain ⟨mn, hmn⟩ : ∃ mn : Int, mn = (if (62 : Int) < (ns.length : Int) then 62 else (ns.length : Int)) := ⟨_, rfl⟩
  have hmn0 : 0 ≤ mn ∧ mn ≤ 62 := by rw [hmn]; split <;> omega
  refine ⟨2, mn, by rw [hmn], ⟨by omega, by omega, by omega, by omega⟩, for_range (lo := 2) (n := (mn - 2).toNat) (fun j σ H7 => ∃ (TS : List Dr) (js : List Nat) (dv pv : List V) (a b c : Nat) (lq : Addr) (u7 u8 u9 u10 u11 u12 : Option V), σ = [some (.ref sp), some (.ref fp), some (.ref pq), some (.int (m : Int)), some (.ref lq), some (.ref dp), some (.ref pp), u7, u8, u9, u10, u11, u12] ∧ Same H H7 ∧ H7 pq = some (.lst [.int (p0 : Int), .int (p1 : Int), .int (p2 : Int)]) ∧ H7 lq = some (.tup [.int (a : Int), .int (b : Int), .int (c : Int)]) ∧ H7 dp = some (.lst dv) ∧ H7 pp = some (.lst pv) ∧ TS.length = j ∧ TOk p0 p1 p2 TS ∧ AN (PL (nkT TS) (bhT TS) (dT p2 TS) H7) pv js ∧ js.Perm (List.range j) ∧ AN (NM (nkT TS) H7) dv (Rga.rowR (Rga.qsOf (bhT TS) (List.range j))) ∧ b ≤ 5 ∧ c ≤ 12 * j ∧ ∀ i, i < j → ((TS.getD i d0).2.2.1 = a ∧ (TS.getD i d0).2.2.2.1 = b ∧ (TS.getD i d0).2.2.2.2 = c) ∨ Up3 (TS.getD i d0).2.2.1 (TS.getD i d0).2.2.2.1 (TS.getD i d0).2.2.2.2 a b c)
    ⟨[], [], [], [], 1 + x, y, 0, lq, none, none, none, none, none, none, rfl, tc, sc _ _ (sb _ _ e5a), sc _ _ (sb _ _ (by rw [show ((1 + x : Nat) : Int) = 1 + (x : Int) by omega]; exact ea)), sc _ _ eb, ec, rfl, ⟨fun i z => (nomatch z), fun i z => (nomatch z), fun i z => (nomatch z), fun i z => (nomatch z), fun i j _ z => (nomatch z)⟩, .nil, .refl _, .nil, by omega, by omega, fun i z => (nomatch z)⟩ ?_ ?_⟩
  · clear e5a e57 e67 ea eb ec sa sb sc s9 s8 r9 r8 hx hy
    rintro j σ H7 hj ⟨TS, js, dv, pv, a, b, c, lq, u7, u8, u9, u10, u11, u12, rfl, s7, e_p, e_l, e_d, e_pl, hT, ok, apl, perm, adu, hb, hc, hle⟩
    have hj60 : j < 60 := by omega
    refine ⟨_, rfl, _, rfl, sp, ns, j + 2, (by rw [show ((j + 2 : Nat) : Int) = 2 + (j : Int) by omega]; rfl), hs.same s7, by omega, fun H8 st s8 g8 r8 => ?_⟩
    have go7 : ∀ {Ha Hb : Hp}, Same H7 Ha → Same (del Ha st) Hb → Same H7 Hb := fun s t => (s.cut g8).trans t
    have nds : dp ≠ st := ne_of_none e_d g8
    have nps : pp ≠ st := ne_of_none e_pl g8
    have nqs : pq ≠ st := ne_of_none e_p g8
    refine ⟨_, rfl, _, rfl, _, rfl, st, lq, 0, a, b, c, m, rfl, r8, by omega, s8 _ _ e_l, hb, hm0, hm1, fun H9 lq' a' b' c' s9 r9 up hb' hc' e9 => ?_⟩
    have t9 := go7 s8 s9
    refine ⟨_, rfl, _, rfl, _, rfl, st, pq, _, j + 2, p0, p1, p2, (by rw [show ((j + 2 : Nat) : Int) = 2 + (j : Int) by omega]; rfl), r9, by omega, t9 _ _ e_p, by omega, by omega, by omega, fun Ha nq w e sa ra hw ea => ?_⟩
    have ta := go7 t9 sa
    refine ⟨_, rfl, _, rfl, dp, _, rfl, .inl (SqL.of (ta _ _ e_d)), _, _, rfl, rfl, st, _, dv.length + 1, (by rw [show ((dv.length + 1 : Nat) : Int) = (dv.length : Int) + 1 by omega]; rfl), ra, by omega, by omega, ?_, fun Hb r sb rb hr => ?_⟩
    · have := adu.1
      rw [Rga.row_len (Rga.wf_range fun i hi => ok.back i (by omega)), List.length_range] at this
      omega
    have tb := go7 ta sb
    obtain ⟨row, hrow⟩ : ∃ row, row = Rga.rowR (Rga.qsOf (bhT TS) (List.range j)) := ⟨_, rfl⟩
    have wfr : Rga.WF (Rga.qsOf (bhT TS) (List.range j)) := Rga.wf_range fun i hi => ok.back i (by omega)
    have hnd : row.Nodup := by rw [hrow]; exact Rga.row_nodup wfr
    have hrm : ∀ i ∈ row, i < TS.length := fun i hi => by
      rw [hrow] at hi
      rw [hT]
      exact List.mem_range.mp (Rga.row_mem wfr hi)
    have hrl : row.length = j := by rw [hrow, Rga.row_len wfr, List.length_range]
    rw [← hrow] at adu
    have hdl : dv.length = j := by rw [adu.1, hrl]
    have hpl : pv.length = j := by rw [apl.1, perm.length_eq, List.length_range]
    refine ⟨szOk rfl, fun z1 Hc gc sc ec => ?_⟩
    refine ⟨_, rfl, z1, dp, _, _, rfl, rfl, ec, sc _ _ (tb _ _ e_d), big (by show 1 + dv.length ≤ 1000; omega), fun z2 Hd gd sd ed => ?_⟩
    have td := (tb.trans sc).trans sd
    have hbk : ∀ i, Rga.bhAt row r = some i → i < TS.length := fun i hi => by
      cases r with
      | zero => cases hi
      | succ r => exact hrm i (List.mem_of_getElem? hi)
    obtain ⟨vb, hvb, hgk⟩ : ∃ vb, atI ([.non] ++ dv) (r : Int) = some vb ∧ GK Hd (kd (nkT TS) (Rga.bhAt row r)) vb := by
      cases r with
      | zero => exact ⟨.non, atI_nat (j := 0) rfl, rfl⟩
      | succ r =>
        have hr' : r < dv.length := by omega
        have hr2 : row[r]? = some row[r] := List.getElem?_eq_getElem (by omega)
        refine ⟨dv[r], atI_nat (j := r + 1) (by show dv[r]? = _; rw [List.getElem?_eq_getElem hr']), ?_⟩
        show GK Hd (kd (nkT TS) row[r]?) dv[r]
        rw [hr2]
        exact (adu.2 r dv[r] _ (List.getElem?_eq_getElem hr') hr2).tups td.tups
    refine ⟨_, rfl, z2, _, (r : Int), vb, rfl, rfl, SqL.of ed, hvb, ?_⟩
    have edd := td _ _ e_d
    refine ⟨_, rfl, .inl ⟨rfl, _, SqL.of edd⟩, _, rfl, _, rfl, dp, dv, (r : Int), _, rfl, rfl, edd, by omega, by omega, small1000 (by omega), ?_⟩
    rw [show min (r : Int).toNat dv.length = r by omega]
    refine ⟨_, rfl, ?_⟩
    have epe : (upd Hd dp (.lst (insV dv r (.ref nq)))) pq = some (.lst [.int (p0 : Int), .int (p1 : Int), .int (p2 : Int)]) := by rw [upd_ne npq]; exact td _ _ e_p
    have twe : Tups Hd (upd Hd dp (.lst (insV dv r (.ref nq)))) := Tups.wl edd
    have ele := twe _ _ (((ra.cut sb).trans (sc.trans sd).tups) _ _ ((r9.cut sa) _ _ e9))
    have ple : (upd Hd dp (.lst (insV dv r (.ref nq)))) pp = some (.lst pv) := by rw [upd_ne ndp.symm]; exact td _ _ e_pl
    have sre : SR (upd Hd dp (.lst (insV dv r (.ref nq)))) st 60 := (((rb.same sc).same sd).upd nds.symm).more (by omega)
    have sHe : Same H (upd Hd dp (.lst (insV dv r (.ref nq)))) := (s7.trans td).wr fdp
    have tu7e : Tups H7 (upd Hd dp (.lst (insV dv r (.ref nq)))) := td.tups.trans twe
    have tuae : Tups Ha (upd Hd dp (.lst (insV dv r (.ref nq)))) := ((ra.cut sb).trans (sc.trans sd).tups).trans twe
    have ede : (upd Hd dp (.lst (insV dv r (.ref nq)))) dp = some (.lst (insV dv r (.ref nq))) := upd_same
    generalize upd Hd dp (.lst (insV dv r (.ref nq))) = He at epe twe ele ple sre sHe tu7e tuae ede ⊢
    refine ⟨_, rfl, pq, _, 2, _, rfl, rfl, SqL.of epe, rfl, rfl, _, rfl, ?_⟩
    by_cases hp20 : p2 = 0
    · refine itT (decide_eq_true (by rw [hp20]; rfl)) ?_
      refine ⟨_, rfl, lq', _, 0, _, rfl, rfl, SqT.of ele, rfl, _, rfl, lq', _, 1, _, rfl, rfl, SqT.of ele, rfl, _, _, rfl, rfl, .inr ⟨by decide, by decide⟩, _, rfl, lq', _, 2, _, rfl, rfl, SqT.of ele, rfl, _, _, rfl, rfl, szOk rfl, fun rq Hf gf sf ef => ?_⟩
      have dvr : DT Hf (.ref rq) (rkD p2 a' b' c') := by
        unfold rkD
        rw [if_pos hp20]
        exact .tup ef (.cons (.int _) (.cons (.int _) .nil))
      have plf := sf _ _ ple
      have srf := sre.same sf
      have sHf := sHe.trans sf
      have tu7f := tu7e.trans sf.tups
      have tuaf := tuae.trans sf.tups
      have tudf := twe.trans sf.tups
      have epf := sf _ _ epe
      have edf := sf _ _ ede
      have elf := sf _ _ ele
      refine ⟨_, rfl, .inl ⟨rfl, _, SqL.of plf⟩, _, rfl, _, rfl, pp, _, rfl, .inl (SqL.of plf), _, _, rfl, rfl, st, _, pv.length + 1, (by rw [show ((pv.length + 1 : Nat) : Int) = (pv.length : Int) + 1 by omega]; rfl), srf, by omega, by omega, by omega, fun Hg r' sg rg hr' => ?_⟩
      refine ⟨_, rfl, _, rfl, _, rfl, szOk rfl, fun tq Hh gh sh eh => ?_⟩
      have plg : Hg pp = some (.lst pv) := sg _ _ (by rw [del_ne nps]; exact plf)
      refine ⟨pp, pv, (r' : Int), _, rfl, rfl, sh _ _ plg, by omega, by omega, small1000 (by omega), ?_⟩
      rw [show min (r' : Int).toNat pv.length = r' by omega]
      have tuh : Tups Hf Hh := (srf.cut sg).trans sh.tups
      have tuz : Tups Hf (upd Hh pp (.lst (insV pv r' (.ref tq)))) := tuh.trans (Tups.wl (sh _ _ plg))
      have tz : Tups H7 (upd Hh pp (.lst (insV pv r' (.ref tq)))) := tu7f.trans tuz
      have nmz : NM (nkT (TS ++ [(nkOf p2 w (numOf p0 p1 TS.length) e, Rga.bhAt row r, a', b', c')])) (upd Hh pp (.lst (insV pv r' (.ref tq)))) (.ref nq) j := by
        unfold NM nkT
        rw [← hT, ts_new]
        refine ⟨nq, rfl, ?_⟩
        rw [nkOf_kV]
        refine (tuaf.trans tuz) _ _ ?_
        rw [hT]
        exact ea
      have bkz : GK (upd Hh pp (.lst (insV pv r' (.ref tq)))) (kd (nkT (TS ++ [(nkOf p2 w (numOf p0 p1 TS.length) e, Rga.bhAt row r, a', b', c')])) (bhT (TS ++ [(nkOf p2 w (numOf p0 p1 TS.length) e, Rga.bhAt row r, a', b', c')]) j)) vb := by
        have eb : bhT (TS ++ [(nkOf p2 w (numOf p0 p1 TS.length) e, Rga.bhAt row r, a', b', c')]) j = Rga.bhAt row r := by unfold bhT; rw [← hT, ts_new]
        rw [eb, ← kd_old hbk]
        exact hgk.tups (tudf.trans tuz)
      have dz : DT (upd Hh pp (.lst (insV pv r' (.ref tq)))) (.ref rq) (dT p2 (TS ++ [(nkOf p2 w (numOf p0 p1 TS.length) e, Rga.bhAt row r, a', b', c')]) j) := by
        unfold dT
        rw [← hT, ts_new]
        exact dvr.tups tuz
      have plz : PL (nkT (TS ++ [(nkOf p2 w (numOf p0 p1 TS.length) e, Rga.bhAt row r, a', b', c')])) (bhT (TS ++ [(nkOf p2 w (numOf p0 p1 TS.length) e, Rga.bhAt row r, a', b', c')])) (dT p2 (TS ++ [(nkOf p2 w (numOf p0 p1 TS.length) e, Rga.bhAt row r, a', b', c')])) (upd Hh pp (.lst (insV pv r' (.ref tq)))) (.ref tq) j := ⟨tq, .ref nq, vb, .ref rq, rfl, Tups.wl (sh _ _ plg) _ _ eh, nmz, bkz, dz⟩
      have hml : ∀ i ∈ js, i < TS.length := fun i hi => by rw [hT]; exact List.mem_range.mp (perm.mem_iff.mp hi)
      refine ⟨TS ++ [(nkOf p2 w (numOf p0 p1 TS.length) e, Rga.bhAt row r, a', b', c')], Rga.insN js r' j, insV dv r (.ref nq), insV pv r' (.ref tq), a', b', c', lq', _, _, _, _, _, _, rfl, (((sHf.cut (s7.free g8)).trans sg).trans sh).wr fpp, ?_, ?_, ?_, upd_same, by rw [List.length_append, hT]; rfl, ok.snoc hw hbk (by omega) hb' (fun i hi => ?_), ?_, ?_, ?_, hb', by omega, fun i hi => ?_⟩
      · rw [upd_ne npp]
        exact sh _ _ (sg _ _ (by rw [del_ne nqs]; exact epf))
      · exact tuz _ _ elf
      · rw [upd_ne ndp]
        exact sh _ _ (sg _ _ (by rw [del_ne nds]; exact edf))
      · rcases hle i (by omega) with z | z
        · rw [z.1, z.2.1, z.2.2]; exact up
        · exact up3_trans z up
      · refine AN.ins ⟨apl.1, fun m v i e1 e2 => ?_⟩ r' plz
        have hi := hml i (List.mem_of_getElem? e2)
        exact ((apl.2 m v i e1 e2).tups tz).congr (nk_old hi) (bh_old hi) (kd_old fun b' hb' => Nat.lt_trans (ok.back i hi b' hb') hi) (d_old hi)
      · rw [List.range_succ]
        refine (Rga.ins_perm _ _ _).trans ((perm.cons j).trans ?_)
        exact (List.perm_append_singleton j (List.range j)).symm
      · have eb : bhT (TS ++ [(nkOf p2 w (numOf p0 p1 TS.length) e, Rga.bhAt row r, a', b', c')]) j = Rga.bhAt row r := by unfold bhT; rw [← hT, ts_new]
        rw [Rga.row_next, eb, Rga.qs_congr (bh := bhT (TS ++ [(nkOf p2 w (numOf p0 p1 TS.length) e, Rga.bhAt row r, a', b', c')])) (bh' := bhT TS) fun i hi => (bh_old (by omega)).symm]
        rw [← hrow]
        rw [Rga.ins_at hnd (by omega)]
        refine AN.ins ⟨adu.1, fun m v i e1 e2 => ?_⟩ r nmz
        exact ((adu.2 m v i e1 e2).tups tz).congr (nk_old (hrm i (List.mem_of_getElem? e2)))
      · by_cases z : i < TS.length
        · rw [ts_old z]
          refine .inr ?_
          rcases hle i (by omega) with y | y
          · rw [y.1, y.2.1, y.2.2]; exact up
          · exact up3_trans y up
        · obtain rfl : i = TS.length := by omega
          rw [ts_new]
          exact .inl ⟨rfl, rfl, rfl⟩
    · refine itF (decide_eq_false fun z => hp20 (by injection z; omega)) ?_
      have dvr : DT He (.ref lq') (rkD p2 a' b' c') := by
        unfold rkD
        rw [if_neg hp20]
        exact .tup ele (.cons (.int _) (.cons (.int _) (.cons (.int _) .nil)))
      obtain ⟨Hf, hHf⟩ : ∃ Hf, Hf = He := ⟨_, rfl⟩
      subst hHf
      have plf := ple
      have srf := sre
      have sHf := sHe
      have tu7f := tu7e
      have tuaf := tuae
      have tudf := twe
      have epf := epe
      have edf := ede
      have elf := ele
      refine ⟨_, rfl, .inl ⟨rfl, _, SqL.of plf⟩, _, rfl, _, rfl, pp, _, rfl, .inl (SqL.of plf), _, _, rfl, rfl, st, _, pv.length + 1, (by rw [show ((pv.length + 1 : Nat) : Int) = (pv.length : Int) + 1 by omega]; rfl), srf, by omega, by omega, by omega, fun Hg r' sg rg hr' => ?_⟩
      refine ⟨_, rfl, _, rfl, _, rfl, szOk rfl, fun tq Hh gh sh eh => ?_⟩
      have plg : Hg pp = some (.lst pv) := sg _ _ (by rw [del_ne nps]; exact plf)
      refine ⟨pp, pv, (r' : Int), _, rfl, rfl, sh _ _ plg, by omega, by omega, small1000 (by omega), ?_⟩
      rw [show min (r' : Int).toNat pv.length = r' by omega]
      have tuh : Tups Hf Hh := (srf.cut sg).trans sh.tups
      have tuz : Tups Hf (upd Hh pp (.lst (insV pv r' (.ref tq)))) := tuh.trans (Tups.wl (sh _ _ plg))
      have tz : Tups H7 (upd Hh pp (.lst (insV pv r' (.ref tq)))) := tu7f.trans tuz
      have nmz : NM (nkT (TS ++ [(nkOf p2 w (numOf p0 p1 TS.length) e, Rga.bhAt row r, a', b', c')])) (upd Hh pp (.lst (insV pv r' (.ref tq)))) (.ref nq) j := by
        unfold NM nkT
        rw [← hT, ts_new]
        refine ⟨nq, rfl, ?_⟩
        rw [nkOf_kV]
        refine (tuaf.trans tuz) _ _ ?_
        rw [hT]
        exact ea
      have bkz : GK (upd Hh pp (.lst (insV pv r' (.ref tq)))) (kd (nkT (TS ++ [(nkOf p2 w (numOf p0 p1 TS.length) e, Rga.bhAt row r, a', b', c')])) (bhT (TS ++ [(nkOf p2 w (numOf p0 p1 TS.length) e, Rga.bhAt row r, a', b', c')]) j)) vb := by
        have eb : bhT (TS ++ [(nkOf p2 w (numOf p0 p1 TS.length) e, Rga.bhAt row r, a', b', c')]) j = Rga.bhAt row r := by unfold bhT; rw [← hT, ts_new]
        rw [eb, ← kd_old hbk]
        exact hgk.tups (tudf.trans tuz)
      have dz : DT (upd Hh pp (.lst (insV pv r' (.ref tq)))) (.ref lq') (dT p2 (TS ++ [(nkOf p2 w (numOf p0 p1 TS.length) e, Rga.bhAt row r, a', b', c')]) j) := by
        unfold dT
        rw [← hT, ts_new]
        exact dvr.tups tuz
      have plz : PL (nkT (TS ++ [(nkOf p2 w (numOf p0 p1 TS.length) e, Rga.bhAt row r, a', b', c')])) (bhT (TS ++ [(nkOf p2 w (numOf p0 p1 TS.length) e, Rga.bhAt row r, a', b', c')])) (dT p2 (TS ++ [(nkOf p2 w (numOf p0 p1 TS.length) e, Rga.bhAt row r, a', b', c')])) (upd Hh pp (.lst (insV pv r' (.ref tq)))) (.ref tq) j := ⟨tq, .ref nq, vb, .ref lq', rfl, Tups.wl (sh _ _ plg) _ _ eh, nmz, bkz, dz⟩
      have hml : ∀ i ∈ js, i < TS.length := fun i hi => by rw [hT]; exact List.mem_range.mp (perm.mem_iff.mp hi)
      refine ⟨TS ++ [(nkOf p2 w (numOf p0 p1 TS.length) e, Rga.bhAt row r, a', b', c')], Rga.insN js r' j, insV dv r (.ref nq), insV pv r' (.ref tq), a', b', c', lq', _, _, _, _, _, _, rfl, (((sHf.cut (s7.free g8)).trans sg).trans sh).wr fpp, ?_, ?_, ?_, upd_same, by rw [List.length_append, hT]; rfl, ok.snoc hw hbk (by omega) hb' (fun i hi => ?_), ?_, ?_, ?_, hb', by omega, fun i hi => ?_⟩
      · rw [upd_ne npp]
        exact sh _ _ (sg _ _ (by rw [del_ne nqs]; exact epf))
      · exact tuz _ _ elf
      · rw [upd_ne ndp]
        exact sh _ _ (sg _ _ (by rw [del_ne nds]; exact edf))
      · rcases hle i (by omega) with z | z
        · rw [z.1, z.2.1, z.2.2]; exact up
        · exact up3_trans z up
      · refine AN.ins ⟨apl.1, fun m v i e1 e2 => ?_⟩ r' plz
        have hi := hml i (List.mem_of_getElem? e2)
        exact ((apl.2 m v i e1 e2).tups tz).congr (nk_old hi) (bh_old hi) (kd_old fun b' hb' => Nat.lt_trans (ok.back i hi b' hb') hi) (d_old hi)
      · rw [List.range_succ]
        refine (Rga.ins_perm _ _ _).trans ((perm.cons j).trans ?_)
        exact (List.perm_append_singleton j (List.range j)).symm
      · have eb : bhT (TS ++ [(nkOf p2 w (numOf p0 p1 TS.length) e, Rga.bhAt row r, a', b', c')]) j = Rga.bhAt row r := by unfold bhT; rw [← hT, ts_new]
        rw [Rga.row_next, eb, Rga.qs_congr (bh := bhT (TS ++ [(nkOf p2 w (numOf p0 p1 TS.length) e, Rga.bhAt row r, a', b', c')])) (bh' := bhT TS) fun i hi => (bh_old (by omega)).symm]
        rw [← hrow]
        rw [Rga.ins_at hnd (by omega)]
        refine AN.ins ⟨adu.1, fun m v i e1 e2 => ?_⟩ r nmz
        exact ((adu.2 m v i e1 e2).tups tz).congr (nk_old (hrm i (List.mem_of_getElem? e2)))
      · by_cases z : i < TS.length
        · rw [ts_old z]
          refine .inr ?_
          rcases hle i (by omega) with y | y
          · rw [y.1, y.2.1, y.2.2]; exact up
          · exact up3_trans y up
        · obtain rfl : i = TS.length := by omega
          rw [ts_new]
          exact .inl ⟨rfl, rfl, rfl⟩
  · rintro σ H7 ⟨TS, js, dv, pv, a, b, c, lq, u7, u8, u9, u10, u11, u12, rfl, s7, e_p, e_l, e_d, e_pl, hT, ok, apl, perm, adu, hb, hc, hle⟩
    refine ⟨_, rfl, _, rfl, szOk rfl, fun q H8 g8 s8 e8 => ?_⟩
    rw [← hT] at perm adu
    exact kk H8 q pp dp pv dv TS js p0 p1 p2 (s7.trans s8) e8 (s8 _ _ e_pl) (s8 _ _ e_d) ok (by omega) hp1 (apl.imp fun v i g => g.tups s8.tups) perm (adu.imp fun v i g => g.tups s8.tups)
theorem ok_fordered (T : Txt K mg d tk) (gffollowers_of : FnOk P w K mg base CX0 3 d.ffollowers_of d.ffollowers_ofd ["places"] (sp_ffollowers_of K)) : FnOk P w K mg base CX0 4 d.fordered d.forderedd ["places"] (sp_fordered K) := by
  refine T.F_fordered.ok sc_fordered (fun vs H Q E h => len_fordered h) (fun cdv A outer s H vs Q E hr h => ?_)
  have hu : (A.deeper (envOfC "ordered" (defScope s_fordered) s.heap.objs.size d.fordered cdv)).units < cLine := hr.units0
  have hu1 : (A.deeper (envOfC "ordered" (defScope s_fordered) s.heap.objs.size d.fordered cdv)).units + 1 < cLine := hu_of hr
  refine ⟨_, (@pss_cons _ _ _ _ _ (@ps_set _ _ (1) _ _ _ _ sc_fordered.nd rfl (Or.inl rfl) (@pe_call _ _ _ _ _ _ _ _ _ _ _ _ _ _ _ _ gffollowers_of (hr.mono (by decide)) (by rfl) T.m_ffollowers_of T.k_ffollowers_of T.d_ffollowers_of .nil pass0 (@pa_cons _ _ _ _ _ (@pv _ 0 _ _ rfl (Or.inl rfl) rfl rfl) (@pa_nil _) (by rfl)) (by decide) (by rfl) (by rfl)) (by rfl) (by first | exact .inl rfl | exact .inr rfl)) (@pss_cons _ _ _ _ _ (@ps_set _ _ (2) _ _ _ _ sc_fordered.nd rfl (Or.inl rfl) (@pe_lstA _ _ _ _ (@pa_nil _)) (by rfl) (by first | exact .inl rfl | exact .inr rfl)) (@pss_cons _ _ _ _ _ (@ps_set _ _ (3) _ _ _ _ sc_fordered.nd rfl (Or.inl rfl) (@pe_callTy _ _ _ _ _ _ _ _ _ call_lstA (by rfl) T.b_list boot_list (@pa_cons _ _ _ _ _ (@pe_bm _ _ _ _ _ _ _ _ _ _ _ _ PySem.F.plainAttrs_dict PySem.F.slot_dict_get PySem.F.type_dict_get (mt_get2G hu1) (@pv _ 1 _ _ rfl (Or.inl rfl) rfl rfl) (@pa_cons _ _ _ _ _ (@pe_non _ _ _) (@pa_cons _ _ _ _ _ (@pe_lstA _ _ _ _ (@pa_nil _)) (@pa_nil _) (by rfl)) (by rfl)) (by rfl) (by rfl) (by rfl) (by rfl) (by rfl)) (@pa_nil _) (by rfl)) (by decide) (by decide) (by rfl) (by rfl)) (by rfl) (by first | exact .inl rfl | exact .inr rfl)) (@pss_cons _ _ _ _ _ (@ps_while _ _ _ _ _ _ PassesOwn.never (@pt_cmpR _ _ _ _ _ _ _ _ op_gt (@pe_callB _ _ _ _ _ _ _ _ _ call_len_seq (by rfl) T.b_len boot_len (@pa_cons _ _ _ _ _ (@pv _ 3 _ _ rfl (Or.inl rfl) rfl rfl) (@pa_nil _) (by rfl)) (by decide) (by decide) (by rfl) (by rfl)) (@pe_int _ _ _ _) (nomark _)) (@pss_cons _ _ _ _ _ (@ps_set _ _ (4) _ _ _ _ sc_fordered.nd rfl (Or.inl rfl) (@pe_bm0 _ _ _ _ _ _ _ _ _ PySem.F.plainAttrs_list PySem.F.slot_list_pop PySem.F.type_list_pop mt_pop (@pv _ 3 _ _ rfl (Or.inl rfl) rfl rfl) (by rfl) (by rfl)) (by rfl) (by first | exact .inl rfl | exact .inr rfl)) (@pss_cons _ _ _ _ _ (@ps_expr _ _ _ _ (@pe_bm _ _ _ _ _ _ _ _ _ _ _ _ PySem.F.plainAttrs_list PySem.F.slot_list_append PySem.F.type_list_append mt_append (@pv _ 2 _ _ rfl (Or.inl rfl) rfl rfl) (@pa_cons _ _ _ _ _ (@pv _ 4 _ _ rfl (Or.inl rfl) rfl rfl) (@pa_nil _) (by rfl)) (by rfl) (by rfl) (by rfl) (by rfl) (by rfl)) (by rfl)) (@pss_one _ _ _ (@ps_expr _ _ _ _ (@pe_bm _ _ _ _ _ _ _ _ _ _ _ _ PySem.F.plainAttrs_list PySem.F.slot_list_extend PySem.F.type_list_extend mt_extend (@pv _ 3 _ _ rfl (Or.inl rfl) rfl rfl) (@pa_cons _ _ _ _ _ (@pe_bm _ _ _ _ _ _ _ _ _ _ _ _ PySem.F.plainAttrs_dict PySem.F.slot_dict_get PySem.F.type_dict_get (mt_get2G hu1) (@pv _ 1 _ _ rfl (Or.inl rfl) rfl rfl) (@pa_cons _ _ _ _ _ (@pv _ 4 _ _ rfl (Or.inl rfl) rfl rfl) (@pa_cons _ _ _ _ _ (@pe_lstA _ _ _ _ (@pa_nil _)) (@pa_nil _) (by rfl)) (by rfl)) (by rfl) (by rfl) (by rfl) (by rfl) (by rfl)) (@pa_nil _) (by rfl)) (by rfl) (by rfl) (by rfl) (by rfl) (by rfl)) (by rfl)))))) (@pss_one _ _ _ (@ps_ret _ _ _ _ (@pv _ 2 _ _ rfl (Or.inl rfl) rfl rfl))))))), ?_⟩
  obtain ⟨p, ys, nk, bh, D, ms, js, t, rfl, hp, an, perm, W, kk⟩ := h
  have few := W.few
  refine ⟨_, rfl, p, ys, nk, bh, D, ms, js, t, rfl, hp, an, perm, W, fun H1 dq kvs s1 fd => ?_⟩
  refine ⟨szOk rfl, fun rp H2 g2 s2 e2 => ?_⟩
  have fd2 := fd.same s2
  refine ⟨_, rfl, .inr (.inr (.inl ⟨rfl, .inr (.inr ⟨kvs, fd2.has⟩)⟩)), szOk rfl, fun z0 H3 g3 s3 e3 => ?_⟩
  have fd3 := fd2.same s3
  obtain ⟨a, vs, ea, eva, ava⟩ := fd3.get e3 none (fun i z => by cases z)
  refine ⟨dq, kvs, .non, .non, .ref z0, rfl, rfl, fd3.has, rfl, ?_⟩
  rw [show (vG kvs KD.non).getD (V.ref z0) = .ref a from ea]
  refine ⟨a, vs, rfl, .inl (SqL.of eva), fun tp H4 g4 s4 e4 => ?_⟩
  have w : Rga.WF (Rga.qsOf bh ms) := W.wf
  have rl := Rga.row_len w
  have nrt : rp ≠ tp := fun z => by rw [← z, s3 _ _ e2] at g4; cases g4
  have frp : H1 rp = none := g2
  have ftp : H1 tp = none := (s2.trans s3).free g4
  have s14 := (s2.trans s3).trans s4
  have d0 := Rga.dfs_row w
  rw [show Rga.rk (Rga.qsOf bh ms) none = (kids bh ms none).reverse from kids_rk bh ms none] at d0
  refine ⟨fun mm σ H5 => ∃ (out done st : List Nat) (rv tv : List V) (u4 : Option V), σ = [some (.ref p), some (.ref dq), some (.ref rp), some (.ref tp), u4] ∧ Same H1 H5 ∧ H5 rp = some (.lst rv) ∧ AN (NM nk H5) rv done ∧ H5 tp = some (.lst tv) ∧ AN (NM nk H5) tv st ∧ Rga.Dfs (Rga.rk (Rga.qsOf bh ms)) st.reverse out ∧ done ++ out = Rga.rowR (Rga.qsOf bh ms) ∧ mm = out.length,
    ⟨_, _, [], kids bh ms none, [], vs, none, rfl, s14, s4 _ _ (s3 _ _ e2), .nil, e4, ava.imp fun v i g => g.tups s4.tups, d0, rfl, rfl⟩, ?_⟩
  rintro mm σ H5 ⟨out, done, st, rv, tv, u4, rfl, s5, er, ar, et, at', dfs, hR, rfl⟩
  have hlen : done.length + out.length = ms.length := by rw [← rl, ← hR, List.length_append]
  have hst := Rga.dfs_len dfs
  rw [List.length_reverse] at hst
  refine ⟨_, rfl, tp, _, rfl, .inl (SqL.of et), _, _, rfl, rfl, _, rfl, ?_⟩
  rcases List.eq_nil_or_concat st with z | ⟨st', x, z⟩
  · subst z
    have h0 : tv = [] := List.length_eq_zero_iff.mp at'.1
    subst h0
    refine itF rfl ?_
    have := dfs.nil_inv
    subst this
    rw [List.append_nil] at hR
    subst hR
    exact ⟨_, rfl, kk H5 rp rv (s1.trans s5) (s1.free frp) er ar⟩
  rw [List.concat_eq_append] at z
  subst z
  obtain ⟨us, vx, rfl, au, hx⟩ := at'.last
  rw [List.reverse_append, List.reverse_cons, List.reverse_nil, List.nil_append, List.singleton_append] at dfs
  obtain ⟨out', rfl, dfs'⟩ := dfs.cons_inv
  have hxm : x ∈ ms := Rga.row_mem w (by rw [← hR]; exact List.mem_append_right _ List.mem_cons_self)
  rw [show Rga.rk (Rga.qsOf bh ms) (some x) = (kids bh ms (some x)).reverse from kids_rk bh ms (some x)] at dfs'
  have hl2 := Rga.dfs_len dfs'
  rw [List.length_append, List.length_reverse, List.length_reverse] at hl2
  rw [List.length_cons] at hlen
  refine itT (decide_eq_true (by show (0 : Int) < ((us ++ [vx]).length : Nat); rw [List.length_append, List.length_singleton]; omega)) ?_
  refine ⟨fun σ' H' => ∃ (rv tv : List V) (u4 : Option V), σ' = [some (.ref p), some (.ref dq), some (.ref rp), some (.ref tp), u4] ∧ Same H1 H' ∧ H' rp = some (.lst rv) ∧ AN (NM nk H') rv (done ++ [x]) ∧ H' tp = some (.lst tv) ∧ AN (NM nk H') tv (st' ++ kids bh ms (some x)), fun σ' H' ⟨rv', tv', u4', b1, b2, b3, b4, b5, b6⟩ => ⟨out'.length, by rw [List.length_cons]; omega, out', done ++ [x], _, rv', tv', u4', b1, b2, b3, b4, b5, b6, ?_, ?_, rfl⟩, ?_⟩
  · rw [List.reverse_append]
    exact dfs'
  · rw [List.append_assoc]
    exact hR
  refine ⟨_, rfl, .inl ⟨rfl, _, SqL.of et⟩, tp, _, vx, rfl, rfl, et, (by simp), ?_⟩
  rw [List.dropLast_concat]
  have t6 : Tups H5 (upd H5 tp (.lst us)) := Tups.wl et
  have er6 : (upd H5 tp (.lst us)) rp = some (.lst rv) := by rw [upd_ne nrt]; exact er
  refine ⟨_, rfl, .inl ⟨rfl, _, SqL.of er6⟩, _, rfl, rp, _, _, rfl, rfl, er6, (by rw [ar.1]; exact small1000 (by omega)), ?_⟩
  have t7 : Tups (upd H5 tp (.lst us)) (upd (upd H5 tp (.lst us)) rp (.lst (rv ++ [vx]))) := Tups.wl er6
  have et7 : (upd (upd H5 tp (.lst us)) rp (.lst (rv ++ [vx]))) tp = some (.lst us) := by rw [upd_ne nrt.symm, upd_same]
  have s7 : Same H1 (upd (upd H5 tp (.lst us)) rp (.lst (rv ++ [vx]))) := (s5.wr ftp).wr frp
  have fd7 := fd.same s7
  refine ⟨_, rfl, .inl ⟨rfl, _, SqL.of et7⟩, _, rfl, .inr (.inr (.inl ⟨rfl, .inr (.inr ⟨kvs, fd7.has⟩)⟩)), _, rfl, szOk rfl, fun z1 H8 g8 s8 e8 => ?_⟩
  have fd8 := fd7.same s8
  have t8 := (t6.trans t7).trans s8.tups
  obtain ⟨a8, vs8, ea8, ev8, av8⟩ := fd8.get e8 (some x) (fun i z => by cases z; exact hxm)
  refine ⟨dq, kvs, .tup (nk x), vx, .ref z1, rfl, rfl, fd8.has, hx.tups t8, ?_⟩
  rw [show (vG kvs (KD.tup (nk x))).getD (V.ref z1) = .ref a8 from ea8]
  have et8 := s8 _ _ et7
  refine ⟨tp, a8, us, vs8, rfl, rfl, et8, ev8, big (by rw [au.1, av8.1]; omega), ?_⟩
  have t9 : Tups H8 (upd H8 tp (.lst (us ++ vs8))) := Tups.wl et8
  refine ⟨rv ++ [vx], us ++ vs8, _, rfl, (s7.trans s8).wr ftp, ?_, ?_, upd_same, ?_⟩
  · rw [upd_ne nrt]
    exact s8 _ _ upd_same
  · exact ((ar.snoc hx).imp fun v i g => g.tups (t8.trans t9))
  · exact (au.imp fun v i g => g.tups (t8.trans t9)).app (av8.imp fun v i g => g.tups t9)
theorem ok_flaw (T : Txt K mg d tk) (gf_law_begun : FnOk P w K mg base CX0 1 d.f_law_begun d.f_law_begund ["_law_script", "_law_k"] (sp_f_law_begun K)) (gf_law_draw : FnOk P w K mg base CX0 1 d.f_law_draw d.f_law_drawd ["_law_state", "_law_many"] (sp_f_law_draw K)) (gf_law_free : FnOk P w K mg base CX0 2 d.f_law_free d.f_law_freed ["_law_places_here", "_law_some_here", "_law_state"] (sp_f_law_free K)) (gf_law_places : FnOk P w K mg base CX0 3 d.f_law_places d.f_law_placesd ["_law_script"] (sp_f_law_places K)) (gf_law_some : FnOk P w K mg base CX0 2 d.f_law_some d.f_law_somed ["_law_places_here", "_law_state"] (sp_f_law_some K)) (gfordered : FnOk P w K mg base CX0 4 d.fordered d.forderedd ["places"] (sp_fordered K)) : FnOk P w K mg base CX0 5 d.flaw d.flawd ["_law_script"] (sp_flaw K) := by
  refine T.F_flaw.ok sc_flaw (fun vs H Q E h => len_flaw h) (fun cdv A outer s H vs Q E hr h => ?_)
  have hu : (A.deeper (envOfC "law" (defScope s_flaw) s.heap.objs.size d.flaw cdv)).units < cLine := hr.units0
  refine ⟨_, (@pss_cons _ _ _ _ _ (@ps_asg _ _ _ _ _ _ (@pe_call _ _ _ _ _ _ _ _ _ _ _ _ _ _ _ _ gf_law_places (hr.mono (by decide)) (by rfl) T.m_f_law_places T.k_f_law_places T.d_f_law_places .nil pass0 (@pa_cons _ _ _ _ _ (@pv _ 0 _ _ rfl (Or.inl rfl) rfl rfl) (@pa_nil _) (by rfl)) (by decide) (by rfl) (by rfl)) (@pg_tup _ _ _ _ _ _ rfl (@pgs_cons _ _ _ _ _ (@pg_name _ _ (1) _ sc_flaw.nd rfl (Or.inl rfl) (by first | exact .inl rfl | exact .inr rfl)) (@pgs_cons _ _ _ _ _ (@pg_name _ _ (2) _ sc_flaw.nd rfl (Or.inl rfl) (by first | exact .inl rfl | exact .inr rfl)) (@pgs_nil _) (by rfl)) (by rfl)) (by rfl) (by rfl)) (by rfl) (by rfl) (by rfl)) (@pss_cons _ _ _ _ _ (@ps_set _ _ (3) _ _ _ _ sc_flaw.nd rfl (Or.inl rfl) (@pe_call _ _ _ _ _ _ _ _ _ _ _ _ _ _ _ _ gfordered (hr.mono (by decide)) (by rfl) T.m_fordered T.k_fordered T.d_fordered .nil pass0 (@pa_cons _ _ _ _ _ (@pv _ 1 _ _ rfl (Or.inl rfl) rfl rfl) (@pa_nil _) (by rfl)) (by decide) (by rfl) (by rfl)) (by rfl) (by first | exact .inl rfl | exact .inr rfl)) (@pss_cons _ _ _ _ _ (@ps_if _ _ _ _ _ _ _ _ (@pt_cmpR _ _ _ _ _ _ _ _ (op_neD (hu64 hr)) (@pe_callB _ _ _ _ _ _ _ _ _ (call_sortedD (hu61 hr)) (by rfl) T.b_sorted boot_sorted (@pa_cons _ _ _ _ _ (@pv _ 3 _ _ rfl (Or.inl rfl) rfl rfl) (@pa_nil _) (by rfl)) (by decide) (by decide) (by rfl) (by rfl)) (@pe_callB _ _ _ _ _ _ _ _ _ (call_sortedD (hu61 hr)) (by rfl) T.b_sorted boot_sorted (@pa_cons _ _ _ _ _ (@pv _ 2 _ _ rfl (Or.inl rfl) rfl rfl) (@pa_nil _) (by rfl)) (by decide) (by decide) (by rfl) (by rfl)) (nomark _)) (@pss_one _ _ _ (@ps_ret _ _ _ _ (@pe_bl _ _ _ _))) (@pss_nil _)) (@pss_cons _ _ _ _ _ (@ps_set _ _ (4) _ _ _ _ sc_flaw.nd rfl (Or.inl rfl) (@pe_call _ _ _ _ _ _ _ _ _ _ _ _ _ _ _ _ gf_law_begun (hr.mono (by decide)) (by rfl) T.m_f_law_begun T.k_f_law_begun T.d_f_law_begun .nil pass0 (@pa_cons _ _ _ _ _ (@pv _ 0 _ _ rfl (Or.inl rfl) rfl rfl) (@pa_cons _ _ _ _ _ (@pe_int _ _ _ _) (@pa_nil _) (by rfl)) (by rfl)) (by decide) (by rfl) (by rfl)) (by rfl) (by first | exact .inl rfl | exact .inr rfl)) (@pss_cons _ _ _ _ _ (@ps_for _ _ _ _ _ _ _ _ PassesOwn.never rfl (@pi_range1 _ _ _ _ _ _ (by rfl) T.b_range (@pa_cons _ _ _ _ _ (@pe_int _ _ _ _) (@pa_nil _) (by rfl)) (by rfl)) (@pg_name _ _ (5) _ sc_flaw.nd rfl (Or.inl rfl) (by first | exact .inl rfl | exact .inr rfl)) (@pss_cons _ _ _ _ _ (@ps_set _ _ (6) _ _ _ _ sc_flaw.nd rfl (Or.inl rfl) (@pe_call _ _ _ _ _ _ _ _ _ _ _ _ _ _ _ _ gf_law_some (hr.mono (by decide)) (by rfl) T.m_f_law_some T.k_f_law_some T.d_f_law_some .nil pass0 (@pa_cons _ _ _ _ _ (@pv _ 1 _ _ rfl (Or.inl rfl) rfl rfl) (@pa_cons _ _ _ _ _ (@pv _ 4 _ _ rfl (Or.inl rfl) rfl rfl) (@pa_nil _) (by rfl)) (by rfl)) (by decide) (by rfl) (by rfl)) (by rfl) (by first | exact .inl rfl | exact .inr rfl)) (@pss_cons _ _ _ _ _ (@ps_set _ _ (7) _ _ _ _ sc_flaw.nd rfl (Or.inl rfl) (@pe_call _ _ _ _ _ _ _ _ _ _ _ _ _ _ _ _ gfordered (hr.mono (by decide)) (by rfl) T.m_fordered T.k_fordered T.d_fordered .nil pass0 (@pa_cons _ _ _ _ _ (@pv _ 6 _ _ rfl (Or.inl rfl) rfl rfl) (@pa_nil _) (by rfl)) (by decide) (by rfl) (by rfl)) (by rfl) (by first | exact .inl rfl | exact .inr rfl)) (@pss_cons _ _ _ _ _ (@ps_set _ _ (8) _ _ _ _ sc_flaw.nd rfl (Or.inl rfl) (@pe_call _ _ _ _ _ _ _ _ _ _ _ _ _ _ _ _ gf_law_draw (hr.mono (by decide)) (by rfl) T.m_f_law_draw T.k_f_law_draw T.d_f_law_draw .nil pass0 (@pa_cons _ _ _ _ _ (@pv _ 4 _ _ rfl (Or.inl rfl) rfl rfl) (@pa_cons _ _ _ _ _ (@pe_op _ _ _ _ _ _ _ _ op_add (@pe_callB _ _ _ _ _ _ _ _ _ call_len_seq (by rfl) T.b_len boot_len (@pa_cons _ _ _ _ _ (@pv _ 7 _ _ rfl (Or.inl rfl) rfl rfl) (@pa_nil _) (by rfl)) (by decide) (by decide) (by rfl) (by rfl)) (@pe_int _ _ _ _)) (@pa_nil _) (by rfl)) (by rfl)) (by decide) (by rfl) (by rfl)) (by rfl) (by first | exact .inl rfl | exact .inr rfl)) (@pss_cons _ _ _ _ _ (@ps_set _ _ (9) _ _ _ _ sc_flaw.nd rfl (Or.inr rfl) (@pe_tupA _ _ _ _ _ (@pa_cons _ _ _ _ _ (@pe_tupA _ _ _ _ _ (@pa_cons _ _ _ _ _ (@pe_str _ _ _ _) (@pa_cons _ _ _ _ _ (@pe_int _ _ _ _) (@pa_cons _ _ _ _ _ (@pe_int _ _ _ _) (@pa_nil _) (by rfl)) (by rfl)) (by rfl))) (@pa_cons _ _ _ _ _ (@pe_ix _ _ _ _ _ _ _ ix_list (@pe_op _ _ _ _ _ _ _ _ op_catA (@pe_lstA _ _ _ _ (@pa_cons _ _ _ _ _ (@pe_non _ _ _) (@pa_nil _) (by rfl))) (@pv _ 7 _ _ rfl (Or.inl rfl) rfl rfl)) (@pv _ 8 _ _ rfl (Or.inl rfl) rfl rfl) (fun _ _ => rfl)) (@pa_cons _ _ _ _ _ (@pe_call _ _ _ _ _ _ _ _ _ _ _ _ _ _ _ _ gf_law_free (hr.mono (by decide)) (by rfl) T.m_f_law_free T.k_f_law_free T.d_f_law_free .nil pass0 (@pa_cons _ _ _ _ _ (@pv _ 1 _ _ rfl (Or.inl rfl) rfl rfl) (@pa_cons _ _ _ _ _ (@pv _ 6 _ _ rfl (Or.inl rfl) rfl rfl) (@pa_cons _ _ _ _ _ (@pv _ 4 _ _ rfl (Or.inl rfl) rfl rfl) (@pa_nil _) (by rfl)) (by rfl)) (by rfl)) (by decide) (by rfl) (by rfl)) (@pa_nil _) (by rfl)) (by rfl)) (by rfl))) (by rfl) (by first | exact .inl rfl | exact .inr rfl)) (@pss_cons _ _ _ _ _ (@ps_if _ _ _ _ _ _ _ _ (@pt_cmpR _ _ _ _ _ _ _ _ (op_neD (hu64 hr)) (@pe_call _ _ _ _ _ _ _ _ _ _ _ _ _ _ _ _ gfordered (hr.mono (by decide)) (by rfl) T.m_fordered T.k_fordered T.d_fordered .nil pass0 (@pa_cons _ _ _ _ _ (@pe_op _ _ _ _ _ _ _ _ op_catA (@pv _ 6 _ _ rfl (Or.inl rfl) rfl rfl) (@pe_lstA _ _ _ _ (@pa_cons _ _ _ _ _ (@pv _ 9 _ _ rfl (Or.inr (Or.inl rfl)) rfl rfl) (@pa_nil _) (by rfl)))) (@pa_nil _) (by rfl)) (by decide) (by rfl) (by rfl)) (@pe_op _ _ _ _ _ _ _ _ op_catA (@pe_op _ _ _ _ _ _ _ _ op_catA (@pe_slice _ _ _ _ _ _ _ _ _ _ sl_listA (@pv _ 7 _ _ rfl (Or.inl rfl) rfl rfl) (@po_none _) (@po_some _ _ _ (@pv _ 8 _ _ rfl (Or.inl rfl) rfl rfl))) (@pe_lstA _ _ _ _ (@pa_cons _ _ _ _ _ (@pe_ix _ _ _ _ _ _ _ ix_tup (@pv _ 9 _ _ rfl (Or.inr (Or.inl rfl)) rfl rfl) (@pe_int _ _ _ _) (fun _ _ => rfl)) (@pa_nil _) (by rfl)))) (@pe_slice _ _ _ _ _ _ _ _ _ _ sl_listA (@pv _ 7 _ _ rfl (Or.inl rfl) rfl rfl) (@po_some _ _ _ (@pv _ 8 _ _ rfl (Or.inl rfl) rfl rfl)) (@po_none _))) (nomark _)) (@pss_one _ _ _ (@ps_ret _ _ _ _ (@pe_bl _ _ _ _))) (@pss_nil _)) (@pss_cons _ _ _ _ _ (@ps_set _ _ (10) _ _ _ _ sc_flaw.nd rfl (Or.inl rfl) (@pe_call _ _ _ _ _ _ _ _ _ _ _ _ _ _ _ _ gfordered (hr.mono (by decide)) (by rfl) T.m_fordered T.k_fordered T.d_fordered .nil pass0 (@pa_cons _ _ _ _ _ (@pe_op _ _ _ _ _ _ _ _ op_catA (@pe_lstA _ _ _ _ (@pa_cons _ _ _ _ _ (@pv _ 9 _ _ rfl (Or.inr (Or.inl rfl)) rfl rfl) (@pa_nil _) (by rfl))) (@pv _ 1 _ _ rfl (Or.inl rfl) rfl rfl)) (@pa_nil _) (by rfl)) (by decide) (by rfl) (by rfl)) (by rfl) (by first | exact .inl rfl | exact .inr rfl)) (@pss_cons _ _ _ _ _ (@ps_if _ _ _ _ _ _ _ _ (@pt_cmpR _ _ _ _ _ _ _ _ (op_neD (hu64 hr)) (@pe_lcomp _ _ _ _ _ _ _ (["_law_name_here"]) ([("_law_more", 9)]) _ _ _ _ _ rfl (@pi_list _ _ _ _ (@pv _ 10 _ _ rfl (Or.inl rfl) rfl rfl)) ⟨rfl, by decide +kernel, by decide +kernel⟩ (caps_def (defScope s_flaw) ["_law_script", "_law_places_here", "_law_due", "_law_told", "_law_state", "_law_turn", "_law_some_here", "_law_heard", "_law_at", "_law_more", "_law_found", "_law_place"] rfl rfl (fun _ h => cell_has h) (by decide +kernel) (by decide +kernel) (by decide +kernel)) (fun _ _ _ => (@pg_name _ _ (0) _ (by show List.Nodup (["_law_name_here", "_law_more"] : List Str); decide +kernel) rfl (Or.inl rfl) (by first | exact .inl rfl | exact .inr rfl))) (fun _ => fresh_name rfl) (fun _ _ _ => (@pts_one _ _ _ (@pt_cmpR _ _ _ _ _ _ _ _ (op_neDK (K := K) rfl (hu64 hr)) (@pv _ 0 _ _ rfl (Or.inl rfl) rfl rfl) (@pe_ix _ _ _ _ _ _ _ (ix_tupK (K := K) rfl) (@pv _ 1 _ _ rfl (Or.inr (Or.inl rfl)) rfl rfl) (@pe_int _ _ _ _) (fun _ _ => rfl)) (nomark _)))) (fun _ _ _ => (@pv _ 0 _ _ rfl (Or.inl rfl) rfl rfl)) (by intro _; rfl)) (@pv _ 3 _ _ rfl (Or.inl rfl) rfl rfl) (nomark _)) (@pss_one _ _ _ (@ps_ret _ _ _ _ (@pe_bl _ _ _ _))) (@pss_nil _)) (@pss_cons _ _ _ _ _ (@ps_set _ _ (11) _ _ _ _ sc_flaw.nd rfl (Or.inl rfl) (@pe_bm _ _ _ _ _ _ _ _ _ _ _ _ PySem.F.plainAttrs_list PySem.F.slot_list_index PySem.F.type_list_index (mt_indexD (hu61 hr)) (@pv _ 10 _ _ rfl (Or.inl rfl) rfl rfl) (@pa_cons _ _ _ _ _ (@pe_ix _ _ _ _ _ _ _ ix_tup (@pv _ 9 _ _ rfl (Or.inr (Or.inl rfl)) rfl rfl) (@pe_int _ _ _ _) (fun _ _ => rfl)) (@pa_nil _) (by rfl)) (by rfl) (by rfl) (by rfl) (by rfl) (by rfl)) (by rfl) (by first | exact .inl rfl | exact .inr rfl)) (@pss_cons _ _ _ _ _ (@ps_if _ _ _ _ _ _ _ _ (@PW.pt _ _ _ (@pw_and _ _ _ _ _ _ _ (@pt_cmpR _ _ _ _ _ _ _ _ op_gt (@pv _ 8 _ _ rfl (Or.inl rfl) rfl rfl) (@pe_int _ _ _ _) (nomark _)) (@pw_and1 _ _ _ _ (@pt_cmpR _ _ _ _ _ _ _ _ op_gt (@pe_bm _ _ _ _ _ _ _ _ _ _ _ _ PySem.F.plainAttrs_list PySem.F.slot_list_index PySem.F.type_list_index (mt_indexD (hu61 hr)) (@pv _ 10 _ _ rfl (Or.inl rfl) rfl rfl) (@pa_cons _ _ _ _ _ (@pe_ix _ _ _ _ _ _ _ ix_list (@pv _ 7 _ _ rfl (Or.inl rfl) rfl rfl) (@pe_op _ _ _ _ _ _ _ _ op_sub (@pv _ 8 _ _ rfl (Or.inl rfl) rfl rfl) (@pe_int _ _ _ _)) (fun _ _ => rfl)) (@pa_nil _) (by rfl)) (by rfl) (by rfl) (by rfl) (by rfl) (by rfl)) (@pv _ 11 _ _ rfl (Or.inl rfl) rfl rfl) (nomark _))))) (@pss_one _ _ _ (@ps_ret _ _ _ _ (@pe_bl _ _ _ _))) (@pss_nil _)) (@pss_one _ _ _ (@ps_if _ _ _ _ _ _ _ _ (@PW.pt _ _ _ (@pw_and _ _ _ _ _ _ _ (@pt_cmpR _ _ _ _ _ _ _ _ op_lt (@pv _ 8 _ _ rfl (Or.inl rfl) rfl rfl) (@pe_callB _ _ _ _ _ _ _ _ _ call_len_seq (by rfl) T.b_len boot_len (@pa_cons _ _ _ _ _ (@pv _ 7 _ _ rfl (Or.inl rfl) rfl rfl) (@pa_nil _) (by rfl)) (by decide) (by decide) (by rfl) (by rfl)) (nomark _)) (@pw_and1 _ _ _ _ (@pt_cmpR _ _ _ _ _ _ _ _ op_lt (@pe_bm _ _ _ _ _ _ _ _ _ _ _ _ PySem.F.plainAttrs_list PySem.F.slot_list_index PySem.F.type_list_index (mt_indexD (hu61 hr)) (@pv _ 10 _ _ rfl (Or.inl rfl) rfl rfl) (@pa_cons _ _ _ _ _ (@pe_ix _ _ _ _ _ _ _ ix_list (@pv _ 7 _ _ rfl (Or.inl rfl) rfl rfl) (@pv _ 8 _ _ rfl (Or.inl rfl) rfl rfl) (fun _ _ => rfl)) (@pa_nil _) (by rfl)) (by rfl) (by rfl) (by rfl) (by rfl) (by rfl)) (@pv _ 11 _ _ rfl (Or.inl rfl) rfl rfl) (nomark _))))) (@pss_one _ _ _ (@ps_ret _ _ _ _ (@pe_bl _ _ _ _))) (@pss_nil _)))))))))))) (by intro _; rfl)) (@pss_one _ _ _ (@ps_ret _ _ _ _ (@pe_bl _ _ _ _)))))))), ?_⟩
  obtain ⟨sp, ns, rfl, hs, hl, hT0, kk⟩ := h
  refine ⟨_, rfl, sp, ns, rfl, hs, hl, fun H1 q1 pp dp pv dv TS js p0 p1 p2 s1 e1 ep ed ok hn hp1 apl perm adu => ?_⟩
  refine ⟨q1, _, rfl, SqT.of e1, rfl, _, _, rfl, _, _, rfl, rfl, ?_⟩
  have W := ok.plw hn hp1
  refine ⟨_, rfl, pp, pv, nkT TS, bhT TS, dT p2 TS, List.range TS.length, js, 2, rfl, SqL.of ep, apl, perm, W, fun H2 tp tv s2 g2 e2 atv => ?_⟩
  have wfr : Rga.WF (Rga.qsOf (bhT TS) (List.range TS.length)) := W.wf
  have rlen := Rga.row_len wfr
  have rnd := Rga.row_nodup wfr
  have rmem : ∀ i ∈ Rga.rowR (Rga.qsOf (bhT TS) (List.range TS.length)), i < TS.length := fun i hi => List.mem_range.mp (Rga.row_mem wfr hi)
  rw [List.length_range] at rlen
  generalize hrow : Rga.rowR (Rga.qsOf (bhT TS) (List.range TS.length)) = row at adu atv rlen rnd rmem
  have htl : tv.length = TS.length := by rw [atv.1, rlen]
  have hdl : dv.length = TS.length := by rw [adu.1, rlen]
  have hpl : pv.length = TS.length := by rw [apl.1, perm.length_eq, List.length_range]
  have nkeys := name_keys ok rmem
  refine ⟨_, rfl, tp, tv, row.map (dN (nkT TS)), 3, rfl, SqL.of e2, (atv.dts fun v i g => NM.dt g).dv, nkeys, by omega, fun sa Ha ixa ga ssa sixa ea => ?_⟩
  have a1 : AN (NM (nkT TS) Ha) dv row := adu.imp fun v i g => g.tups (s2.trans ssa).tups
  refine ⟨_, rfl, dp, dv, row.map (dN (nkT TS)), 3, rfl, SqL.of (ssa _ _ (s2 _ _ ed)), (a1.dts fun v i g => NM.dt g).dv, nkeys, by omega, fun sb Hb ixb gb ssb sixb eb => ?_⟩
  have hixa : ∀ i ∈ ixa, i < tv.length := fun i hi => by
    have := (sixa.1.mem_iff).mp hi
    rw [List.mem_range, List.length_map] at this
    omega
  have hixb : ∀ i ∈ ixb, i < dv.length := fun i hi => by
    have := (sixb.1.mem_iff).mp hi
    rw [List.mem_range, List.length_map] at this
    omega
  have anA := (atv.ix ixa hixa).imp fun v i g => g.tups (ssa.trans ssb).tups
  have anB := (a1.ix ixb hixb).imp fun v i g => g.tups ssb.tups
  have same := sort_same nkeys sixa sixb
  have dA := anA.dts fun v i g => NM.dt g
  have dB := anB.dts fun v i g => NM.dt g
  rw [← same] at dB
  have pixa : ixa.Perm (List.range row.length) := by have := sixa.1; rwa [List.length_map] at this
  have nkA := nkeys.perm ((perm_ix pixa).map (dN (nkT TS)))
  refine ⟨.list ((ixa.map fun i => row.getD i 0).map (dN (nkT TS))), .list ((ixa.map fun i => row.getD i 0).map (dN (nkT TS))), .lst (SqL.of (ssb _ _ ea)) dA.dv, .lst (SqL.of eb) dB.dv, nkA.lay, nkA.lay, ?_, _, rfl, ?_⟩
  · have := depth_le nkA.deep
    show min (PyData.depthAll _ + 1) (PyData.depthAll _ + 1) ≤ 64
    omega
  rw [list_selfS fun d hd => nkA.one d hd d hd]
  refine itF rfl ?_
  have s1b := (s2.trans ssa).trans ssb
  have epb := s1b _ _ ep
  have s0b := s1.trans s1b
  have etb : Hb tp = some (.lst tv) := (ssa.trans ssb) _ _ e2
  have tbb : TBL K Hb := .inl (s0b _ _ hT0)
  refine ⟨_, rfl, sp, ns, 62, rfl, hs.same s0b, by omega, fun H9 st s9 g9 r9 => ?_⟩
  have nP : ∀ {b u}, Hb b = some u → (∀ ps, u ≠ .tbl ps) → b ≠ tabP K "_law_some" := fun {b u} e hu z => by
    obtain ⟨ps, t'⟩ := tbb.tbl
    rw [← z, e] at t'
    exact hu _ (Option.some.inj t')
  have tD : Tups Hb (del Hb (tabP K "_law_some")) := fun b xs e => by
    rw [del_ne (nP e fun ps z => by cases z)]
    exact e
  have aplD : AN (PL (nkT TS) (bhT TS) (dT p2 TS) (del Hb (tabP K "_law_some"))) pv js := apl.imp fun v i g => (g.tups s1b.tups).tups tD
  have atvD : AN (NM (nkT TS) (del Hb (tabP K "_law_some"))) tv row := atv.imp fun v i g => (g.tups (ssa.trans ssb).tups).tups tD
  have sD : Same (del Hb (tabP K "_law_some")) Hb := del_same
  have dst : del Hb (tabP K "_law_some") st = none := del_free g9
  have dtp : del Hb (tabP K "_law_some") (tabP K "_law_some") = none := del_at
  have epd : del Hb (tabP K "_law_some") pp = some (.lst pv) := by rw [del_ne (nP epb fun ps z => by cases z)]; exact epb
  have etd : del Hb (tabP K "_law_some") tp = some (.lst tv) := by rw [del_ne (nP etb fun ps z => by cases z)]; exact etb
  generalize del Hb (tabP K "_law_some") = Hd at tD aplD atvD sD dst dtp epd etd
  have nps : pp ≠ st := fun z => by rw [z, dst] at epd; cases epd
  have N : NW (nkT TS) (List.range TS.length) := ⟨name_keys ok fun i hi => List.mem_range.mp hi, W.inj⟩
  have rin : ∀ i ∈ row, i ∈ List.range TS.length := fun i hi => List.mem_range.mpr (rmem i hi)
  have jin : ∀ i ∈ js, i ∈ List.range TS.length := fun i hi => perm.mem_iff.mp hi
  have hjl : js.length = TS.length := by rw [perm.length_eq, List.length_range]
  refine ⟨10, rfl, by decide, by decide, for_range (lo := 0) (n := (10 : Int).toNat) (fun j σ Hx => ∃ u5 u6 u7 u8 u9 u10 u11 : Option V, σ = [some (.ref sp), some (.ref pp), some (.ref dp), some (.ref tp), some (.ref st), u5, u6, u7, u8, u9, u10, u11] ∧ Same Hd Hx ∧ SR Hx st (70 * j) ∧ TBL K Hx) ⟨_, _, _, _, _, _, _, rfl, sD.trans s9, r9, tbb.same s9⟩ ?_ ?_⟩
  · rintro j σ Hx hj ⟨u5, u6, u7, u8, u9, u10, u11, rfl, sx, rx, tx⟩
    have hj6 : j < 10 := hj
    refine ⟨_, rfl, _, rfl, pp, st, pv, nkT TS, bhT TS, dT p2 TS, List.range TS.length, js, 2, 70 * j, rfl, (by rw [del_ne nps]; exact sx _ _ epd), aplD.imp (fun v i g => g.tups sx.tups), perm, W, rx, by omega, tx, fun Ha q sv kept sa ra ta eq as hcl => ?_⟩
    have s1' : Same Hd Ha := ((sx.cut dst).cut dtp).trans sa
    obtain ⟨za, zb, zc, ze, hst, zz⟩ := id ra
    have sHs : Same Hd (del Ha st) := s1'.cut dst
    have tHs : TBL K (del Ha st) := ta.cut hst (fun ps z => by cases z) (fun φ z => by cases z) (Same.refl _)
    have asS : AN (PL (nkT TS) (bhT TS) (dT p2 TS) (del Ha st)) sv (js.filter kept) := as.imp fun v i g => g.tups (Tups.cut hst (Same.refl _))
    have sst : del Ha st st = none := del_at
    have sSa : Same (del Ha st) Ha := del_same
    generalize del Ha st = Hs at eq sHs tHs asS sst sSa
    have hsl : sv.length ≤ TS.length := by rw [as.1]; exact Nat.le_trans (List.length_filter_le _ _) (by omega)
    have kin : ∀ i ∈ js.filter kept, i < TS.length := fun i hi => List.mem_range.mp (jin i (List.mem_filter.mp hi).1)
    have W' := W.filter (P := kept) fun k _ hk b hb => hcl k hk b hb
    have go : ∀ {Hx Hy : Hp}, Same Hs Hx → Same (del Hx st) Hy → Same Hs Hy := fun s t => (s.cut sst).trans t
    refine ⟨_, rfl, q, sv, nkT TS, bhT TS, dT p2 TS, (List.range TS.length).filter kept, js.filter kept, 2, rfl, SqL.of (sSa _ _ eq), asS.imp (fun v i g => g.tups sSa.tups), perm.filter kept, W', fun Hf hq hv sf gf ef af => ?_⟩
    rw [Rga.qs_filter, Rga.row_filter (Rga.clo_qs fun k _ hk b hb => hcl k hk b hb), hrow] at af
    have hvl : hv.length = (row.filter kept).length := af.1
    have hrl : (row.filter kept).length ≤ TS.length := by rw [← rlen]; exact List.length_filter_le _ _
    have rF := ra.same sf
    have hqs : hq ≠ st := fun z => by
      rw [z, hst] at gf
      cases gf
    have sF : Same Hs Hf := sSa.trans sf
    have sFs : Same Hs (del Hf st) := sF.cut sst
    have efs : del Hf st hq = some (.lst hv) := by rw [del_ne hqs]; exact ef
    have tfs : Tups Hf (del Hf st) := rF.cut (Same.refl _)
    have afs : AN (NM (nkT TS) (del Hf st)) hv (row.filter kept) := af.imp fun v i g => g.tups tfs
    have fst' : del Hf st st = none := del_at
    refine ⟨_, rfl, _, rfl, hq, _, rfl, .inl (SqL.of ef), _, _, rfl, rfl, st, _, hv.length + 1, (by rw [show ((hv.length + 1 : Nat) : Int) = (hv.length : Int) + 1 by omega]; rfl), rF, by omega, by omega, by omega, fun Ja r sa' ra' hr => ?_⟩
    generalize del Hf st = Hg at sFs efs tfs afs fst' sa'
    have go2 : ∀ {Hx Hy : Hp}, Same Hg Hx → Same (del Hx st) Hy → Same Hg Hy := fun s t => (s.cut fst').trans t
    have hrr : r ≤ (row.filter kept).length := by omega
    refine ⟨szOk rfl, fun nq Jb gb sb' eb' => ?_⟩
    refine ⟨szOk rfl, fun z1 Jc gc' sc' ec' => ?_⟩
    have tc := (sa'.trans sb').trans sc'
    refine ⟨_, rfl, z1, hq, _, _, rfl, rfl, ec', tc _ _ efs, big (by show 1 + hv.length ≤ 1000; omega), fun z2 Jd gd' sd' ed' => ?_⟩
    have td := tc.trans sd'
    have hbk : ∀ i, Rga.bhAt (row.filter kept) r = some i → i < TS.length := fun i hi => by
      cases r with
      | zero => cases hi
      | succ r => exact rmem i (List.mem_filter.mp (List.mem_of_getElem? (show (row.filter kept)[r]? = some i from hi))).1
    obtain ⟨vb, hvb, hgk⟩ : ∃ vb, atI ([.non] ++ hv) (r : Int) = some vb ∧ GK Jd (kd (nkT TS) (Rga.bhAt (row.filter kept) r)) vb := by
      cases r with
      | zero => exact ⟨.non, atI_nat (j := 0) rfl, rfl⟩
      | succ r =>
        have hr' : r < hv.length := by omega
        have hr2 : (row.filter kept)[r]? = some (row.filter kept)[r] := List.getElem?_eq_getElem (by omega)
        refine ⟨hv[r], atI_nat (j := r + 1) (by show hv[r]? = _; rw [List.getElem?_eq_getElem hr']), ?_⟩
        show GK Jd (kd (nkT TS) (row.filter kept)[r]?) hv[r]
        rw [hr2]
        exact (afs.2 r hv[r] _ (List.getElem?_eq_getElem hr') hr2).tups td.tups
    refine ⟨_, rfl, z2, _, (r : Int), vb, rfl, rfl, SqL.of ed', hvb, ?_⟩
    have rd := ((ra'.same sb').same sc').same sd'
    have ndst : ∀ {b u}, Hg b = some u → b ≠ st := fun {b u} e z => by rw [z, fst'] at e; cases e
    have epg : Hg pp = some (.lst pv) := sFs _ _ (sHs _ _ epd)
    have eqg : Hg q = some (.lst sv) := sFs _ _ eq
    have apg : AN (PL (nkT TS) (bhT TS) (dT p2 TS) Hg) pv js := aplD.imp fun v i g => g.tups (sHs.trans sFs).tups
    have asg : AN (PL (nkT TS) (bhT TS) (dT p2 TS) Hg) sv (js.filter kept) := asS.imp fun v i g => g.tups sFs.tups
    refine ⟨_, rfl, _, rfl, _, rfl, pp, q, st, pv, sv, nkT TS, bhT TS, dT p2 TS, js, js.filter kept, iT p2 TS, _, rfl, (by rw [del_ne (ndst epg)]; exact td _ _ epg), (by rw [del_ne (ndst eqg)]; exact td _ _ eqg), apg.imp (fun v i g => g.tups td.tups), asg.imp (fun v i g => g.tups td.tups), fun i => iT_D p2 TS i, fun i hi => iT_low ok (List.mem_range.mp (jin i hi)), fun i hi => (List.mem_filter.mp hi).1, by omega, by rw [← as.1]; omega, rd, by omega, fun Je kq a b se' re ekq hlt hne => ?_⟩
    have te := go2 td se'
    refine ⟨szOk rfl, fun mo Jg gg sg eg => ?_⟩
    have tg := te.trans sg
    have rg := re.same sg
    have hlt' : ∀ i, i < TS.length → kept i = true → ltD (dT p2 TS i) (.tuple [.int a, .int b, .int 0]) = true := fun i hi hk => hlt i (List.mem_filter.mpr ⟨perm.mem_iff.mpr (List.mem_range.mpr hi), hk⟩)
    have hne' : ∀ i, i < TS.length → dT p2 TS i ≠ .tuple [.int a, .int b, .int 0] := fun i hi => hne i (perm.mem_iff.mpr (List.mem_range.mpr hi))
    obtain ⟨nk', bh', D', Z⟩ := newP_ex p2 TS (Rga.bhAt (row.filter kept) r) a b
    obtain ⟨PS, rowS, msA, rowA, pA, PA, hrA, ndA, leA, inA, fil1, fil2⟩ := put_in ok hn hp1 hrow Z hrr hcl hlt' hne'
    have NN := Z.nw ok hn hp1
    have tde : Tups Jd Jg := (rd.cut se').trans sg.tups
    have kdo : ∀ k : Option Nat, (∀ i, k = some i → i < TS.length) → kd (nkT TS) k = kd nk' k := fun k hk => by
      cases k with
      | none => rfl
      | some i => show KD.tup _ = KD.tup _; rw [Z.nko i (hk i rfl)]
    have enq : Jg nq = some (.tup [.str "new", .int 0, .int 0]) := tde _ _ (sd' _ _ (sc' _ _ eb'))
    have newPL : PL nk' bh' D' Jg (.ref mo) TS.length := ⟨mo, .ref nq, vb, .ref kq, rfl, eg, ⟨nq, rfl, by rw [Z.nkn]; exact enq⟩, by rw [Z.bhn, ← kdo _ hbk]; exact hgk.tups tde, by rw [Z.Dn]; exact .tup (sg _ _ ekq) (.cons (.int _) (.cons (.int _) (.cons (.int _) .nil)))⟩
    have newNM : ∀ {Y : Hp}, Same Jg Y → NM nk' Y (.ref nq) TS.length := fun s => ⟨nq, rfl, by rw [Z.nkn]; exact s _ _ enq⟩
    have plc : ∀ {Y : Hp} {v : V} {i : Nat}, i < TS.length → PL (nkT TS) (bhT TS) (dT p2 TS) Y v i → PL nk' bh' D' Y v i := fun {Y v i} hi g => g.congr (Z.nko i hi) (Z.bho i hi) (kdo _ fun b' hb' => Nat.lt_trans (ok.back i hi b' hb') hi) (Z.Do i hi)
    have nmc : ∀ {Y : Hp} {v : V} {i : Nat}, i < TS.length → NM (nkT TS) Y v i → NM nk' Y v i := fun {Y v i} hi g => g.congr (Z.nko i hi)
    have anS : AN (PL nk' bh' D' Jg) sv (js.filter kept) := ⟨asg.1, fun m v i e1 e2 => plc (kin i (List.mem_of_getElem? e2)) ((asg.2 m v i e1 e2).tups tg.tups)⟩
    have anP : AN (PL nk' bh' D' Jg) pv js := ⟨apg.1, fun m v i e1 e2 => plc (List.mem_range.mp (jin i (List.mem_of_getElem? e2))) ((apg.2 m v i e1 e2).tups tg.tups)⟩
    have anH : AN (NM nk' Jg) hv (row.filter kept) := ⟨afs.1, fun m v i e1 e2 => nmc (rmem i (List.mem_filter.mp (List.mem_of_getElem? e2)).1) ((afs.2 m v i e1 e2).tups tg.tups)⟩
    have anT : AN (NM nk' Jg) tv row := ⟨atvD.1, fun m v i e1 e2 => nmc (rmem i (List.mem_of_getElem? e2)) ((atvD.2 m v i e1 e2).tups ((sHs.trans sFs).trans tg).tups)⟩
    refine ⟨_, rfl, _, rfl, szOk rfl, fun y0 Jh gh sh eh => ?_⟩
    refine ⟨q, y0, _, _, rfl, rfl, sh _ _ (tg _ _ eqg), eh, big (by show sv.length + 1 ≤ 1000; omega), fun x5 Ji gi si ei => ?_⟩
    have sgi := sh.trans si
    refine ⟨x5, sv ++ [.ref mo], nk', bh', D', (List.range TS.length).filter kept ++ [TS.length], js.filter kept ++ [TS.length], 2, rfl, SqL.of ei, (anS.snoc newPL).imp (fun v i g => g.tups sgi.tups), (perm.filter kept).append_right _, PS, fun Jj fq fv sj gj ej af2 => ?_⟩
    rw [rowS] at af2
    have sgj := sgi.trans sj
    have tj := tg.trans sgj
    refine ⟨_, rfl, _, rfl, _, rfl, hq, _, rfl, SqL.of (tj _ _ efs), fun y1 Jk gk sk' ek => ?_⟩
    have emo : Jk mo = some (.tup [.ref nq, vb, .ref kq]) := sk' _ _ (sgj _ _ eg)
    refine ⟨_, rfl, mo, _, 0, _, rfl, rfl, SqT.of emo, rfl, szOk rfl, fun y2 Jl gl sl el => ?_⟩
    rw [cut_take (by omega)] at ek
    refine ⟨y1, y2, _, _, rfl, rfl, sl _ _ ek, el, big (by rw [List.length_take]; show _ + 1 ≤ 1000; omega), fun y3 Jm gm sm em => ?_⟩
    have tm := ((tj.trans sk').trans sl).trans sm
    refine ⟨_, rfl, _, rfl, _, rfl, hq, _, rfl, SqL.of (tm _ _ efs), fun y4 Jn gn sn en => ?_⟩
    rw [cut_drop (by omega)] at en
    refine ⟨y3, y4, _, _, rfl, rfl, sn _ _ em, en, big (by rw [List.length_append, List.length_take, List.length_drop]; show _ + 1 + _ ≤ 1000; omega), fun y5 Jo go' so eo => ?_⟩
    have sjo : Same Jj Jo := (((sk'.trans sl).trans sm).trans sn).trans so
    have sgo := sgj.trans sjo
    have to := tj.trans sjo
    have inS : ∀ i ∈ Rga.insN (row.filter kept) r TS.length, i ∈ List.range (TS.length + 1) := fun i hi => by
      rcases List.mem_cons.mp ((Rga.ins_perm _ _ _).mem_iff.mp hi) with z | z
      · exact List.mem_range.mpr (by omega)
      · exact List.mem_range.mpr (by have := rmem i (List.mem_filter.mp z).1; omega)
    have NS := NN.sub inS
    have an1 : AN (NM nk' Jo) fv (Rga.insN (row.filter kept) r TS.length) := af2.imp fun v i g => g.tups sjo.tups
    have an2 : AN (NM nk' Jo) (insV hv r (.ref nq)) (Rga.insN (row.filter kept) r TS.length) := AN.ins (anH.imp fun v i g => g.tups sgo.tups) r (newNM sgo)
    refine ⟨.list ((Rga.insN (row.filter kept) r TS.length).map (dN nk')), .list ((Rga.insN (row.filter kept) r TS.length).map (dN nk')), .lst (SqL.of (sjo _ _ ej)) (an1.dts fun v i g => NM.dt g).dv, .lst (SqL.of (by unfold insV; rw [← List.singleton_append, ← List.append_assoc]; exact eo)) (an2.dts fun v i g => NM.dt g).dv, NS.keys.lay, NS.keys.lay, ?_, _, rfl, ?_⟩
    · have := depth_le NS.keys.deep
      show min (PyData.depthAll _ + 1) (PyData.depthAll _ + 1) ≤ 64
      omega
    rw [list_selfS fun d hd => NS.keys.one d hd d hd]
    refine itF rfl ?_
    refine ⟨_, rfl, szOk rfl, fun x6 Jp gp sp' ep' => ?_⟩
    refine ⟨_, rfl, x6, pp, _, _, rfl, rfl, ep', sp' _ _ (to _ _ epg), big (by show 1 + pv.length ≤ 1000; omega), fun x7 Jq gq sq eq7 => ?_⟩
    have sgq := (sgo.trans sp').trans sq
    have anA : AN (PL nk' bh' D' Jq) ([.ref mo] ++ pv) ([TS.length] ++ js) := ((AN.one newPL).app anP).imp fun v i g => g.tups sgq.tups
    refine ⟨x7, [.ref mo] ++ pv, nk', bh', D', msA, [TS.length] ++ js, 2, rfl, SqL.of eq7, anA, (perm.cons _).trans pA.symm, PA, fun Jr gq' gv sr gr er ag => ?_⟩
    rw [hrA] at ag
    have hgl : gv.length = rowA.length := ag.1
    have hrAl : rowA.length ≤ 61 := by
      have := Rga.row_len (show Rga.WF (Rga.qsOf bh' msA) from PA.wf)
      rw [hrA, pA.length_eq, List.length_cons, List.length_range] at this
      omega
    have sgr := sgq.trans sr
    have tr := tg.trans sgr
    have inR : ∀ i ∈ rowA, i ∈ List.range (TS.length + 1) := fun i hi => List.mem_range.mpr (by have := leA i hi; omega)
    have inN : TS.length ∈ List.range (TS.length + 1) := List.mem_range.mpr (by omega)
    have NR := NN.sub inR
    have emr : Jr mo = some (.tup [.ref nq, vb, .ref kq]) := sgr _ _ eg
    refine ⟨_, rfl, gq', rfl, ⟨_, SqL.of er⟩, lc_any (xs := gv) (big (by omega)) (fun j vs H' => Same Jr H' ∧ AN (NM nk' H') vs ((rowA.take j).filter fun i => decide (i ≠ TS.length))) ⟨Same.refl _, .nil⟩ (fun _ _ H' s' => SqL.of (s'.1 _ _ er)) (fun j x vs H' K1 K0 hx s' k1 k0 => ?_) fun Js cq cv ss hys hqs' => ?_⟩
    · obtain ⟨s', cv'⟩ := s'
      obtain ⟨m, em', nm⟩ := ag.at hx
      have nm' := nm.tups s'.tups
      have hmr : m ∈ List.range (TS.length + 1) := inR m (List.mem_of_getElem? em')
      refine ⟨_, rfl, _, rfl, mo, _, 0, _, rfl, rfl, SqT.of (s' _ _ emr), rfl, dN nk' m, dN nk' TS.length, (NM.dt nm').dv, (NM.dt (newNM (sgr.trans s'))).dv, NN.lay hmr, NN.lay inN, by have := NN.deep hmr; omega, _, rfl, ?_⟩
      rw [NN.eqv hmr inN]
      have htk : rowA.take (j + 1) = rowA.take j ++ [m] := by rw [List.take_add_one, em']; rfl
      by_cases hk : m = TS.length
      · refine itF (by rw [decide_eq_true hk]; rfl) (k0 _ ⟨s', ?_⟩)
        rw [htk]
        exact cv'.skip (by rw [decide_eq_false (fun z => z hk)]; decide)
      · refine itT (by rw [decide_eq_false hk]; rfl) ⟨_, rfl, k1 _ _ ⟨s', ?_⟩⟩
        rw [htk]
        exact AN.pick (vs := vs) cv' nm' (decide_eq_true hk)
    obtain ⟨ss, acv⟩ := ss
    rw [hgl, List.take_length, fil1] at acv
    have nS : Same Js (L2.upd Js cq (.lst cv)) := Same.new hqs'
    have ecq : (L2.upd Js cq (.lst cv)) cq = some (.lst cv) := upd_same
    generalize L2.upd Js cq (.lst cv) = JS at nS ecq
    have srS := ss.trans nS
    have sgS := sgr.trans srS
    have tS := tg.trans sgS
    have aC : AN (NM nk' JS) cv row := acv.imp fun v i g => g.tups nS.tups
    have aT : AN (NM nk' JS) tv row := anT.imp fun v i g => g.tups sgS.tups
    have NT := NN.sub (ls := row) fun i hi => List.mem_range.mpr (by have := rmem i hi; omega)
    refine ⟨_, rfl, .list (row.map (dN nk')), .list (row.map (dN nk')), .lst (SqL.of ecq) (aC.dts fun v i g => NM.dt g).dv, .lst (SqL.of (((sHs.trans sFs).trans tS) _ _ etd)) (aT.dts fun v i g => NM.dt g).dv, NT.keys.lay, NT.keys.lay, ?_, _, rfl, ?_⟩
    · have := depth_le NT.keys.deep
      show min (PyData.depthAll _ + 1) (PyData.depthAll _ + 1) ≤ 64
      omega
    rw [list_selfS fun d hd => NT.keys.one d hd d hd]
    refine itF rfl ?_
    have erS := srS _ _ er
    have agS : AN (NM nk' JS) gv rowA := ag.imp fun v i g => g.tups srS.tups
    have emS : JS mo = some (.tup [.ref nq, vb, .ref kq]) := sgS _ _ eg
    have first : ∀ {i m k : Nat} {d : PyData}, rowA[k]? = some i → m < k → (rowA.map (dN nk'))[m]? = some d → PyData.eqv d (dN nk' i) = false := fun {i m k d} hk hm hd => by
      rw [List.getElem?_map] at hd
      cases e : rowA[m]? with
      | none => rw [e] at hd; cases hd
      | some i' =>
        rw [e] at hd
        cases hd
        rw [NR.eqv (List.mem_of_getElem? e) (List.mem_of_getElem? hk)]
        refine decide_eq_false fun z => ?_
        rw [z] at e
        obtain ⟨h1, e1⟩ := List.getElem?_eq_some_iff.mp e
        obtain ⟨h2, e2⟩ := List.getElem?_eq_some_iff.mp hk
        exact (List.pairwise_iff_getElem.mp ndA m k h1 h2 hm) (e1.trans e2.symm)
    have theD : ∀ {i k : Nat}, rowA[k]? = some i → ∃ d, (rowA.map (dN nk'))[k]? = some d ∧ PyData.eqv d (dN nk' i) = true := fun {i k} hk => ⟨dN nk' i, by rw [List.getElem?_map, hk]; rfl, by rw [NR.eqv (List.mem_of_getElem? hk) (List.mem_of_getElem? hk)]; exact decide_eq_true rfl⟩
    obtain ⟨jn, hjn⟩ := List.getElem?_of_mem inA
    have sfin : ∀ {Y : Hp}, Same JS Y → Same Hd Y ∧ SR Y st (70 * (j + 1)) ∧ TBL K Y := fun s => ⟨(((sHs.trans sFs).trans tS).trans s), ((rg.same sgS).same s).more (by omega), (tHs.same ((sFs.trans tS).trans s))⟩
    refine ⟨_, rfl, .inl ⟨rfl, _, SqL.of erS⟩, _, rfl, mo, _, 0, _, rfl, rfl, SqT.of emS, rfl, .ref nq, dN nk' TS.length, gq', rowA.map (dN nk'), gv, jn, rfl, rfl, (NM.dt (newNM sgS)).dv, SqL.of erS, (agS.dts fun v i g => NM.dt g).dv, NN.lay inN, NR.keys.lay, Nat.le_trans (NN.deep inN) (by decide), theD hjn, fun m d hm hd => first hjn hm hd, ?_⟩
    have anHS : AN (NM nk' JS) hv (row.filter kept) := anH.imp fun v i g => g.tups sgS.tups
    have ehS : JS hq = some (.lst hv) := tS _ _ efs
    have ndS : ((row.filter kept).take r ++ TS.length :: (row.filter kept).drop r) = rowA.filter (fun i => kept i || decide (i = TS.length)) := fil2.symm
    have memF : ∀ i ∈ row.filter kept, i ∈ rowA := fun i hi => by
      have : i ∈ Rga.insN (row.filter kept) r TS.length := (Rga.ins_perm _ _ _).mem_iff.mpr (List.mem_cons_of_mem _ hi)
      rw [← fil2] at this
      exact (List.mem_filter.mp this).1
    refine ⟨_, rfl, _, _, rfl, rfl, _, rfl, ?_⟩
    by_cases hr0 : 0 < r
    · refine itT (decide_eq_true (by show (0 : Int) < (r : Int); omega)) ?_
      have hr1 : r - 1 < (row.filter kept).length := by omega
      have hx : (row.filter kept)[r - 1]? = some (row.filter kept)[r - 1] := List.getElem?_eq_getElem hr1
      generalize (row.filter kept)[r - 1] = x at hx
      have hxr := memF x (List.mem_of_getElem? hx)
      obtain ⟨jx, hjx⟩ := List.getElem?_of_mem hxr
      have hvx : hv[r - 1]? = some hv[r - 1] := List.getElem?_eq_getElem (by omega)
      have nmx := anHS.2 (r - 1) _ _ hvx hx
      generalize hv[r - 1] = vx at hvx nmx
      have hpos : jx < jn := by
        have e1 : (row.filter kept).take r = (row.filter kept).take (r - 1) ++ [x] := by
          have := List.take_add_one (i := r - 1) (l := row.filter kept)
          rw [show r - 1 + 1 = r by omega, hx] at this
          exact this
        rw [e1, List.append_assoc, List.singleton_append] at ndS
        exact Rga.pos_lt ndA ndS.symm List.mem_cons_self hjx hjn
      refine ⟨_, rfl, .inl ⟨rfl, _, SqL.of erS⟩, _, rfl, _, rfl, _, _, rfl, rfl, hq, _, (r : Int) - 1, vx, rfl, rfl, SqL.of ehS, (by rw [show (r : Int) - 1 = ((r - 1 : Nat) : Int) by omega]; exact atI_nat hvx), vx, dN nk' x, gq', rowA.map (dN nk'), gv, jx, rfl, rfl, (NM.dt nmx).dv, SqL.of erS, (agS.dts fun v i g => NM.dt g).dv, NR.lay hxr, NR.keys.lay, Nat.le_trans (NR.deep hxr) (by decide), theD hjx, fun m d hm hd => first hjx hm hd, ?_⟩
      refine ⟨_, rfl, _, _, rfl, rfl, _, rfl, ?_⟩
      refine itF (decide_eq_false (by show ¬ (jn : Int) < (jx : Int); omega)) ?_
      refine ⟨_, rfl, _, rfl, hq, _, rfl, .inl (SqL.of ehS), _, _, rfl, rfl, _, rfl, ?_⟩
      by_cases hrn : r < hv.length
      · refine itT (decide_eq_true (by show (r : Int) < ((hv.length : Nat) : Int); omega)) ?_
        have hr2 : r < (row.filter kept).length := by omega
        have hx2 : (row.filter kept)[r]? = some (row.filter kept)[r] := List.getElem?_eq_getElem hr2
        generalize (row.filter kept)[r] = x2 at hx2
        have hxr2 := memF x2 (List.mem_of_getElem? hx2)
        obtain ⟨jx2, hjx2⟩ := List.getElem?_of_mem hxr2
        have hvx2 : hv[r]? = some hv[r] := List.getElem?_eq_getElem (by omega)
        have nmx2 := anHS.2 r _ _ hvx2 hx2
        generalize hv[r] = vx2 at hvx2 nmx2
        have hpos2 : jn < jx2 := by
          have e1 : (row.filter kept).drop r = x2 :: (row.filter kept).drop (r + 1) := by
            obtain ⟨h1, h2⟩ := List.getElem?_eq_some_iff.mp hx2
            rw [List.drop_eq_getElem_cons h1, h2]
          have ndS2 : ((row.filter kept).take r ++ TS.length :: (row.filter kept).drop r) = rowA.filter (fun i => kept i || decide (i = TS.length)) := fil2.symm
          rw [e1] at ndS2
          exact Rga.pos_lt ndA ndS2.symm List.mem_cons_self hjn hjx2
        refine ⟨_, rfl, .inl ⟨rfl, _, SqL.of erS⟩, _, rfl, _, rfl, hq, _, (r : Int), vx2, rfl, rfl, SqL.of ehS, atI_nat hvx2, vx2, dN nk' x2, gq', rowA.map (dN nk'), gv, jx2, rfl, rfl, (NM.dt nmx2).dv, SqL.of erS, (agS.dts fun v i g => NM.dt g).dv, NR.lay hxr2, NR.keys.lay, Nat.le_trans (NR.deep hxr2) (by decide), theD hjx2, fun m d hm hd => first hjx2 hm hd, ?_⟩
        refine ⟨_, rfl, _, _, rfl, rfl, _, rfl, ?_⟩
        refine itF (decide_eq_false (by show ¬ (jx2 : Int) < (jn : Int); omega)) ?_
        exact ⟨_, _, _, _, _, _, _, rfl, sfin (Same.refl _)⟩
      · refine itF (decide_eq_false (by show ¬ (r : Int) < ((hv.length : Nat) : Int); omega)) ?_
        refine itF rfl ?_
        exact ⟨_, _, _, _, _, _, _, rfl, sfin (Same.refl _)⟩
    · refine itF (decide_eq_false (by show ¬ (0 : Int) < (r : Int); omega)) ?_
      refine itF rfl ?_
      refine ⟨_, rfl, _, rfl, hq, _, rfl, .inl (SqL.of ehS), _, _, rfl, rfl, _, rfl, ?_⟩
      by_cases hrn : r < hv.length
      · refine itT (decide_eq_true (by show (r : Int) < ((hv.length : Nat) : Int); omega)) ?_
        have hr2 : r < (row.filter kept).length := by omega
        have hx2 : (row.filter kept)[r]? = some (row.filter kept)[r] := List.getElem?_eq_getElem hr2
        generalize (row.filter kept)[r] = x2 at hx2
        have hxr2 := memF x2 (List.mem_of_getElem? hx2)
        obtain ⟨jx2, hjx2⟩ := List.getElem?_of_mem hxr2
        have hvx2 : hv[r]? = some hv[r] := List.getElem?_eq_getElem (by omega)
        have nmx2 := anHS.2 r _ _ hvx2 hx2
        generalize hv[r] = vx2 at hvx2 nmx2
        have hpos2 : jn < jx2 := by
          have e1 : (row.filter kept).drop r = x2 :: (row.filter kept).drop (r + 1) := by
            obtain ⟨h1, h2⟩ := List.getElem?_eq_some_iff.mp hx2
            rw [List.drop_eq_getElem_cons h1, h2]
          have ndS2 : ((row.filter kept).take r ++ TS.length :: (row.filter kept).drop r) = rowA.filter (fun i => kept i || decide (i = TS.length)) := fil2.symm
          rw [e1] at ndS2
          exact Rga.pos_lt ndA ndS2.symm List.mem_cons_self hjn hjx2
        refine ⟨_, rfl, .inl ⟨rfl, _, SqL.of erS⟩, _, rfl, _, rfl, hq, _, (r : Int), vx2, rfl, rfl, SqL.of ehS, atI_nat hvx2, vx2, dN nk' x2, gq', rowA.map (dN nk'), gv, jx2, rfl, rfl, (NM.dt nmx2).dv, SqL.of erS, (agS.dts fun v i g => NM.dt g).dv, NR.lay hxr2, NR.keys.lay, Nat.le_trans (NR.deep hxr2) (by decide), theD hjx2, fun m d hm hd => first hjx2 hm hd, ?_⟩
        refine ⟨_, rfl, _, _, rfl, rfl, _, rfl, ?_⟩
        refine itF (decide_eq_false (by show ¬ (jx2 : Int) < (jn : Int); omega)) ?_
        exact ⟨_, _, _, _, _, _, _, rfl, sfin (Same.refl _)⟩
      · refine itF (decide_eq_false (by show ¬ (r : Int) < ((hv.length : Nat) : Int); omega)) ?_
        refine itF rfl ?_
        exact ⟨_, _, _, _, _, _, _, rfl, sfin (Same.refl _)⟩
  · rintro σ Hx ⟨u5, u6, u7, u8, u9, u10, u11, rfl, sx, rx, tx⟩
    exact kk Hx
end
theorem all_mk {l : PySem.W.OpenLaw} {w : World} {K : PySem.W.Frag} {h : Heap} {mg : Str → Option Value} {fa : Addr} (X : K.In h) (G : h.Ns mainGlobals mg) (hfa : mg "law" = some (.ref fa))
    {a_fkey_of_place : Addr} {od_fkey_of_place an_fkey_of_place : Option Addr} {sl_fkey_of_place : Array (Option Value)} {oc_fkey_of_place kV_fkey_of_place dc_fkey_of_place pm_fkey_of_place cd_fkey_of_place ct_fkey_of_place : Value} {a_ffollowers_of : Addr} {od_ffollowers_of an_ffollowers_of : Option Addr} {sl_ffollowers_of : Array (Option Value)} {oc_ffollowers_of kV_ffollowers_of dc_ffollowers_of pm_ffollowers_of cd_ffollowers_of ct_ffollowers_of : Value} {a_fordered : Addr} {od_fordered an_fordered : Option Addr} {sl_fordered : Array (Option Value)} {oc_fordered kV_fordered dc_fordered pm_fordered cd_fordered ct_fordered : Value} {a_f_law_begun : Addr} {od_f_law_begun an_f_law_begun : Option Addr} {sl_f_law_begun : Array (Option Value)} {oc_f_law_begun kV_f_law_begun dc_f_law_begun pm_f_law_begun cd_f_law_begun ct_f_law_begun : Value} {a_f_law_draw : Addr} {od_f_law_draw an_f_law_draw : Option Addr} {sl_f_law_draw : Array (Option Value)} {oc_f_law_draw kV_f_law_draw dc_f_law_draw pm_f_law_draw cd_f_law_draw ct_f_law_draw : Value} {a_f_law_name : Addr} {od_f_law_name an_f_law_name : Option Addr} {sl_f_law_name : Array (Option Value)} {oc_f_law_name kV_f_law_name dc_f_law_name pm_f_law_name cd_f_law_name ct_f_law_name : Value} {a_f_law_key : Addr} {od_f_law_key an_f_law_key : Option Addr} {sl_f_law_key : Array (Option Value)} {oc_f_law_key kV_f_law_key dc_f_law_key pm_f_law_key cd_f_law_key ct_f_law_key : Value} {a_f_law_places : Addr} {od_f_law_places an_f_law_places : Option Addr} {sl_f_law_places : Array (Option Value)} {oc_f_law_places kV_f_law_places dc_f_law_places pm_f_law_places cd_f_law_places ct_f_law_places : Value} {a_f_law_some : Addr} {od_f_law_some an_f_law_some : Option Addr} {sl_f_law_some : Array (Option Value)} {oc_f_law_some kV_f_law_some dc_f_law_some pm_f_law_some ct_f_law_some : Value} {lc_f_law_some : Addr} {a_f_law_free : Addr} {od_f_law_free an_f_law_free : Option Addr} {sl_f_law_free : Array (Option Value)} {oc_f_law_free kV_f_law_free dc_f_law_free pm_f_law_free cd_f_law_free ct_f_law_free : Value} {a_flaw : Addr} {od_flaw an_flaw : Option Addr} {sl_flaw : Array (Option Value)} {oc_flaw kV_flaw dc_flaw pm_flaw cd_flaw ct_flaw : Value}
    (zb_len : PySem.W.nsIn K mainGlobals "len" = some none)
    (zb_list : PySem.W.nsIn K mainGlobals "list" = some none)
    (zb_max : PySem.W.nsIn K mainGlobals "max" = some none)
    (zb_min : PySem.W.nsIn K mainGlobals "min" = some none)
    (zb_range : PySem.W.nsIn K mainGlobals "range" = some none)
    (zb_sorted : PySem.W.nsIn K mainGlobals "sorted" = some none)
    (z1_fkey_of_place : PySem.W.nsIn K mainGlobals "key_of_place" = some (some (.ref a_fkey_of_place)))
    (z2_fkey_of_place : K.lookup a_fkey_of_place = some ⟨oc_fkey_of_place, od_fkey_of_place, .func (PySem.W.fnOf "key_of_place" "key_of_place" (defArgs s_fkey_of_place) (defBody s_fkey_of_place) (defScope s_fkey_of_place) .none kV_fkey_of_place dc_fkey_of_place pm_fkey_of_place an_fkey_of_place cd_fkey_of_place ct_fkey_of_place), sl_fkey_of_place⟩)
    (z3_fkey_of_place : PySem.W.codeIn K cd_fkey_of_place "key_of_place" = true) (z4_fkey_of_place : PySem.W.keepIn K (.ref a_fkey_of_place) = true)
    (z1_ffollowers_of : PySem.W.nsIn K mainGlobals "followers_of" = some (some (.ref a_ffollowers_of)))
    (z2_ffollowers_of : K.lookup a_ffollowers_of = some ⟨oc_ffollowers_of, od_ffollowers_of, .func (PySem.W.fnOf "followers_of" "followers_of" (defArgs s_ffollowers_of) (defBody s_ffollowers_of) (defScope s_ffollowers_of) .none kV_ffollowers_of dc_ffollowers_of pm_ffollowers_of an_ffollowers_of cd_ffollowers_of ct_ffollowers_of), sl_ffollowers_of⟩)
    (z3_ffollowers_of : PySem.W.codeIn K cd_ffollowers_of "followers_of" = true) (z4_ffollowers_of : PySem.W.keepIn K (.ref a_ffollowers_of) = true)
    (z1_fordered : PySem.W.nsIn K mainGlobals "ordered" = some (some (.ref a_fordered)))
    (z2_fordered : K.lookup a_fordered = some ⟨oc_fordered, od_fordered, .func (PySem.W.fnOf "ordered" "ordered" (defArgs s_fordered) (defBody s_fordered) (defScope s_fordered) .none kV_fordered dc_fordered pm_fordered an_fordered cd_fordered ct_fordered), sl_fordered⟩)
    (z3_fordered : PySem.W.codeIn K cd_fordered "ordered" = true) (z4_fordered : PySem.W.keepIn K (.ref a_fordered) = true)
    (z1_f_law_begun : PySem.W.nsIn K mainGlobals "_law_begun" = some (some (.ref a_f_law_begun)))
    (z2_f_law_begun : K.lookup a_f_law_begun = some ⟨oc_f_law_begun, od_f_law_begun, .func (PySem.W.fnOf "_law_begun" "_law_begun" (defArgs s_f_law_begun) (defBody s_f_law_begun) (defScope s_f_law_begun) .none kV_f_law_begun dc_f_law_begun pm_f_law_begun an_f_law_begun cd_f_law_begun ct_f_law_begun), sl_f_law_begun⟩)
    (z3_f_law_begun : PySem.W.codeIn K cd_f_law_begun "_law_begun" = true) (z4_f_law_begun : PySem.W.keepIn K (.ref a_f_law_begun) = true)
    (z1_f_law_draw : PySem.W.nsIn K mainGlobals "_law_draw" = some (some (.ref a_f_law_draw)))
    (z2_f_law_draw : K.lookup a_f_law_draw = some ⟨oc_f_law_draw, od_f_law_draw, .func (PySem.W.fnOf "_law_draw" "_law_draw" (defArgs s_f_law_draw) (defBody s_f_law_draw) (defScope s_f_law_draw) .none kV_f_law_draw dc_f_law_draw pm_f_law_draw an_f_law_draw cd_f_law_draw ct_f_law_draw), sl_f_law_draw⟩)
    (z3_f_law_draw : PySem.W.codeIn K cd_f_law_draw "_law_draw" = true) (z4_f_law_draw : PySem.W.keepIn K (.ref a_f_law_draw) = true)
    (z1_f_law_name : PySem.W.nsIn K mainGlobals "_law_name" = some (some (.ref a_f_law_name)))
    (z2_f_law_name : K.lookup a_f_law_name = some ⟨oc_f_law_name, od_f_law_name, .func (PySem.W.fnOf "_law_name" "_law_name" (defArgs s_f_law_name) (defBody s_f_law_name) (defScope s_f_law_name) .none kV_f_law_name dc_f_law_name pm_f_law_name an_f_law_name cd_f_law_name ct_f_law_name), sl_f_law_name⟩)
    (z3_f_law_name : PySem.W.codeIn K cd_f_law_name "_law_name" = true) (z4_f_law_name : PySem.W.keepIn K (.ref a_f_law_name) = true)
    (z1_f_law_key : PySem.W.nsIn K mainGlobals "_law_key" = some (some (.ref a_f_law_key)))
    (z2_f_law_key : K.lookup a_f_law_key = some ⟨oc_f_law_key, od_f_law_key, .func (PySem.W.fnOf "_law_key" "_law_key" (defArgs s_f_law_key) (defBody s_f_law_key) (defScope s_f_law_key) .none kV_f_law_key dc_f_law_key pm_f_law_key an_f_law_key cd_f_law_key ct_f_law_key), sl_f_law_key⟩)
    (z3_f_law_key : PySem.W.codeIn K cd_f_law_key "_law_key" = true) (z4_f_law_key : PySem.W.keepIn K (.ref a_f_law_key) = true)
    (z1_f_law_places : PySem.W.nsIn K mainGlobals "_law_places" = some (some (.ref a_f_law_places)))
    (z2_f_law_places : K.lookup a_f_law_places = some ⟨oc_f_law_places, od_f_law_places, .func (PySem.W.fnOf "_law_places" "_law_places" (defArgs s_f_law_places) (defBody s_f_law_places) (defScope s_f_law_places) .none kV_f_law_places dc_f_law_places pm_f_law_places an_f_law_places cd_f_law_places ct_f_law_places), sl_f_law_places⟩)
    (z3_f_law_places : PySem.W.codeIn K cd_f_law_places "_law_places" = true) (z4_f_law_places : PySem.W.keepIn K (.ref a_f_law_places) = true)
    (z1_f_law_some : PySem.W.nsIn K mainGlobals "_law_some" = some (some (.ref a_f_law_some)))
    (z2_f_law_some : K.lookup a_f_law_some = some ⟨oc_f_law_some, od_f_law_some, .func (PySem.W.fnOf "_law_some" "_law_some" (defArgs s_f_law_some) (defBody s_f_law_some) (defScope s_f_law_some) .none kV_f_law_some dc_f_law_some pm_f_law_some an_f_law_some (.ref lc_f_law_some) ct_f_law_some), sl_f_law_some⟩)
    (z3_f_law_some : PySem.W.codeIn K (.ref lc_f_law_some) "_law_some" = true) (z4_f_law_some : PySem.W.keepIn K (.ref a_f_law_some) = true)
    (z5_f_law_some : PySem.W.codeHdIn K lc_f_law_some (tabP K "_law_some") = true)
    (z1_f_law_free : PySem.W.nsIn K mainGlobals "_law_free" = some (some (.ref a_f_law_free)))
    (z2_f_law_free : K.lookup a_f_law_free = some ⟨oc_f_law_free, od_f_law_free, .func (PySem.W.fnOf "_law_free" "_law_free" (defArgs s_f_law_free) (defBody s_f_law_free) (defScope s_f_law_free) .none kV_f_law_free dc_f_law_free pm_f_law_free an_f_law_free cd_f_law_free ct_f_law_free), sl_f_law_free⟩)
    (z3_f_law_free : PySem.W.codeIn K cd_f_law_free "_law_free" = true) (z4_f_law_free : PySem.W.keepIn K (.ref a_f_law_free) = true)
    (z1_flaw : PySem.W.nsIn K mainGlobals "law" = some (some (.ref a_flaw)))
    (z2_flaw : K.lookup a_flaw = some ⟨oc_flaw, od_flaw, .func (PySem.W.fnOf "law" "law" (defArgs s_flaw) (defBody s_flaw) (defScope s_flaw) .none kV_flaw dc_flaw pm_flaw an_flaw cd_flaw ct_flaw), sl_flaw⟩)
    (z3_flaw : PySem.W.codeIn K cd_flaw "law" = true) (z4_flaw : PySem.W.keepIn K (.ref a_flaw) = true) :
    ∃ fd : FuncData, (∀ (s : Shared) (v : Value), BindsTo s fd ⟨[v], []⟩ [("_law_script", v)]) ∧ ∀ base : Heap, K.In base → base.Ns mainGlobals mg → base.BuiltinsAt mg (tabP K "_law_some") → FnOk l.prog w K mg base CX0 5 fa fd ["_law_script"] (sp_flaw K) := by
  have e := hfa.symm.trans (PySem.W.mg_of X G z1_flaw)
  cases e
  have T : Txt K mg ⟨a_fkey_of_place, PySem.W.fnOf "key_of_place" "key_of_place" (defArgs s_fkey_of_place) (defBody s_fkey_of_place) (defScope s_fkey_of_place) .none kV_fkey_of_place dc_fkey_of_place pm_fkey_of_place an_fkey_of_place cd_fkey_of_place ct_fkey_of_place, a_ffollowers_of, PySem.W.fnOf "followers_of" "followers_of" (defArgs s_ffollowers_of) (defBody s_ffollowers_of) (defScope s_ffollowers_of) .none kV_ffollowers_of dc_ffollowers_of pm_ffollowers_of an_ffollowers_of cd_ffollowers_of ct_ffollowers_of, a_fordered, PySem.W.fnOf "ordered" "ordered" (defArgs s_fordered) (defBody s_fordered) (defScope s_fordered) .none kV_fordered dc_fordered pm_fordered an_fordered cd_fordered ct_fordered, a_f_law_begun, PySem.W.fnOf "_law_begun" "_law_begun" (defArgs s_f_law_begun) (defBody s_f_law_begun) (defScope s_f_law_begun) .none kV_f_law_begun dc_f_law_begun pm_f_law_begun an_f_law_begun cd_f_law_begun ct_f_law_begun, a_f_law_draw, PySem.W.fnOf "_law_draw" "_law_draw" (defArgs s_f_law_draw) (defBody s_f_law_draw) (defScope s_f_law_draw) .none kV_f_law_draw dc_f_law_draw pm_f_law_draw an_f_law_draw cd_f_law_draw ct_f_law_draw, a_f_law_name, PySem.W.fnOf "_law_name" "_law_name" (defArgs s_f_law_name) (defBody s_f_law_name) (defScope s_f_law_name) .none kV_f_law_name dc_f_law_name pm_f_law_name an_f_law_name cd_f_law_name ct_f_law_name, a_f_law_key, PySem.W.fnOf "_law_key" "_law_key" (defArgs s_f_law_key) (defBody s_f_law_key) (defScope s_f_law_key) .none kV_f_law_key dc_f_law_key pm_f_law_key an_f_law_key cd_f_law_key ct_f_law_key, a_f_law_places, PySem.W.fnOf "_law_places" "_law_places" (defArgs s_f_law_places) (defBody s_f_law_places) (defScope s_f_law_places) .none kV_f_law_places dc_f_law_places pm_f_law_places an_f_law_places cd_f_law_places ct_f_law_places, a_f_law_some, PySem.W.fnOf "_law_some" "_law_some" (defArgs s_f_law_some) (defBody s_f_law_some) (defScope s_f_law_some) .none kV_f_law_some dc_f_law_some pm_f_law_some an_f_law_some (.ref lc_f_law_some) ct_f_law_some, lc_f_law_some, a_f_law_free, PySem.W.fnOf "_law_free" "_law_free" (defArgs s_f_law_free) (defBody s_f_law_free) (defScope s_f_law_free) .none kV_f_law_free dc_f_law_free pm_f_law_free an_f_law_free cd_f_law_free ct_f_law_free, fa, PySem.W.fnOf "law" "law" (defArgs s_flaw) (defBody s_flaw) (defScope s_flaw) .none kV_flaw dc_flaw pm_flaw an_flaw cd_flaw ct_flaw⟩ (fun x => 0) := by
    refine ⟨PySem.W.mg_none_of X G zb_len, PySem.W.mg_none_of X G zb_list, PySem.W.mg_none_of X G zb_max, PySem.W.mg_none_of X G zb_min, PySem.W.mg_none_of X G zb_range, PySem.W.mg_none_of X G zb_sorted, fun_mk (st := s_fkey_of_place) z2_fkey_of_place z3_fkey_of_place z4_fkey_of_place, PySem.W.mg_of X G z1_fkey_of_place, z4_fkey_of_place, (fun_mk (st := s_fkey_of_place) z2_fkey_of_place z3_fkey_of_place z4_fkey_of_place).binds (ps := ["place"]) fun _ _ _ _ _ _ us hl => match us, hl with | [_], _ => rfl, fun_mk (st := s_ffollowers_of) z2_ffollowers_of z3_ffollowers_of z4_ffollowers_of, PySem.W.mg_of X G z1_ffollowers_of, z4_ffollowers_of, (fun_mk (st := s_ffollowers_of) z2_ffollowers_of z3_ffollowers_of z4_ffollowers_of).binds (ps := ["places"]) fun _ _ _ _ _ _ us hl => match us, hl with | [_], _ => rfl, fun_mk (st := s_fordered) z2_fordered z3_fordered z4_fordered, PySem.W.mg_of X G z1_fordered, z4_fordered, (fun_mk (st := s_fordered) z2_fordered z3_fordered z4_fordered).binds (ps := ["places"]) fun _ _ _ _ _ _ us hl => match us, hl with | [_], _ => rfl, fun_mk (st := s_f_law_begun) z2_f_law_begun z3_f_law_begun z4_f_law_begun, PySem.W.mg_of X G z1_f_law_begun, z4_f_law_begun, (fun_mk (st := s_f_law_begun) z2_f_law_begun z3_f_law_begun z4_f_law_begun).binds (ps := ["_law_script", "_law_k"]) fun _ _ _ _ _ _ us hl => match us, hl with | [_, _], _ => rfl, fun_mk (st := s_f_law_draw) z2_f_law_draw z3_f_law_draw z4_f_law_draw, PySem.W.mg_of X G z1_f_law_draw, z4_f_law_draw, (fun_mk (st := s_f_law_draw) z2_f_law_draw z3_f_law_draw z4_f_law_draw).binds (ps := ["_law_state", "_law_many"]) fun _ _ _ _ _ _ us hl => match us, hl with | [_, _], _ => rfl, fun_mk (st := s_f_law_name) z2_f_law_name z3_f_law_name z4_f_law_name, PySem.W.mg_of X G z1_f_law_name, z4_f_law_name, (fun_mk (st := s_f_law_name) z2_f_law_name z3_f_law_name z4_f_law_name).binds (ps := ["_law_state", "_law_k", "_law_paces"]) fun _ _ _ _ _ _ us hl => match us, hl with | [_, _, _], _ => rfl, fun_mk (st := s_f_law_key) z2_f_law_key z3_f_law_key z4_f_law_key, PySem.W.mg_of X G z1_f_law_key, z4_f_law_key, (fun_mk (st := s_f_law_key) z2_f_law_key z3_f_law_key z4_f_law_key).binds (ps := ["_law_state", "_law_last", "_law_many"]) fun _ _ _ _ _ _ us hl => match us, hl with | [_, _, _], _ => rfl, fun_mk (st := s_f_law_places) z2_f_law_places z3_f_law_places z4_f_law_places, PySem.W.mg_of X G z1_f_law_places, z4_f_law_places, (fun_mk (st := s_f_law_places) z2_f_law_places z3_f_law_places z4_f_law_places).binds (ps := ["_law_script"]) fun _ _ _ _ _ _ us hl => match us, hl with | [_], _ => rfl, fun_mk (st := s_f_law_some) z2_f_law_some z3_f_law_some z4_f_law_some, PySem.W.mg_of X G z1_f_law_some, z4_f_law_some, (fun_mk (st := s_f_law_some) z2_f_law_some z3_f_law_some z4_f_law_some).binds (ps := ["_law_places_here", "_law_state"]) fun _ _ _ _ _ _ us hl => match us, hl with | [_, _], _ => rfl, rfl, z5_f_law_some, fun_mk (st := s_f_law_free) z2_f_law_free z3_f_law_free z4_f_law_free, PySem.W.mg_of X G z1_f_law_free, z4_f_law_free, (fun_mk (st := s_f_law_free) z2_f_law_free z3_f_law_free z4_f_law_free).binds (ps := ["_law_places_here", "_law_some_here", "_law_state"]) fun _ _ _ _ _ _ us hl => match us, hl with | [_, _, _], _ => rfl, fun_mk (st := s_flaw) z2_flaw z3_flaw z4_flaw, PySem.W.mg_of X G z1_flaw, z4_flaw, (fun_mk (st := s_flaw) z2_flaw z3_flaw z4_flaw).binds (ps := ["_law_script"]) fun _ _ _ _ _ _ us hl => match us, hl with | [_], _ => rfl⟩
  refine ⟨PySem.W.fnOf "law" "law" (defArgs s_flaw) (defBody s_flaw) (defScope s_flaw) .none kV_flaw dc_flaw pm_flaw an_flaw cd_flaw ct_flaw, fun s v => .of_eq rfl, fun base _ _ hB => ?_⟩
  have r_fkey_of_place := ok_fkey_of_place (P := l.prog) (w := w) (base := base) T
  have r_f_law_begun := ok_f_law_begun (P := l.prog) (w := w) (base := base) T
  have r_f_law_draw := ok_f_law_draw (P := l.prog) (w := w) (base := base) T
  have r_f_law_name := ok_f_law_name (P := l.prog) (w := w) (base := base) T r_f_law_draw
  have r_f_law_key := ok_f_law_key (P := l.prog) (w := w) (base := base) T r_f_law_draw
  have r_f_law_some := ok_f_law_some (P := l.prog) (w := w) (base := base) T hB r_f_law_draw
  have r_f_law_free := ok_f_law_free (P := l.prog) (w := w) (base := base) T r_f_law_draw
  have r_ffollowers_of := ok_ffollowers_of (P := l.prog) (w := w) (base := base) T r_fkey_of_place
  have r_f_law_places := ok_f_law_places (P := l.prog) (w := w) (base := base) T r_f_law_begun r_f_law_draw r_f_law_key r_f_law_name
  have r_fordered := ok_fordered (P := l.prog) (w := w) (base := base) T r_ffollowers_of
  exact ok_flaw T r_f_law_begun r_f_law_draw r_f_law_free r_f_law_places r_f_law_some r_fordered
end My
open PySem PySem.W PyProof.Rows
set_option maxRecDepth 100000 in
set_option maxHeartbeats 0 in
theorem PySem.Challenge.cw_pagefolk_k16_whole_between_for_ever_holds : PySem.Challenge.rw_pagefolk_k16_whole_between_for_ever.Holds := by
  w_on; o_law; k_head; (case hw => w_witness2)
  k_fill
  refine L2.walk_ofT (l := PySem.Challenge.rw_pagefolk_k16_whole_between_for_ever) (n := 63) (k := 5) (x := "_law_script") (CX := L2.CX0) (sp := My.sp_flaw) (tp := fun K => L2.tabP K "_law_some") (tc := fun K => L2.tabC K "_law_some") rfl (by decide) rfl ⟨rfl, by decide, by decide⟩ (fun w h Y => PySem.W.km_in_of Y) (fun w h Y => PySem.W.km_tabs_of Y) ?hC ?hnt ?htp ?F My.law_spec (fun _ _ _ _ z => z)
  case hC => exact fun w => List.forall_mem_cons.mpr ⟨by kernel_rfl, fun _ h => nomatch h⟩
  case hnt => (intro w; kernel_rfl)
  case htp => (intro w; refine List.mem_singleton.mpr ?_; kernel_rfl)
  case F =>
    intro w mg fa h KX G hmg
    refine' My.all_mk KX G hmg ?zb_len ?zb_list ?zb_max ?zb_min ?zb_range ?zb_sorted ?z1_fkey_of_place ?z2_fkey_of_place ?z3_fkey_of_place ?z4_fkey_of_place ?z1_ffollowers_of ?z2_ffollowers_of ?z3_ffollowers_of ?z4_ffollowers_of ?z1_fordered ?z2_fordered ?z3_fordered ?z4_fordered ?z1_f_law_begun ?z2_f_law_begun ?z3_f_law_begun ?z4_f_law_begun ?z1_f_law_draw ?z2_f_law_draw ?z3_f_law_draw ?z4_f_law_draw ?z1_f_law_name ?z2_f_law_name ?z3_f_law_name ?z4_f_law_name ?z1_f_law_key ?z2_f_law_key ?z3_f_law_key ?z4_f_law_key ?z1_f_law_places ?z2_f_law_places ?z3_f_law_places ?z4_f_law_places ?z1_f_law_some ?z2_f_law_some ?z3_f_law_some ?z4_f_law_some ?z5_f_law_some ?z1_f_law_free ?z2_f_law_free ?z3_f_law_free ?z4_f_law_free ?z1_flaw ?z2_flaw ?z3_flaw ?z4_flaw
    (case zb_len => k_is)
    (case zb_list => k_is)
    (case zb_max => k_is)
    (case zb_min => k_is)
    (case zb_range => k_is)
    (case zb_sorted => k_is)
    (case z1_fkey_of_place => k_is)
    (case z2_fkey_of_place => k_is)
    (case z3_fkey_of_place => k_is)
    (case z4_fkey_of_place => k_is)
    (case z1_ffollowers_of => k_is)
    (case z2_ffollowers_of => k_is)
    (case z3_ffollowers_of => k_is)
    (case z4_ffollowers_of => k_is)
    (case z1_fordered => k_is)
    (case z2_fordered => k_is)
    (case z3_fordered => k_is)
    (case z4_fordered => k_is)
    (case z1_f_law_begun => k_is)
    (case z2_f_law_begun => k_is)
    (case z3_f_law_begun => k_is)
    (case z4_f_law_begun => k_is)
    (case z1_f_law_draw => k_is)
    (case z2_f_law_draw => k_is)
    (case z3_f_law_draw => k_is)
    (case z4_f_law_draw => k_is)
    (case z1_f_law_name => k_is)
    (case z2_f_law_name => k_is)
    (case z3_f_law_name => k_is)
    (case z4_f_law_name => k_is)
    (case z1_f_law_key => k_is)
    (case z2_f_law_key => k_is)
    (case z3_f_law_key => k_is)
    (case z4_f_law_key => k_is)
    (case z1_f_law_places => k_is)
    (case z2_f_law_places => k_is)
    (case z3_f_law_places => k_is)
    (case z4_f_law_places => k_is)
    (case z1_f_law_some => k_is)
    (case z2_f_law_some => k_is)
    (case z3_f_law_some => k_is)
    (case z4_f_law_some => k_is)
    (case z5_f_law_some => kernel_rfl)
    (case z1_f_law_free => k_is)
    (case z2_f_law_free => k_is)
    (case z3_f_law_free => k_is)
    (case z4_f_law_free => k_is)
    (case z1_flaw => k_is)
    (case z2_flaw => k_is)
    (case z3_flaw => k_is)
    (case z4_flaw => k_is)
