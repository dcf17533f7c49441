import PyProof.Rows.All
import Wide.All
import OpenK.AllK
import Wide.FinOn
import Lean
import PyProof.EqAt
import PyProof.EqKinds
import PyProof.TupleCall
import KE.KSortTup
import KE.KDictOf
import PyProof.AttrMissHeap
import KE.KSortKey
import KE.KEqDict
import KE.KNestM
import KE.KLam
import PySem.Challenge.RW_pagefolk_k47_shown_as_text
set_option Elab.async false
set_option linter.all false
set_option maxRecDepth 100000
namespace L2
open PySem PySem.Spec PyProof.Rows
abbrev Key := Sum Int Str
def keyIs : Key → Value → Bool
  | .inl k, v => Value.isInt k v
  | .inr x, v => Value.isStrOf x v
def keyH (w : World) : Key → Int
  | .inl k => hashInt k
  | .inr x => hashStr w x
theorem keyIs_shape : ∀ {k : Key} {v : Value}, keyIs k v = true → (∃ i t, k = Sum.inl i ∧ v = Value.int i t) ∨ (∃ x t, k = Sum.inr x ∧ v = Value.str x t)
  | .inl i, v, h => by
    obtain ⟨t, e⟩ := Value.isInt_shape (k := i) (v := v) h
    exact .inl ⟨i, t, rfl, e⟩
  | .inr x, v, h => by
    obtain ⟨t, e⟩ := Value.isStrOf_shape (x := x) (v := v) h
    exact .inr ⟨x, t, rfl, e⟩
theorem keyIs_int (i : Int) (t : Tok) : keyIs (.inl i) (.int i t) = true := by simp [keyIs, Value.isInt]
theorem keyIs_str (x : Str) (t : Tok) : keyIs (.inr x) (.str x t) = true := by simp [keyIs, Value.isStrOf]
theorem key_ll (a b : Int) : decide ((Sum.inl a : Key) = Sum.inl b) = (a == b) := by
  by_cases e : a = b
  · subst e; simp
  · have h : ¬ (Sum.inl a : Key) = Sum.inl b := fun q => e (Sum.inl.inj q)
    rw [decide_eq_false h]
    exact (beq_eq_false_iff_ne.mpr e).symm
theorem key_rr (a b : Str) : decide ((Sum.inr a : Key) = Sum.inr b) = decide (a = b) := by
  by_cases e : a = b
  · subst e; simp
  · have h : ¬ (Sum.inr a : Key) = Sum.inr b := fun q => e (Sum.inr.inj q)
    rw [decide_eq_false h, decide_eq_false e]
theorem key_lr (a : Int) (b : Str) : decide ((Sum.inl a : Key) = Sum.inr b) = false := decide_eq_false (fun q => nomatch q)
theorem key_rl (a : Str) (b : Int) : decide ((Sum.inr a : Key) = Sum.inl b) = false := decide_eq_false (fun q => nomatch q)
def mixKind (prog : Program) (w : World) : PySem.KeyKind prog w Key where
  is := keyIs
  hash := keyH w
  inj := fun v a b ha hb => by
    rcases keyIs_shape ha with ⟨i, t, rfl, rfl⟩ | ⟨x, t, rfl, rfl⟩
    · rcases keyIs_shape hb with ⟨j, u, rfl, e⟩ | ⟨y, u, rfl, e⟩
      · injection e with e1 _; rw [e1]
      · exact nomatch e
    · rcases keyIs_shape hb with ⟨j, u, rfl, e⟩ | ⟨y, u, rfl, e⟩
      · exact nomatch e
      · injection e with e1 _; rw [e1]
  byValue := fun k v h => by
    rcases keyIs_shape h with ⟨i, t, rfl, rfl⟩ | ⟨x, t, rfl, rfl⟩ <;> rfl
  pyHash := fun hv h => by
    rcases keyIs_shape hv with ⟨i, t, rfl, rfl⟩ | ⟨x, t, rfl, rfl⟩
    · exact wpAny_pyHash_int h
    · exact wpAny_pyHash_str h
  eqBool := fun hu hv h => by
    rcases keyIs_shape hu with ⟨i, t, rfl, rfl⟩ | ⟨x, t, rfl, rfl⟩
    · rcases keyIs_shape hv with ⟨j, u, rfl, rfl⟩ | ⟨y, u, rfl, rfl⟩
      · rw [key_ll] at h; exact wpAny_eqBool_int h
      · rw [key_lr] at h; exact SeqAt.EqAt.int_str i t y u _ _ _ _ h
    · rcases keyIs_shape hv with ⟨j, u, rfl, rfl⟩ | ⟨y, u, rfl, rfl⟩
      · rw [key_rl] at h; exact SeqAt.EqAt.str_int x t j u _ _ _ _ h
      · rw [key_rr] at h; exact wpAny_eqBool_str h
  «strs» := fun k x t v h => by
    rcases keyIs_shape h with ⟨i, u, rfl, e⟩ | ⟨y, u, rfl, e⟩
    · exact nomatch e
    · injection e with e1 _
      subst e1
      cases v <;> rfl
theorem mixKind_int (prog : Program) (w : World) (i : Int) (t : Tok) : (mixKind prog w).is (.inl i) (.int i t) = true := keyIs_int i t
theorem mixKind_str (prog : Program) (w : World) (x : Str) (t : Tok) : (mixKind prog w).is (.inr x) (.str x t) = true := keyIs_str x t
end L2
namespace L2
open PySem PySem.Spec PyProof.Rows
inductive V where
  | non | bl (b : Bool) | int (i : Int) | str (x : Str) | byt (b : Array UInt8) | flt (b : UInt64) | ref (a : Addr) | ty (n : String)
  deriving DecidableEq
def RelV : V → Value → Prop
  | .non, u => u = Value.none
  | .bl b, u => u = Value.bool b
  | .int i, u => ∃ t, u = Value.int i t
  | .str x, u => ∃ t, u = Value.str x t
  | .byt b, u => ∃ t, u = Value.bytes b t
  | .flt b, u => ∃ t, u = Value.float b t
  | .ref a, u => u = Value.ref a
  | .ty n, u => u = Value.type n
abbrev Vals : List V → List Value → Prop := Paired RelV
theorem Vals.length {xs : List V} {us : List Value} (r : Vals xs us) : xs.length = us.length := Paired.length r
theorem Vals.get : ∀ {xs : List V} {us : List Value} {i : Nat} {x : V}, Vals xs us → xs[i]? = some x → ∃ u, us[i]? = some u ∧ RelV x u
  | _, _, _, _, .nil, e => by simp at e
  | _, _, 0, _, .cons r _, e => by simp at e; subst e; exact ⟨_, rfl, r⟩
  | _, _, i + 1, x, .cons _ t, e => by
    obtain ⟨u, h1, h2⟩ := Vals.get (i := i) (x := x) t (by simpa using e)
    exact ⟨u, by simpa using h1, h2⟩
theorem Vals.set {x : V} {u : Value} (r : RelV x u) : ∀ {xs : List V} {us : List Value} (i : Nat), Vals xs us → Vals (xs.set i x) (us.set i u)
  | _, _, _, .nil => .nil
  | _, _, 0, .cons _ t => .cons r t
  | _, _, i + 1, .cons q t => .cons q (Vals.set r i t)
theorem Vals.append : ∀ {xs ys : List V} {us ws : List Value}, Vals xs us → Vals ys ws → Vals (xs ++ ys) (us ++ ws)
  | _, _, _, _, .nil, s => s
  | _, _, _, _, .cons r t, s => .cons r (Vals.append t s)
def RelO : Option V → Option Value → Prop
  | some v, some u => RelV v u
  | none, none => True
  | _, _ => False
def KV {κ : Type} : List (κ × V) → List (κ × Value) → Prop := Paired fun (p : κ × V) (q : κ × Value) => p.1 = q.1 ∧ RelV p.2 q.2
def kV : Key → V
  | .inl i => .int i
  | .inr x => .str x
inductive KD where
  | non
  | int (i : Int)
  | tup (ks : List Key)
  | two (ks ls : List Key)
deriving DecidableEq
def gHash (P : Program) (w : World) : KD → Int
  | .non => 4238894112
  | .int i => hashInt i
  | .tup ks => (tupleKind (mixKind P w)).hash ks
  | .two ks ls => reduceHash (Builtin.Tuple.tupleHashOf [(tupleKind (mixKind P w)).hash ks, (tupleKind (mixKind P w)).hash ls])
def gEnt (P : Program) (w : World) (x : KD × Value × Value) : DictEntry := ⟨gHash P w x.1, x.2.1, x.2.2⟩
inductive HO where
  | lst (xs : List V)
  | tup (xs : List V)
  | dK (kvs : List (Key × V)) | dT (kvs : List (List Key × V))
  | dG (kvs : List (KD × V × V))
  | set (S : Int → Bool) (n : Nat)
  | ins (C dx : Addr) (fs : List (Str × V))
  | own (x : Addr)
  | xd (fs : List (Str × V))
  | met (f x : Addr)
  | rng (lo hi : Int)
  | frz (o : Obj) (u : HO)
  | tbl (ps : Array Value)
  | ext (φ : Heap → Prop)
abbrev Hp := Addr → Option HO
def GK (H : Hp) : KD → V → Prop
  | .non, v => v = .non
  | .int i, v => v = .int i
  | .tup ks, v => ∃ b, v = .ref b ∧ H b = some (.tup (ks.map kV))
  | .two ks ls, v => ∃ b c d, v = .ref b ∧ H b = some (.tup [.ref c, .ref d]) ∧ H c = some (.tup (ks.map kV)) ∧ H d = some (.tup (ls.map kV))
def upd (H : Hp) (a : Addr) (o : HO) : Hp := fun b => if b = a then some o else H b
theorem upd_same {H : Hp} {a : Addr} {o : HO} : upd H a o a = some o := by unfold upd; rw [if_pos rfl]
theorem upd_ne {H : Hp} {a b : Addr} {o : HO} (h : b ≠ a) : upd H a o b = H b := by unfold upd; rw [if_neg h]
theorem ne_of {H : Hp} {a b : Addr} {o u : HO} (h : H a = some o) (h' : H b = some u) (d : o ≠ u) : a ≠ b := by
  intro e; subst e; rw [h] at h'; exact d (Option.some.inj h')
theorem ne_of_none {H : Hp} {a b : Addr} {o : HO} (h : H a = some o) (h' : H b = none) : a ≠ b := by
  intro e; subst e; rw [h] at h'; cases h'
section
variable (P : Program) (w : World)
def ObjOk (H : Hp) (h : Heap) (a : Addr) : HO → Prop
  | .lst xs => xs.length ≤ sizeLine ∧ ∃ (its : List Value) (n : Nat), Vals xs its ∧ h.get? a = some { cls := .type "list", data := .seq its.toArray n }
  | .tup xs => xs.length ≤ sizeLine ∧ ∃ its : List Value, Vals xs its ∧ IsTup h a its.toArray
  | .dK kvs => kvs.length ≤ sizeLine ∧ (a == sysModules) = false ∧ ∃ vs, KV kvs vs ∧ h.DictOf (mixKind P w) a vs
  | .dT kvs => kvs.length ≤ sizeLine ∧ (a == sysModules) = false ∧ ∃ xs : List (List Key × Addr × Value),
      Paired (fun (p : List Key × V) (q : List Key × Addr × Value) => p.1 = q.1 ∧ H q.2.1 = some (.tup (p.1.map kV)) ∧ RelV p.2 q.2.2) kvs xs ∧
      ∃ o es ep, h.get? a = some o ∧ o.ExactDict ∧ o.data = .dict es ep ∧ es.toList = xs.map (entryOfKey (tupleKind (mixKind P w))) ∧ (xs.map (·.1)).Nodup
  | .dG kvs => kvs.length ≤ sizeLine ∧ (a == sysModules) = false ∧ ∃ xs : List (KD × Value × Value),
      Paired (fun (p : KD × V × V) (q : KD × Value × Value) => p.1 = q.1 ∧ GK H p.1 p.2.1 ∧ RelV p.2.1 q.2.1 ∧ RelV p.2.2 q.2.2) kvs xs ∧
      ∃ o es ep, h.get? a = some o ∧ o.ExactDict ∧ o.data = .dict es ep ∧ es.toList = xs.map (gEnt P w) ∧ (xs.map (·.1)).Nodup
  | .set S n => h.SetOf (intKind P w) a S n
  | .ins C dx fs => H dx = some (.own a) ∧ fs.length ≤ 1000 ∧ dx ≠ a ∧ h.get? a = some (PySem.W.instObj C dx) ∧
      ∃ mA, h.Ns1 dx mA ∧ (∀ f, RelO (fs.lookup f) (mA f)) ∧ PySem.Within mA (fs.map (·.1))
  | .own _ => ∃ o, h.get? a = some o
  | .xd fs => ∃ mA, h.Ns1 a mA ∧ ∀ f, RelO (fs.lookup f) (mA f)
  | .rng lo hi => ∃ t u v, h.get? a = some { cls := .type "range", data := .fields #[.int lo t, .int hi u, .int 1 v] }
  | .frz o u => h.get? a = some o ∧ ObjOk H h a u
  | .tbl ps => h.get? a = some { cls := .none, data := .fields ps }
  | .met f x => h.get? a = some (PySem.W.methodObj (.ref f) (.ref x))
  | .ext φ => φ h ∧ (∃ o, h.get? a = some o) ∧ ∀ h1 h2 : Heap, φ h1 → (∀ o, h1.get? a = some o → h2.get? a = some o) → φ h2
def HOk (H : Hp) (h : Heap) : Prop := ∀ a o, H a = some o → ObjOk P w H h a o
end
section
variable {P : Program} {w : World} {H H' : Hp} {h h' : Heap} {a : Addr} {o : HO}
theorem ObjOk.lt (x : ObjOk P w H h a o) : a < h.objs.size := by
  cases o with
  | lst xs => obtain ⟨_, _, _, _, e⟩ := x; exact Heap.lt_size e
  | tup xs => obtain ⟨_, _, _, p⟩ := x; exact p.lt
  | dK kvs => obtain ⟨_, _, _, _, o, _, _, e, _⟩ := x; exact Heap.lt_size e
  | dT kvs => obtain ⟨_, _, _, _, o, _, _, e, _⟩ := x; exact Heap.lt_size e
  | dG kvs => obtain ⟨_, _, _, _, o, _, _, e, _⟩ := x; exact Heap.lt_size e
  | set S n => obtain ⟨o, _, _, _, e, _⟩ := x; exact Heap.lt_size e
  | ins C dx fs => obtain ⟨_, _, _, e, _⟩ := x; exact Heap.lt_size e
  | own y => obtain ⟨_, e⟩ := x; exact Heap.lt_size e
  | xd fs => obtain ⟨_, ⟨_, _, _, e, _⟩, _⟩ := x; exact Heap.lt_size e
  | rng lo hi => obtain ⟨_, _, _, e⟩ := x; exact Heap.lt_size e
  | frz ob u => obtain ⟨e, _⟩ := x; exact Heap.lt_size e
  | tbl ps => exact Heap.lt_size (show h.get? a = some _ from x)
  | met f y => exact Heap.lt_size (show h.get? a = some _ from x)
  | ext φ => obtain ⟨_, ⟨_, e⟩, _⟩ := x; exact Heap.lt_size e
theorem Paired.mapP {α β : Type} {F G : α → β → Prop} : ∀ {l₁ : List α} {l₂ : List β}, Paired F l₁ l₂ → (∀ a b, F a b → G a b) → Paired G l₁ l₂
  | _, _, .nil, _ => .nil
  | _, _, .cons r t, f => .cons (f _ _ r) (Paired.mapP t f)
theorem GK.stay {H H' : Hp} {k : KD} {v : V} (g : GK H k v) (ht : ∀ b xs, H b = some (.tup xs) → H' b = some (.tup xs)) : GK H' k v := by
  cases k with
  | non => exact g
  | int i => exact g
  | tup ks => obtain ⟨b, e, h⟩ := g; exact ⟨b, e, ht _ _ h⟩
  | two ks ls => obtain ⟨b, c, d, e, h1, h2, h3⟩ := g; exact ⟨b, c, d, e, ht _ _ h1, ht _ _ h2, ht _ _ h3⟩
theorem ObjOk.stay (x : ObjOk P w H h a o) (k : ∀ b u, (b = a ∨ H b = some (.own a)) → h.get? b = some u → h'.get? b = some u)
    (ho : ∀ b, H b = some (.own a) → H' b = some (.own a)) (ht : ∀ b xs, H b = some (.tup xs) → H' b = some (.tup xs)) : ObjOk P w H' h' a o := by
  induction o with
  | lst xs => obtain ⟨z, its, n, r, e⟩ := x; exact ⟨z, its, n, r, k _ _ (.inl rfl) e⟩
  | tup xs => obtain ⟨z, its, r, ob, e, c⟩ := x; exact ⟨z, its, r, ob, k _ _ (.inl rfl) e, c⟩
  | dK kvs => obtain ⟨z, y, vs, r, ob, es, ep, e, c⟩ := x; exact ⟨z, y, vs, r, ob, es, ep, k _ _ (.inl rfl) e, c⟩
  | dT kvs =>
    obtain ⟨z, y, xs, r, ob, es, ep, e, c⟩ := x
    exact ⟨z, y, xs, Paired.mapP r fun p q z => ⟨z.1, ht _ _ z.2.1, z.2.2⟩, ob, es, ep, k _ _ (.inl rfl) e, c⟩
  | dG kvs =>
    obtain ⟨z, y, xs, r, ob, es, ep, e, c⟩ := x
    exact ⟨z, y, xs, Paired.mapP r fun p q z => ⟨z.1, z.2.1.stay ht, z.2.2⟩, ob, es, ep, k _ _ (.inl rfl) e, c⟩
  | set S n => obtain ⟨ob, es, ep, t, e, c⟩ := x; exact ⟨ob, es, ep, t, k _ _ (.inl rfl) e, c⟩
  | ins C dx fs =>
    obtain ⟨d, z, ne, e, mA, ⟨od, es, ep, e2, c⟩, r⟩ := x
    exact ⟨ho _ d, z, ne, k _ _ (.inl rfl) e, mA, ⟨od, es, ep, k _ _ (.inr d) e2, c⟩, r⟩
  | own y => obtain ⟨ob, e⟩ := x; exact ⟨ob, k _ _ (.inl rfl) e⟩
  | xd fs => obtain ⟨mA, ⟨od, es, ep, e, c⟩, r⟩ := x; exact ⟨mA, ⟨od, es, ep, k _ _ (.inl rfl) e, c⟩, r⟩
  | rng lo hi => obtain ⟨t, u, v, e⟩ := x; exact ⟨t, u, v, k _ _ (.inl rfl) e⟩
  | frz ob u ih => obtain ⟨e, q⟩ := x; exact ⟨k _ _ (.inl rfl) e, ih q⟩
  | tbl ps =>
    have e : h.get? a = some { cls := .none, data := .fields ps } := x
    show h'.get? a = some { cls := .none, data := .fields ps }
    exact k a _ (.inl rfl) e
  | met f y =>
    have e : h.get? a = some (PySem.W.methodObj (.ref f) (.ref y)) := x
    show h'.get? a = some (PySem.W.methodObj (.ref f) (.ref y))
    exact k a _ (.inl rfl) e
  | ext φ => obtain ⟨p, ⟨o, e⟩, st⟩ := x; exact ⟨st _ _ p fun o q => k _ _ (.inl rfl) q, ⟨o, k _ _ (.inl rfl) e⟩, st⟩
theorem HOk.lt (x : HOk P w H h) (e : H a = some o) : a < h.objs.size := (x a o e).lt
theorem HOk.fresh (x : HOk P w H h) (e : h.objs.size ≤ a) : H a = none := by
  cases q : H a with
  | none => rfl
  | some u => exact absurd (Nat.lt_of_lt_of_le (x.lt q) e) (Nat.lt_irrefl _)
theorem HOk.kept (x : HOk P w H h) (k : ∀ b u, h.get? b = some u → h'.get? b = some u) : HOk P w H h' := fun a o e =>
  (x a o e).stay (fun b u _ q => k b u q) (fun _ q => q) fun _ _ q => q
theorem HOk.laid (x : HOk P w H h) (k : ∀ b u, h.get? b = some u → h'.get? b = some u) (hp : h.objs.size ≤ a) (new : ObjOk P w (upd H a o) h' a o) : HOk P w (upd H a o) h' := fun b u e => by
  have hn := x.fresh hp
  by_cases hb : b = a
  · subst hb; rw [upd_same] at e; cases e; exact new
  · rw [upd_ne hb] at e
    exact (x b u e).stay (fun c v _ q => k c v q) (fun c q => by rw [upd_ne (ne_of_none q hn)]; exact q) fun c xs q => by rw [upd_ne (ne_of_none q hn)]; exact q
end
def Rd (H : Hp) (a : Addr) (u : HO) : Prop := H a = some u ∨ ∃ o, H a = some (.frz o u)
theorem Rd.ok {P : Program} {w : World} {H : Hp} {h : Heap} {a : Addr} {u : HO} (r : Rd H a u) (x : HOk P w H h) : ObjOk P w H h a u := by
  rcases r with r | ⟨o, r⟩
  · exact x a u r
  · obtain ⟨_, q⟩ := x a _ r
    exact q
def Mut : Option HO → Prop
  | some (.lst _) => True
  | some (.dK _) => True
  | some (.dT _) => True
  | some (.dG _) => True
  | some (.set _ _) => True
  | some (.ins _ _ _) => True
  | some (.ext _) => True
  | _ => False
section
variable {P : Program} {w : World} {H : Hp} {h h' : Heap} {x e : Addr} {o' : HO}
theorem HOk.write (ok : HOk P w H h) (mu : Mut (H x)) (he : e = x ∨ H e = some (.own x)) (k : ∀ b u, b ≠ e → h.get? b = some u → h'.get? b = some u) (heo : ∃ u, h'.get? e = some u)
    (new : ObjOk P w (upd H x o') h' x o') : HOk P w (upd H x o') h' := fun b u q => by
  have nown : ∀ c y, H c = some (.own y) → c ≠ x := fun c y r z => by subst z; rw [r] at mu; exact mu
  have ntup : ∀ c xs, H c = some (.tup xs) → c ≠ x := fun c xs r z => by subst z; rw [r] at mu; exact mu
  by_cases hb : b = x
  · subst hb; rw [upd_same] at q; cases q; exact new
  · rw [upd_ne hb] at q
    by_cases hbe : b = e
    · have q' : H b = some (.own x) := by
        rcases he with z | z
        · exact absurd (hbe.trans z) hb
        · rw [hbe]; exact z
      rw [q] at q'; cases q'
      obtain ⟨v, hv⟩ := heo
      exact ⟨v, by rw [hbe]; exact hv⟩
    · refine (ok b u q).stay (fun c v hc r => k c v ?_ r) (fun c r => by rw [upd_ne (nown c b r)]; exact r) fun c xs r => by rw [upd_ne (ntup c xs r)]; exact r
      rcases hc with rfl | hc
      · exact hbe
      · rintro rfl
        rcases he with z | z
        · exact nown c b hc z
        · rw [hc] at z; cases z; exact hb rfl
end
structure Un (fs ex : List Addr) (H H' : Hp) (h h' : Heap) : Prop where
  keep : ∀ b o, h.get? b = some o → H b = none → b ∉ fs → b ∉ ex → h'.get? b = some o
  slot : ∀ b o, h.get? b = some o → H b = none → b ∈ fs → b ∉ ex → ∃ sl, h'.get? b = some { o with slots := sl }
  free : ∀ b o, h.get? b = some o → H b = none → b ∉ ex → H' b = none
  there : ∀ b o, h.get? b = some o → b ∉ ex → ∃ o', h'.get? b = some o'
  tups : ∀ b xs, H b = some (.tup xs) → H' b = some (.tup xs)
  frzs : ∀ b o u, H b = some (.frz o u) → H' b = some (.frz o u)
  tbls : ∀ b ps, H b = some (.tbl ps) → ∃ more, H' b = some (.tbl (ps ++ more))
  tupo : ∀ b o xs, h.get? b = some o → H b = some (.tup xs) → h'.get? b = some o
section
variable {fs fs' ex ex' : List Addr} {H H1 H2 : Hp} {h h1 h2 h' : Heap} {a x e : Addr} {o : HO}
theorem Un.any (u : Un fs ex H H1 h h1) {b : Addr} {ob : Obj} (q : h.get? b = some ob) (n : H b = none) (hx : b ∉ ex) : ∃ sl, h1.get? b = some { ob with slots := sl } := by
  by_cases hb : b ∈ fs
  · exact u.slot b ob q n hb hx
  · exact ⟨ob.slots, u.keep b ob q n hb hx⟩
theorem Un.kept (k : ∀ b u, h.get? b = some u → h'.get? b = some u) : Un fs ex H H h h' :=
  ⟨fun b ob q _ _ _ => k b ob q, fun b ob q _ _ _ => ⟨ob.slots, k b ob q⟩, fun _ _ _ n _ => n, fun b ob q _ => ⟨ob, k b ob q⟩, fun _ _ q => q, fun _ _ _ q => q, fun _ ps q => ⟨#[], by rw [q]; simp⟩, fun b ob _ q _ => k b ob q⟩
theorem Un.refl : Un fs ex H H h h := Un.kept fun _ _ q => q
theorem Un.laid (k : ∀ b u, h.get? b = some u → h'.get? b = some u) (hp : h.objs.size ≤ a) (hn : H a = none) : Un fs ex H (upd H a o) h h' where
  keep := fun b u q _ _ _ => k b u q
  slot := fun b u q _ _ _ => ⟨u.slots, k b u q⟩
  free := fun b u q n _ => by rw [upd_ne (Nat.ne_of_lt (Nat.lt_of_lt_of_le (Heap.lt_size q) hp))]; exact n
  there := fun b u q _ => ⟨u, k b u q⟩
  tups := fun b xs q => by rw [upd_ne (ne_of_none q hn)]; exact q
  frzs := fun b u xs q => by rw [upd_ne (ne_of_none q hn)]; exact q
  tbls := fun b ps q => ⟨#[], by rw [upd_ne (ne_of_none q hn), q]; simp⟩
  tupo := fun b u _ q _ => k b u q
theorem Un.write (mu : Mut (H x)) (he : e = x ∨ H e = some (.own x)) (k : ∀ b u, b ≠ e → h.get? b = some u → h'.get? b = some u) (heo : ∃ u, h'.get? e = some u) : Un fs ex H (upd H x o) h h' := by
  have hx : ∀ b, H b = none → b ≠ x := fun b n z => by subst z; rw [n] at mu; exact mu
  have hb : ∀ b, H b = none → b ≠ e := fun b n z => by
    subst z
    rcases he with r | r
    · exact hx b n r
    · rw [n] at r; cases r
  have hm : ∀ b u, H b = some u → ¬ Mut (some u) → b ≠ x := fun b u q nm z => by subst z; rw [q] at mu; exact nm mu
  refine ⟨fun b u q n _ _ => k b u (hb b n) q, fun b u q n _ _ => ⟨u.slots, k b u (hb b n) q⟩, fun b u q n _ => by rw [upd_ne (hx b n)]; exact n, fun b u q _ => ?_,
    fun b xs q => by rw [upd_ne (hm b _ q fun z => z)]; exact q, fun b u xs q => by rw [upd_ne (hm b _ q fun z => z)]; exact q, fun b ps q => ⟨#[], by rw [upd_ne (hm b _ q fun z => z), q]; simp⟩, fun b u xs q n => k b u (fun z => by
      subst z
      rcases he with r | r
      · exact hm b _ n (fun z => z) r
      · rw [n] at r; cases r) q⟩
  by_cases hbe : b = e
  · subst hbe; exact heo
  · exact ⟨u, k b u hbe q⟩
end
def trk (h : Heap) (H : Hp) : List Addr := (List.range h.objs.size).filter fun a => (H a).isSome
def hidT (h : Heap) (H : Hp) : Heap := PySem.W.hideAll h (trk h H)
theorem hidT_size (h : Heap) (H : Hp) : (hidT h H).objs.size = h.objs.size := PySem.W.hideAll_size _ _
theorem hidT_get {h : Heap} {H : Hp} {b : Addr} {o : Obj} (e : h.get? b = some o) (n : H b = none) : (hidT h H).get? b = some o :=
  PySem.W.hideAll_get _ e fun hm => by
    have q : (H b).isSome = true := (List.mem_filter.mp hm).2
    rw [n] at q; simp at q
theorem of_hidT {h : Heap} {H : Hp} {b : Addr} {o : Obj} (e : (hidT h H).get? b = some o) : h.get? b = some o ∧ H b = none := by
  have e' : h.get? b = some o := PySem.W.of_hideAll (trk h H) e
  refine ⟨e', ?_⟩
  cases q : H b with
  | none => rfl
  | some x =>
    have hm : b ∈ trk h H := List.mem_filter.mpr ⟨List.mem_range.mpr (Heap.lt_size e'), by simp [q]⟩
    have z : (hidT h H).get? b = none := PySem.W.hideAll_none (trk h H) hm
    rw [z] at e; cases e
end L2
namespace L2
open PySem PySem.Spec PyProof.Rows
structure Mod (K : PySem.W.Frag) (mg : Str → Option Value) (base : Heap) : Prop where
  kin : K.In base
  glob : base.Ns mainGlobals mg
  blt : ∃ mb, base.Ns builtinsNs mb ∧ ∀ x : Str, x ≠ "__name__" → mb x = bootBuiltins x
  nolimit : base.NoLimit
structure Cx where
  prog : Program
  w : World
  K : PySem.W.Frag
  mg : Str → Option Value
  base : Heap
  A : Around
  N : List Str
  s₀ : Shared
  H₀ : Hp
  env : Env
  outer : List Env
  stack : List Env
  ex : List Addr
  fn : Str → Bool
  calm : Bool
  pn : List (Addr × Obj)
  xe : Value → Shared → Prop
def frs (l : List Env) : List Addr := l.filterMap (·.frame)
abbrev Cx.fs (X : Cx) : List Addr := frs X.outer
def Vis (sc : Scope) (x : Str) : Prop := sc.names.lookup x = some .local ∨ sc.names.lookup x = some .cell ∨ sc.names.lookup x = some .free
def Loc (sc : Scope) (x : Str) : Prop := sc.names.lookup x = some .local ∨ sc.names.lookup x = some .cell
def Look (env : Env) (h : Heap) (m : Str → Option Value) (x : Str) (u : Value) : Prop :=
  (env.kindOf x = some .local ∧ m x = some u) ∨ ((env.kindOf x = some .cell ∨ env.kindOf x = some .free) ∧ ∃ c, env.cells.lookup x = some c ∧ h.IsCell c (some u))
structure Cx.Ok (X : Cx) : Prop where
  mod : Mod X.K X.mg X.base
  kind : X.env.scope.kind = .function
  glob : X.env.globals = mainGlobals
  blt : X.env.builtins = builtinsNs
  above : X.s₀.heap.objs.size ≤ X.env.locals
  inj : ∀ x y c, X.env.cells.lookup x = some c → X.env.cells.lookup y = some c → x = y
  has : ∀ x, (X.env.kindOf x = some .cell ∨ X.env.kindOf x = some .free) → ∃ c, X.env.cells.lookup x = some c
  cab : ∀ x c, X.fn x = true → X.env.cells.lookup x = some c → X.s₀.heap.objs.size ≤ c
  hd : X.calm = true → X.A.handled = none
  frames : X.A.frames = some X.stack
  stk : X.stack = X.outer ∨ (X.stack = X.env :: X.outer ∧ X.env.frame = some X.env.locals)
  exf : ∀ b ∈ X.ex, b ≠ X.env.locals ∧ ∀ x c, X.env.cells.lookup x = some c → c ≠ b
  bs : ∀ b o, X.base.get? b = some o → X.s₀.heap.get? b = some o ∧ (X.H₀ b = none ∨ ∃ xs, X.H₀ b = some (.tup xs))
  bsz : X.base.objs.size ≤ X.s₀.heap.objs.size
  noex : ∀ b o, X.base.get? b = some o → b ∉ X.ex
  exfs : ∀ b ∈ X.ex, b ∉ X.fs
  funs : X.s₀.heap.FunFrames X.base X.outer
  frf : ∀ b ∈ X.fs, X.H₀ b = none
structure Inv (X : Cx) (pins : List (Addr × Obj)) (σ : List (Option V)) (H : Hp) (s : Shared) : Prop where
  ok : X.Ok
  os : s.os = X.s₀.os
  bare : AllBare s.gens
  base : Un X.fs X.ex X.H₀ H X.s₀.heap s.heap
  loc : ∃ m, s.heap.Ns X.env.locals m ∧ ∀ (i : Nat) (x : Str) (v : V), X.N[i]? = some x → σ[i]? = some (some v) → Vis X.env.scope x → ∃ u, RelV v u ∧ Look X.env s.heap m x u
  cell : ∀ x c, X.env.cells.lookup x = some c → ∃ v, s.heap.IsCell c v
  free : H X.env.locals = none
  freeC : ∀ x c, X.env.cells.lookup x = some c → H c = none
  pin : ∀ p ∈ X.pn ++ pins, s.heap.get? p.1 = some p.2 ∧ H p.1 = none ∧ p.1 ≠ X.env.locals ∧ p.1 ∉ X.fs ∧ ∀ v, p.2.data ≠ .cell v
  hok : HOk X.prog X.w H s.heap
  len : σ.length = X.N.length
section
variable {X : Cx} {pins : List (Addr × Obj)} {σ : List (Option V)} {H H' : Hp} {s : Shared} {h' : Heap}
theorem Cx.Ok.nofr (ok : X.Ok) {b : Addr} {o : Obj} (e : X.base.get? b = some o) : b ∉ X.fs := fun hb => by
  have := (ok.funs.mem hb).1
  rw [e] at this; cases this
theorem Inv.bs (I : Inv X pins σ H s) : ∀ b o, X.base.get? b = some o → s.heap.get? b = some o ∧ (H b = none ∨ ∃ xs, H b = some (.tup xs)) := fun b o e =>
  match I.ok.bs b o e with
  | ⟨h1, .inl h2⟩ => ⟨I.base.keep b o h1 h2 (I.ok.nofr e) (I.ok.noex b o e), .inl (I.base.free b o h1 h2 (I.ok.noex b o e))⟩
  | ⟨h1, .inr ⟨xs, h2⟩⟩ => ⟨I.base.tupo b o xs h1 h2, .inr ⟨xs, I.base.tups b xs h2⟩⟩
theorem Inv.bk (I : Inv X pins σ H s) : ∀ b o, X.base.get? b = some o → s.heap.get? b = some o := fun b o e => (I.bs b o e).1
theorem Inv.mod (I : Inv X pins σ H s) : Mod X.K X.mg X.base := I.ok.mod
theorem Inv.kIn (I : Inv X pins σ H s) : X.K.In s.heap := I.ok.mod.kin.keeps I.bk
theorem Inv.lt (I : Inv X pins σ H s) : X.env.locals < s.heap.objs.size := let ⟨_, hn, _⟩ := I.loc; hn.lt
theorem Inv.sz (I : Inv X pins σ H s) : X.s₀.heap.objs.size ≤ s.heap.objs.size := Nat.le_trans I.ok.above (Nat.le_of_lt I.lt)
theorem Inv.nofs (I : Inv X pins σ H s) {a : Addr} (h : s.heap.objs.size ≤ a) : a ∉ X.fs := fun hb => by
  obtain ⟨_, o, ho, _⟩ := I.ok.funs.mem hb
  exact absurd (Nat.lt_of_lt_of_le (Heap.lt_size ho) (Nat.le_trans I.sz h)) (Nat.lt_irrefl _)
theorem Inv.cne (I : Inv X pins σ H s) : ∀ x c, X.env.cells.lookup x = some c → c ≠ X.env.locals := fun x c e z => by
  obtain ⟨v, o, ho, hd⟩ := I.cell x c e
  obtain ⟨m, ⟨o', es, ep, ho', hd', _⟩, _⟩ := I.loc
  rw [z, ho'] at ho; cases ho; rw [hd'] at hd; cases hd
theorem Inv.funs (I : Inv X pins σ H s) : s.heap.FunFrames X.base X.outer := by
  have all : ∀ (l : List Env), (∀ b ∈ frs l, b ∈ X.fs) → X.s₀.heap.FunFrames X.base l → s.heap.FunFrames X.base l := by
    intro l
    induction l with
    | nil => intro _ _; trivial
    | cons env r ih =>
      intro hs hl
      obtain ⟨hk, ⟨L, o, hf, hn, ho, hd⟩, hr⟩ := hl
      have hL : L ∈ X.fs := hs L (by unfold frs; rw [List.filterMap_cons, hf]; exact List.mem_cons_self)
      obtain ⟨sl, e⟩ := I.base.slot L o ho (I.ok.frf L hL) hL fun z => I.ok.exfs L z hL
      exact ⟨hk, ⟨L, _, hf, hn, e, hd⟩, ih (fun b hb => hs b (by unfold frs; rw [List.filterMap_cons, hf]; exact List.mem_cons_of_mem _ hb)) hr⟩
  exact all X.outer (fun _ hb => hb) I.ok.funs
theorem Inv.stack (I : Inv X pins σ H s) : s.heap.FunFrames X.base X.stack := by
  rcases I.ok.stk with e | ⟨e, hf⟩
  · rw [e]; exact I.funs
  · rw [e]
    obtain ⟨m, hn, _⟩ := I.loc
    refine .cons (by rw [I.ok.kind]; decide) hf hn ?_ I.funs
    exact Heap.get?_none_of_le (Nat.le_trans I.ok.bsz I.ok.above)
theorem Inv.stkSub (I : Inv X pins σ H s) : ∀ b ∈ frs X.stack, b ∈ X.env.locals :: X.fs := fun b hb => by
  rcases I.ok.stk with e | ⟨e, hf⟩
  · rw [e] at hb; exact List.mem_cons_of_mem _ hb
  · rw [e] at hb
    unfold frs at hb
    rw [List.filterMap_cons, hf] at hb
    exact hb
theorem Inv.stkFree (I : Inv X pins σ H s) : ∀ b ∈ frs X.stack, H b = none := fun b hb => by
  rcases List.mem_cons.mp (I.stkSub b hb) with e | hb
  · rw [e]; exact I.free
  · obtain ⟨_, o, ho, _⟩ := I.ok.funs.mem hb
    exact I.base.free b o ho (I.ok.frf b hb) fun z => I.ok.exfs b z hb
theorem Inv.step {g' : Array GenState} {t' : Nat} {d' : Drawn} {ch : List Addr} (I : Inv X pins σ H s)
    (hch : ∀ b ∈ ch, (b ∈ X.ex ∨ X.s₀.heap.objs.size ≤ b) ∧ b ≠ X.env.locals ∧ (∀ x c, X.env.cells.lookup x = some c → c ≠ b) ∧ ∀ p ∈ X.pn ++ pins, p.1 ≠ b)
    (keep : ∀ b o, b ≠ X.env.locals → b ∉ X.fs → b ∉ ch → s.heap.get? b = some o → H b = none → h'.get? b = some o)
    (slot : ∀ b o, b ≠ X.env.locals → b ∈ X.fs → b ∉ ch → s.heap.get? b = some o → H b = none → ∃ sl, h'.get? b = some { o with slots := sl }) (free : ∀ b o, b ∉ ch → s.heap.get? b = some o → H b = none → H' b = none)
    (there : ∀ b o, b ∉ ch → s.heap.get? b = some o → ∃ o', h'.get? b = some o')
    (tups : ∀ b xs, H b = some (.tup xs) → H' b = some (.tup xs)) (frzs : ∀ b o u, H b = some (.frz o u) → H' b = some (.frz o u)) (tbls : ∀ b ps, H b = some (.tbl ps) → ∃ more, H' b = some (.tbl (ps ++ more))) (tupo : ∀ b o xs, s.heap.get? b = some o → H b = some (.tup xs) → h'.get? b = some o)
    (ns : ∀ m, s.heap.Ns X.env.locals m → h'.Ns X.env.locals m) (hok : HOk X.prog X.w H' h') (hg : AllBare g') :
    Inv X pins σ H' { s with heap := h', gens := g', drawn := d', toks := t' } := by
  have neL : ∀ b o, X.s₀.heap.get? b = some o → b ≠ X.env.locals := fun b o e => Nat.ne_of_lt (Nat.lt_of_lt_of_le (Heap.lt_size e) I.ok.above)
  have neC : ∀ b o, X.s₀.heap.get? b = some o → b ∉ X.ex → b ∉ ch := fun b o e hx hb => by
    rcases (hch b hb).1 with z | z
    · exact hx z
    · exact absurd (Nat.lt_of_lt_of_le (Heap.lt_size e) z) (Nat.lt_irrefl _)
  have cellK : ∀ x c, X.env.cells.lookup x = some c → ∀ v, s.heap.IsCell c v → h'.IsCell c v := fun x c e v ⟨o, ho, hd⟩ => by
    have nch : c ∉ ch := fun z => (hch c z).2.2.1 x c e rfl
    by_cases hc : c ∈ X.fs
    · obtain ⟨sl, q⟩ := slot c o (I.cne x c e) hc nch ho (I.freeC x c e)
      exact ⟨_, q, hd⟩
    · exact ⟨o, keep c o (I.cne x c e) hc nch ho (I.freeC x c e), hd⟩
  refine ⟨I.ok, I.os, hg, ⟨fun b o e n hb hx => ?_, fun b o e n hb hx => ?_, fun b o e n hx => ?_, fun b o e hx => ?_, fun b xs e => tups b xs (I.base.tups b xs e), fun b o xs e => frzs b o xs (I.base.frzs b o xs e), fun b ps e => ?_, fun b o xs e n => tupo b o xs (I.base.tupo b o xs e n) (I.base.tups b xs n)⟩, ?_, fun x c e => ?_, ?_, fun x c e => ?_, fun p hp => ?_, hok, I.len⟩
  · exact keep b o (neL b o e) hb (neC b o e hx) (I.base.keep b o e n hb hx) (I.base.free b o e n hx)
  · obtain ⟨sl, e1⟩ := I.base.slot b o e n hb hx
    obtain ⟨sl', e2⟩ := slot b _ (neL b o e) hb (neC b o e hx) e1 (I.base.free b o e n hx)
    exact ⟨sl', e2⟩
  · obtain ⟨o', e1⟩ := I.base.there b o e hx
    exact free b o' (neC b o e hx) e1 (I.base.free b o e n hx)
  · obtain ⟨o', e1⟩ := I.base.there b o e hx
    exact there b o' (neC b o e hx) e1
  · obtain ⟨m1, e1⟩ := I.base.tbls b ps e
    obtain ⟨m2, e2⟩ := tbls b _ e1
    exact ⟨m1 ++ m2, by rw [e2, Array.append_assoc]⟩
  · obtain ⟨m, hn, hl⟩ := I.loc
    refine ⟨m, ns m hn, fun i x v e1 e2 e3 => ?_⟩
    obtain ⟨u, r, l⟩ := hl i x v e1 e2 e3
    refine ⟨u, r, ?_⟩
    rcases l with l | ⟨k, c, e, z⟩
    · exact .inl l
    · exact .inr ⟨k, c, e, cellK x c e _ z⟩
  · obtain ⟨v, z⟩ := I.cell x c e
    exact ⟨v, cellK x c e v z⟩
  · obtain ⟨m, ⟨o, _, _, ho, _⟩, _⟩ := I.loc
    exact free _ o (fun z => (hch _ z).2.1 rfl) ho I.free
  · obtain ⟨v, o, ho, hd⟩ := I.cell x c e
    exact free c o (fun z => (hch c z).2.2.1 x c e rfl) ho (I.freeC x c e)
  · obtain ⟨e, n, ne, nf, d⟩ := I.pin p hp
    have nch : p.1 ∉ ch := fun z => (hch p.1 z).2.2.2 p hp rfl
    exact ⟨keep p.1 p.2 ne nf nch e n, free p.1 p.2 nch e n, ne, nf, d⟩
theorem Inv.un {t' : Nat} (I : Inv X pins σ H s) (u : Un X.fs [] H H' s.heap h') (hok : HOk X.prog X.w H' h') : Inv X pins σ H' { s with heap := h', toks := t' } := by
  obtain ⟨m, ⟨o, es, ep, ho, r⟩, _⟩ := id I.loc
  obtain ⟨sl, hL⟩ := u.any ho I.free (by simp)
  exact I.step (g' := s.gens) (d' := s.drawn) (ch := []) (fun _ z => nomatch z) (fun b o _ hb _ e n => u.keep b o e n hb (by simp)) (fun b o _ hb _ e n => u.slot b o e n hb (by simp)) (fun b o _ e n => u.free b o e n (by simp)) (fun b o _ e => u.there b o e (by simp)) u.tups u.frzs u.tbls u.tupo (fun m' hm => by
    obtain ⟨o', es', ep', ho', r'⟩ := hm
    rw [ho] at ho'; cases ho'
    exact ⟨_, es', ep', hL, r'⟩) hok I.bare
theorem Inv.call {g' : Array GenState} {t' : Nat} {d' : Drawn} {ch : List Addr} (I : Inv X pins σ H s) (u : Un (frs X.stack) ch H H' s.heap h') (hok : HOk X.prog X.w H' h') (hg : AllBare g')
    (hch : ∀ b ∈ ch, (b ∈ X.ex ∨ X.s₀.heap.objs.size ≤ b) ∧ b ≠ X.env.locals ∧ (∀ x c, X.env.cells.lookup x = some c → c ≠ b) ∧ ∀ p ∈ X.pn ++ pins, p.1 ≠ b) :
    Inv X pins σ H' { s with heap := h', gens := g', drawn := d', toks := t' } := by
  obtain ⟨m, ⟨o, es, ep, ho, r⟩, _⟩ := id I.loc
  obtain ⟨sl, hL⟩ := u.any ho I.free fun z => (hch _ z).2.1 rfl
  exact I.step (ch := ch) hch (fun b o hL hb hc e n => u.keep b o e n (fun z => (List.mem_cons.mp (I.stkSub b z)).elim hL hb) hc) (fun b o _ _ hc e n => u.any e n hc) (fun b o hc e n => u.free b o e n hc) (fun b o hc e => u.there b o e hc) u.tups u.frzs u.tbls u.tupo (fun m' hm => by
    obtain ⟨o', es', ep', ho', r'⟩ := hm
    rw [ho] at ho'; cases ho'
    exact ⟨_, es', ep', hL, r'⟩) hok hg
theorem Inv.turned {t' : Nat} {it : Addr} (I : Inv X pins σ H s) (k : ∀ b o, b ≠ it → s.heap.get? b = some o → h'.get? b = some o) (hn : H it = none) (hL : it ≠ X.env.locals)
    (h1 : it ∈ X.ex ∨ X.s₀.heap.objs.size ≤ it) (h2 : ∀ x c, X.env.cells.lookup x = some c → c ≠ it) (h3 : ∀ p ∈ X.pn ++ pins, p.1 ≠ it) : Inv X pins σ H { s with heap := h', toks := t' } := by
  have nit : ∀ b u, H b = some u → b ≠ it := fun b u e z => by rw [z, hn] at e; cases e
  refine I.step (g' := s.gens) (d' := s.drawn) (ch := [it]) (fun b hb => ?_) (fun b o _ _ hc e _ => k b o (fun z => hc (by simp [z])) e) (fun b o _ _ hc e _ => ⟨o.slots, k b o (fun z => hc (by simp [z])) e⟩) (fun _ _ _ _ n => n)
    (fun b o hc e => ⟨o, k b o (fun z => hc (by simp [z])) e⟩) (fun _ _ e => e) (fun _ _ _ e => e) (fun b ps e => ⟨#[], by rw [e]; simp⟩) (fun b o xs e n => k b o (nit b _ n) e) (fun m hm => ?_) (fun b u e => ?_) I.bare
  · have e : b = it := by simpa using hb
    subst e
    exact ⟨h1, hL, h2, h3⟩
  · obtain ⟨o, es, ep, ho, r⟩ := hm
    exact ⟨o, es, ep, k _ o (Ne.symm hL) ho, r⟩
  · refine (I.hok b u e).stay (fun c v hc q => k c v ?_ q) (fun _ q => q) fun _ _ q => q
    rcases hc with z | z
    · rw [z]; exact nit b u e
    · exact nit c _ z
theorem Inv.tok (I : Inv X pins σ H s) (t : Nat) : Inv X pins σ H { s with toks := t } := I.un (h' := s.heap) (t' := t) Un.refl I.hok
theorem Inv.kept {t' : Nat} (I : Inv X pins σ H s) (k : ∀ b u, s.heap.get? b = some u → h'.get? b = some u) : Inv X pins σ H { s with heap := h', toks := t' } := I.un (Un.kept k) (I.hok.kept k)
theorem Inv.laid {a : Addr} {o : HO} {t' : Nat} (I : Inv X pins σ H s) (k : ∀ b u, s.heap.get? b = some u → h'.get? b = some u) (hp : s.heap.objs.size ≤ a) (new : ObjOk X.prog X.w (upd H a o) h' a o) :
    Inv X pins σ (upd H a o) { s with heap := h', toks := t' } := I.un (Un.laid k hp (I.hok.fresh hp)) (I.hok.laid k hp new)
theorem Inv.write {x e : Addr} {o : HO} {t' : Nat} (I : Inv X pins σ H s) (mu : Mut (H x)) (he : e = x ∨ H e = some (.own x)) (k : ∀ b u, b ≠ e → s.heap.get? b = some u → h'.get? b = some u) (heo : ∃ u, h'.get? e = some u)
    (new : ObjOk X.prog X.w (upd H x o) h' x o) : Inv X pins σ (upd H x o) { s with heap := h', toks := t' } := I.un (Un.write mu he k heo) (I.hok.write mu he k heo new)
theorem Inv.weak {σ' : List (Option V)} (I : Inv X pins σ H s) (hl : σ'.length = σ.length) (w : ∀ (i : Nat) v, σ'[i]? = some (some v) → σ[i]? = some (some v)) : Inv X pins σ' H s :=
  ⟨I.ok, I.os, I.bare, I.base, let ⟨m, hn, hl'⟩ := I.loc; ⟨m, hn, fun i x v e1 e2 e3 => hl' i x v e1 (w i v e2) e3⟩, I.cell, I.free, I.freeC, I.pin, I.hok, hl.trans I.len⟩
theorem Inv.pins_of {pins' : List (Addr × Obj)} (I : Inv X pins σ H s) (h : ∀ p ∈ pins', s.heap.get? p.1 = some p.2 ∧ H p.1 = none ∧ p.1 ≠ X.env.locals ∧ p.1 ∉ X.fs ∧ ∀ v, p.2.data ≠ .cell v) : Inv X pins' σ H s :=
  ⟨I.ok, I.os, I.bare, I.base, I.loc, I.cell, I.free, I.freeC, fun p hp => (List.mem_append.mp hp).elim (fun z => I.pin p (List.mem_append_left _ z)) (h p), I.hok, I.len⟩
theorem nodup_ix {N : List Str} (hN : N.Nodup) {i j : Nat} {x : Str} (a : N[i]? = some x) (b : N[j]? = some x) : i = j := by
  obtain ⟨h1, e1⟩ := List.getElem?_eq_some_iff.mp a
  obtain ⟨h2, e2⟩ := List.getElem?_eq_some_iff.mp b
  exact (List.getElem_inj hN).mp (e1.trans e2.symm)
theorem store_ok2 {M : Model} {A : Around} {E : Value → Shared → Prop} {i : Nat} {x : Str} {v : V} {u : Value} {Q : Unit → Shared → Prop} (I : Inv X pins σ H s) (hN : X.N.Nodup) (hi : X.N[i]? = some x) (hx : Loc X.env.scope x) (r : RelV v u)
    (h : ∀ s', Inv X pins (σ.set i (some v)) H s' → (∃ a, Heap.SameBut a s.heap s'.heap ∧ (a = X.env.locals ∨ X.env.cells.lookup x = some a)) → Q () s') (hf : X.fn x = true ∨ X.env.scope.names.lookup x = some .local := by first | exact .inl rfl | exact .inr rfl | assumption) : wpAny M A (storeName X.env x u) Q E s := by
  obtain ⟨m, hn, hl⟩ := id I.loc
  have hcls : (X.env.scope.kind == .class || (X.env.scope.kind == .module && X.env.locals != X.env.globals)) = false := by rw [I.ok.kind]; rfl
  have hiσ : i < σ.length := by rw [I.len]; exact (List.getElem?_eq_some_iff.mp hi).1
  have cne := I.cne
  have tracked : ∀ {a : Addr} {h' : Heap}, (∃ o, s.heap.get? a = some o ∧ H a = none) → Heap.SameBut a s.heap h' → HOk X.prog X.w H h' := fun {a h'} ha hs b ob e => by
    obtain ⟨_, _, hfree⟩ := ha
    refine (I.hok b ob e).stay (fun c w' hc q => (hs.2 c ?_).trans q) (fun _ q => q) fun _ _ q => q
    rintro rfl
    rcases hc with rfl | hc
    · rw [hfree] at e; cases e
    · rw [hfree] at hc; cases hc
  rcases hx with hk | hk
  · refine wpAny_storeName_local hk hn (fun h' hn' hs => ?_) hcls
    obtain ⟨oL, _, _, hoL, _⟩ := id hn
    refine h _ ⟨I.ok, I.os, I.bare, ⟨fun b o e n hb hx => ?_, fun b o e n hb hx => ?_, I.base.free, fun b o e hx => ?_, I.base.tups, I.base.frzs, I.base.tbls, fun b o xs e n => (hs.2 b (Nat.ne_of_lt (Nat.lt_of_lt_of_le (Heap.lt_size e) I.ok.above))).trans (I.base.tupo b o xs e n)⟩, ⟨_, hn', fun j y v' e1 e2 e3 => ?_⟩, fun y c e => ?_, I.free, I.freeC, fun p hp => ?_, tracked ⟨oL, hoL, I.free⟩ hs, by simpa using I.len⟩ ⟨_, hs, .inl rfl⟩
    · exact (hs.2 b (Nat.ne_of_lt (Nat.lt_of_lt_of_le (Heap.lt_size e) I.ok.above))).trans (I.base.keep b o e n hb hx)
    · obtain ⟨sl, e1⟩ := I.base.slot b o e n hb hx
      exact ⟨sl, (hs.2 b (Nat.ne_of_lt (Nat.lt_of_lt_of_le (Heap.lt_size e) I.ok.above))).trans e1⟩
    · obtain ⟨o', e1⟩ := I.base.there b o e hx
      exact ⟨o', (hs.2 b (Nat.ne_of_lt (Nat.lt_of_lt_of_le (Heap.lt_size e) I.ok.above))).trans e1⟩
    · by_cases hj : j = i
      · subst hj
        rw [hi] at e1; cases e1
        rw [List.getElem?_set_self hiσ] at e2
        cases e2
        exact ⟨u, r, .inl ⟨hk, by simp⟩⟩
      · rw [List.getElem?_set_ne (Ne.symm hj)] at e2
        obtain ⟨u', r', q⟩ := hl j y v' e1 e2 e3
        refine ⟨u', r', ?_⟩
        rcases q with ⟨k, e⟩ | ⟨k, c, e, z⟩
        · refine .inl ⟨k, ?_⟩
          have : y ≠ x := fun e => hj (nodup_ix hN e1 (e ▸ hi))
          simp [this, e]
        · exact .inr ⟨k, c, e, z.sameBut hs (cne y c e)⟩
    · obtain ⟨w', z⟩ := I.cell y c e
      exact ⟨w', z.sameBut hs (cne y c e)⟩
    · obtain ⟨e, n, ne, nf, d⟩ := I.pin p hp
      exact ⟨(hs.2 p.1 ne).trans e, n, ne, nf, d⟩
  · have hfn : X.fn x = true := by
      rcases hf with z | z
      · exact z
      · rw [z] at hk; cases hk
    obtain ⟨c, hc⟩ := I.ok.has x (.inl hk)
    obtain ⟨w', z⟩ := I.cell x c hc
    refine wpAny_storeName_cell I.ok.kind hk hc z (fun h' hc' hs => ?_)
    obtain ⟨oc, hoc, hocd⟩ := id z
    refine h { s with heap := h' } ⟨I.ok, I.os, I.bare, ⟨fun b o e n hb hx => ?_, fun b o e n hb hx => ?_, I.base.free, fun b o e hx => ?_, I.base.tups, I.base.frzs, I.base.tbls, fun b o xs e n => (hs.2 b (Nat.ne_of_lt (Nat.lt_of_lt_of_le (Heap.lt_size e) (I.ok.cab x c hfn hc)))).trans (I.base.tupo b o xs e n)⟩, ⟨m, hn.sameBut hs (Ne.symm (cne x c hc)), fun j y v' e1 e2 e3 => ?_⟩, fun y c' e => ?_, I.free, I.freeC, fun p hp => ?_, tracked ⟨oc, hoc, I.freeC x c hc⟩ hs, by simpa using I.len⟩ ⟨c, hs, .inr hc⟩
    · exact (hs.2 b (Nat.ne_of_lt (Nat.lt_of_lt_of_le (Heap.lt_size e) (I.ok.cab x c hfn hc)))).trans (I.base.keep b o e n hb hx)
    · obtain ⟨sl, e1⟩ := I.base.slot b o e n hb hx
      exact ⟨sl, (hs.2 b (Nat.ne_of_lt (Nat.lt_of_lt_of_le (Heap.lt_size e) (I.ok.cab x c hfn hc)))).trans e1⟩
    · obtain ⟨o', e1⟩ := I.base.there b o e hx
      exact ⟨o', (hs.2 b (Nat.ne_of_lt (Nat.lt_of_lt_of_le (Heap.lt_size e) (I.ok.cab x c hfn hc)))).trans e1⟩
    · by_cases hj : j = i
      · subst hj
        rw [hi] at e1; cases e1
        rw [List.getElem?_set_self hiσ] at e2
        cases e2
        exact ⟨u, r, .inr ⟨.inl hk, c, hc, hc'⟩⟩
      · rw [List.getElem?_set_ne (Ne.symm hj)] at e2
        obtain ⟨u', r', q⟩ := hl j y v' e1 e2 e3
        refine ⟨u', r', ?_⟩
        rcases q with q | ⟨k, c', e, z'⟩
        · exact .inl q
        · refine .inr ⟨k, c', e, z'.sameBut hs ?_⟩
          rintro rfl
          exact hj (nodup_ix hN e1 (I.ok.inj _ _ _ e hc ▸ hi))
    · by_cases hcc : c' = c
      · subst hcc; exact ⟨_, hc'⟩
      · obtain ⟨w2, z2⟩ := I.cell y c' e
        exact ⟨w2, z2.sameBut hs hcc⟩
    · obtain ⟨e, n, ne, nf, d⟩ := I.pin p hp
      refine ⟨(hs.2 p.1 ?_).trans e, n, ne, nf, d⟩
      intro q
      rw [q, hoc] at e
      have q' : oc = p.2 := Option.some.inj e
      exact d w' (by rw [← q']; exact hocd)
theorem store_ok {M : Model} {A : Around} {E : Value → Shared → Prop} {i : Nat} {x : Str} {v : V} {u : Value} {Q : Unit → Shared → Prop} (I : Inv X pins σ H s) (hN : X.N.Nodup) (hi : X.N[i]? = some x) (hx : Loc X.env.scope x) (r : RelV v u)
    (h : ∀ s', Inv X pins (σ.set i (some v)) H s' → Q () s') (hf : X.fn x = true ∨ X.env.scope.names.lookup x = some .local := by first | exact .inl rfl | exact .inr rfl | assumption) : wpAny M A (storeName X.env x u) Q E s :=
  store_ok2 I hN hi hx r (fun s' I' _ => h s' I') hf
theorem Inv.call' {s' : Shared} {ch : List Addr} (I : Inv X pins σ H s) (ho : s'.os = s.os) (u : Un (frs X.stack) ch H H' s.heap s'.heap) (hok : HOk X.prog X.w H' s'.heap) (hg : AllBare s'.gens)
    (hch : ∀ b ∈ ch, (b ∈ X.ex ∨ X.s₀.heap.objs.size ≤ b) ∧ b ≠ X.env.locals ∧ (∀ x c, X.env.cells.lookup x = some c → c ≠ b) ∧ ∀ p ∈ X.pn ++ pins, p.1 ≠ b) : Inv X pins σ H' s' := by
  obtain ⟨h', g', d', t', o'⟩ := s'
  have e : o' = s.os := ho
  subst e
  exact I.call (g' := g') (t' := t') (d' := d') u hok hg hch
end
abbrev XK := Value → Option Addr → Hp → Prop
abbrev St := List (Option V)
abbrev VK := V → Hp → Prop
abbrev TE := St → Hp → VK → Prop
abbrev TT := St → Hp → (Bool → Hp → Prop) → Prop
abbrev TA := St → Hp → (List V → Hp → Prop) → Prop
structure Ends where
  nx : St → Hp → Prop
  rt : VK
  bk : St → Hp → Prop := fun _ _ => False
  ct : St → Hp → Prop := fun _ _ => False
abbrev TS := Ends → St → Hp → Prop
def EP (X : Cx) (pins : List (Addr × Obj)) (σ : St) (Q : VK) (u : Value) (s' : Shared) : Prop := ∃ v H', Inv X pins σ H' s' ∧ RelV v u ∧ Q v H'
def TP (X : Cx) (pins : List (Addr × Obj)) (σ : St) (Q : Bool → Hp → Prop) (b : Bool) (s' : Shared) : Prop := ∃ H', Inv X pins σ H' s' ∧ Q b H'
def AP (X : Cx) (pins : List (Addr × Obj)) (σ : St) (Q : List V → Hp → Prop) (us : List Value) (s' : Shared) : Prop := ∃ vs H', Inv X pins σ H' s' ∧ Vals vs us ∧ Q vs H'
def SP (X : Cx) (pins : List (Addr × Obj)) (D : Ends) (f : Flow) (s' : Shared) : Prop :=
  match f with
  | .next => ∃ σ' H', Inv X pins σ' H' s' ∧ D.nx σ' H'
  | .brk => ∃ σ' H', Inv X pins σ' H' s' ∧ D.bk σ' H'
  | .cont => ∃ σ' H', Inv X pins σ' H' s' ∧ D.ct σ' H'
  | .ret u => ∃ v σ' H', Inv X pins σ' H' s' ∧ RelV v u ∧ D.rt v H'
def PE (X : Cx) (e : Expr) (t : TE) : Prop :=
  ∀ (pins : List (Addr × Obj)) (s : Shared) (σ : St) (H : Hp) (Q : VK), Inv X pins σ H s → t σ H Q → wpAny (model X.prog X.w) X.A (eval e X.env) (EP X pins σ Q) X.xe s
def PT (X : Cx) (e : Expr) (t : TT) : Prop :=
  ∀ (pins : List (Addr × Obj)) (s : Shared) (σ : St) (H : Hp) (Q : Bool → Hp → Prop), Inv X pins σ H s → t σ H Q → wpAny (model X.prog X.w) X.A (isTrue e X.env (eval e X.env)) (TP X pins σ Q) X.xe s
def PW (X : Cx) (e : Expr) (t : TT) : Prop :=
  ∀ (whole : Sem Value) (pins : List (Addr × Obj)) (s : Shared) (σ : St) (H : Hp) (Q : Bool → Hp → Prop), Inv X pins σ H s → t σ H Q → wpAny (model X.prog X.w) X.A (isTrue e X.env whole) (TP X pins σ Q) X.xe s
theorem PW.pt {X : Cx} {e : Expr} {t : TT} (h : PW X e t) : PT X e t := h _
def PA (X : Cx) (es : List Expr) (t : TA) : Prop :=
  ∀ (pos : Pos) (pins : List (Addr × Obj)) (s : Shared) (σ : St) (H : Hp) (Q : List V → Hp → Prop), Inv X pins σ H s → t σ H Q → wpAny (model X.prog X.w) X.A (spliced (backTo pos (starEach es X.env))) (AP X pins σ Q) X.xe s
def PS (X : Cx) (st : Stmt) (t : TS) : Prop :=
  ∀ (pins : List (Addr × Obj)) (s : Shared) (σ : St) (H : Hp) (D : Ends), Inv X pins σ H s → t D σ H → wpAny (model X.prog X.w) X.A (exec st X.env) (SP X pins D) X.xe s
def PSs (X : Cx) (st : List Stmt) (t : TS) : Prop :=
  ∀ (pins : List (Addr × Obj)) (s : Shared) (σ : St) (H : Hp) (D : Ends), Inv X pins σ H s → t D σ H → wpAny (model X.prog X.w) X.A (execs st X.env) (SP X pins D) X.xe s
theorem thn {α : Type} {t : Sem α} {Q Q' : α → Shared → Prop} {M : Model} {A : Around} {E : Value → Shared → Prop} {s : Shared} (h : wpAny M A t Q E s) (hQ : ∀ a s, Q a s → Q' a s) : wpAny M A t Q' E s := wpAny_mono h hQ fun _ _ x => x
end L2
namespace L2
open PySem PySem.Spec PyProof.Rows
section
variable {X : Cx}
def tVar (i : Nat) : TE := fun σ H Q => ∃ v, σ[i]? = some (some v) ∧ Q v H
def tC (v : V) : TE := fun _ H Q => Q v H
theorem pe_var {i : Nat} {x : Str} {pos : Pos} (hN : X.N[i]? = some x) (hv : Vis X.env.scope x) (hd : (x == ("__debug__" : Str)) = false := by decide) (hcd : (x == ("__classdict__" : Str)) = false := by decide) : PE X (.Name x pos) (tVar i) := by
  intro pins s σ H Q I h
  obtain ⟨v, e, h⟩ := h
  obtain ⟨m, hn, hl⟩ := I.loc
  obtain ⟨u, r, l⟩ := hl i x v hN e hv
  have fin : EP X pins σ Q u s := ⟨v, H, I, r, h⟩
  rcases l with ⟨hk, hm⟩ | ⟨hk, c, hc, hcell⟩
  · exact wpAny_Name (wpAny_loadName_local I.ok.kind hk hn hm fin) hd
  · rcases hk with hk | hk
    · exact wpAny_Name (wpAny_loadName_cell I.ok.kind hk hc hcell fin) hd
    · exact wpAny_Name (wpAny_loadName_free I.ok.kind hk hc hcell fin hcd) hd
theorem pe_int {i j pos} : PE X (.Constant (.int i) j pos) (tC (.int i)) := fun _ _ _ H _ I h => wpAny_Constant_int ⟨.int i, H, I.tok _, ⟨_, rfl⟩, h⟩
theorem pe_non {j pos} : PE X (.Constant .none j pos) (tC .non) := fun _ _ _ H _ I h => Constant_none ⟨.non, H, I, rfl, h⟩
theorem pe_str {x j pos} : PE X (.Constant (.str x) j pos) (tC (.str x)) := fun _ _ _ H _ I h => Calls.Constant_str ⟨.str x, H, I.tok _, ⟨_, rfl⟩, h⟩
def Gl (X : Cx) (x : Str) : Prop := X.env.kindOf x = some .globalImplicit
theorem ld_glob {E : Value → Shared → Prop} {pins : List (Addr × Obj)} {s : Shared} {σ : St} {H : Hp} {x : Str} {u : Value} {pos : Pos} {Q : Value → Shared → Prop} (I : Inv X pins σ H s) (hg : Gl X x) (hm : X.mg x = some u) (h : Q u s)
    (hd : (x == ("__debug__" : Str)) = false := by decide) : wpAny (model X.prog X.w) X.A (eval (.Name x pos) X.env) Q E s :=
  Calls.Name_function_global I.ok.kind hg (Calls.loadGlobal_global (by rw [I.ok.glob]; exact I.mod.glob.keeps I.bk) hm h) hd
theorem ld_blt {E : Value → Shared → Prop} {pins : List (Addr × Obj)} {s : Shared} {σ : St} {H : Hp} {x : Str} {u : Value} {pos : Pos} {Q : Value → Shared → Prop} (I : Inv X pins σ H s) (hg : Gl X x) (hm : X.mg x = none) (hv : bootBuiltins x = some u) (h : Q u s)
    (hn : x ≠ "__name__" := by decide) (hd : (x == ("__debug__" : Str)) = false := by decide) : wpAny (model X.prog X.w) X.A (eval (.Name x pos) X.env) Q E s := by
  obtain ⟨mb, h1, h2⟩ := I.mod.blt
  exact Calls.Name_function_global I.ok.kind hg (Calls.loadGlobal_builtin (by rw [I.ok.glob]; exact I.mod.glob.keeps I.bk) hm (by rw [I.ok.blt]; exact h1.keeps I.bk) ((h2 x hn).trans hv) h) hd
theorem pe_bltn {x : Str} {v : V} {u : Value} {pos : Pos} (hg : Gl X x) (hm : X.mg x = none) (hv : bootBuiltins x = some u) (r : RelV v u) (hn : x ≠ "__name__" := by decide) (hd : (x == ("__debug__" : Str)) = false := by decide) : PE X (.Name x pos) (tC v) :=
  fun _ _ _ H _ I h => ld_blt I hg hm hv ⟨v, H, I, r, h⟩ hn hd
variable {a b : Expr} {ta tb : TE} {pos : Pos}
def tB (t : TE) : TT := fun σ H Q => t σ H fun x H1 => ∃ c, x = .bl c ∧ Q c H1
theorem pt_val {e : Expr} {t : TE} (h : PE X e t) (he : ∀ whole, isTrue e X.env whole = (do let v ← whole; standAt e.pos; holding [v] (truthy v)) := by intro _; rfl) : PT X e (tB t) := by
  intro pins s σ H Q I hw
  refine isTrue_plain (thn (h pins s σ H _ I hw) fun v s1 ⟨x, H1, I1, r1, q1⟩ => ?_) (he _)
  obtain ⟨d, rfl, q⟩ := q1
  cases r1
  exact wpAny_truthy_bool ⟨H1, I1, q⟩
variable {tA tB' : TT} {rest : List Expr}
def tAnd (t u : TT) : TT := fun σ H Q => t σ H fun c H1 => if c = true then u σ H1 Q else Q false H1
def tOr (t u : TT) : TT := fun σ H Q => t σ H fun c H1 => if c = true then Q true H1 else u σ H1 Q
theorem pw_and1 (ha : PT X a tA) : PW X (.BoolOp .And [a] pos) tA := by
  intro wh pins s σ H Q I h
  refine isTrue_and (thn (ha pins s σ H Q I h) fun c s1 e => ?_)
  cases c with
  | true => exact isTrue_and_nil e
  | false => exact e
theorem pw_or1 (ha : PT X a tA) : PW X (.BoolOp .Or [a] pos) tA := by
  intro wh pins s σ H Q I h
  refine isTrue_or (thn (ha pins s σ H Q I h) fun c s1 e => ?_)
  cases c with
  | false => exact isTrue_or_nil e
  | true => exact e
theorem pw_and (ha : PT X a tA) (hb : PW X (.BoolOp .And (b :: rest) pos) tB') : PW X (.BoolOp .And (a :: b :: rest) pos) (tAnd tA tB') := by
  intro wh pins s σ H Q I h
  refine isTrue_and (thn (ha pins s σ H _ I h) fun c s1 ⟨H1, I1, q1⟩ => ?_)
  cases c with
  | true => exact hb wh pins s1 σ H1 Q I1 q1
  | false => exact ⟨H1, I1, q1⟩
theorem pw_or (ha : PT X a tA) (hb : PW X (.BoolOp .Or (b :: rest) pos) tB') : PW X (.BoolOp .Or (a :: b :: rest) pos) (tOr tA tB') := by
  intro wh pins s σ H Q I h
  refine isTrue_or (thn (ha pins s σ H _ I h) fun c s1 ⟨H1, I1, q1⟩ => ?_)
  cases c with
  | true => exact ⟨H1, I1, q1⟩
  | false => exact hb wh pins s1 σ H1 Q I1 q1
def tAndV (ta tb : TE) : TE := fun σ H Q => ta σ H fun x H1 => ∃ c, x = .bl c ∧ if c = true then tb σ H1 Q else Q (.bl false) H1
theorem pe_one {op} {t : TE} (h : PE X a t) : PE X (.BoolOp op [a] pos) t := fun pins s σ H Q I hw => BoolOp_one (h pins s σ H Q I hw)
theorem pe_and (ha : PE X a ta) (hb : PE X (.BoolOp .And (b :: rest) pos) tb) : PE X (.BoolOp .And (a :: b :: rest) pos) (tAndV ta tb) := by
  intro pins s σ H Q I h
  refine BoolOp_and (thn (ha pins s σ H _ I h) fun v s1 ⟨x, H1, I1, r1, q1⟩ => ?_)
  obtain ⟨c, rfl, q1⟩ := q1
  cases r1
  refine wpAny_truthy_bool ?_
  cases c with
  | true => exact hb pins s1 σ H1 Q I1 q1
  | false => exact ⟨.bl false, H1, I1, rfl, q1⟩
def tIf (t : TT) (ta tb : TE) : TE := fun σ H Q => t σ H fun c H1 => if c = true then ta σ H1 Q else tb σ H1 Q
theorem pe_ifExp {c : Expr} (hc : PT X c tA) (ha : PE X a ta) (hb : PE X b tb) : PE X (.IfExp c a b pos) (tIf tA ta tb) := by
  intro pins s σ H Q I h
  refine wpAny_IfExp (thn (hc pins s σ H _ I h) fun d s1 ⟨H1, I1, q1⟩ => ?_)
  cases d with
  | true => exact ha pins s1 σ H1 Q I1 q1
  | false => exact hb pins s1 σ H1 Q I1 q1
end
end L2
namespace L2
open PySem PySem.Spec PyProof.Rows
def SqL (K : PySem.W.Frag) (H : Hp) (a : Addr) (xs : List V) : Prop :=
  Rd H a (.lst xs) ∨
    ∃ (o : Obj) (its : Array Value) (n : Nat), K.lookup a = some o ∧ o.cls = .type "list" ∧ o.dict = none ∧ o.data = .seq its n ∧ its.size ≤ sizeLine ∧ Vals xs its.toList
def SqT (K : PySem.W.Frag) (H : Hp) (a : Addr) (xs : List V) : Prop :=
  Rd H a (.tup xs) ∨
    ∃ (o : Obj) (its : Array Value) (n : Nat), K.lookup a = some o ∧ o.cls = .type "tuple" ∧ o.data = .seq its n ∧ its.size ≤ sizeLine ∧ Vals xs its.toList
def absV : Value → Option V
  | .none => some .non
  | .bool b => some (.bl b)
  | .int i _ => some (.int i)
  | .str x _ => some (.str x)
  | .bytes b _ => some (.byt b)
  | .float b _ => some (.flt b)
  | .ref a => some (.ref a)
  | .type n => some (.ty n)
  | _ => none
theorem RelV.abs {x : V} {u : Value} (r : RelV x u) : absV u = some x := by
  cases x with
  | non => cases r; rfl
  | bl _ => cases r; rfl
  | int _ => obtain ⟨t, rfl⟩ := r; rfl
  | str _ => obtain ⟨t, rfl⟩ := r; rfl
  | byt _ => obtain ⟨t, rfl⟩ := r; rfl
  | flt _ => obtain ⟨t, rfl⟩ := r; rfl
  | ref _ => cases r; rfl
  | ty _ => cases r; rfl
theorem RelV.inj {x y : V} {u : Value} (r : RelV x u) (q : RelV y u) : x = y := Option.some.inj (r.abs.symm.trans q.abs)
theorem Vals.inj : ∀ {xs ys : List V} {us : List Value}, Vals xs us → Vals ys us → xs = ys
  | _, _, _, .nil, .nil => rfl
  | _, _, _, .cons r t, .cons r' t' => by rw [r.inj r', Vals.inj t t']
section
variable {X : Cx} {pins : List (Addr × Obj)} {σ : St} {H : Hp} {s : Shared} {a : Addr} {xs ys : List V}
theorem SqL.of {K : PySem.W.Frag} (h : H a = some (.lst xs)) : SqL K H a xs := .inl (.inl h)
theorem SqT.of {K : PySem.W.Frag} (h : H a = some (.tup xs)) : SqT K H a xs := .inl (.inl h)
theorem Inv.list (I : Inv X pins σ H s) (h : SqL X.K H a xs) : ∃ its : List Value, Vals xs its ∧ PlainL s.heap a its.toArray ∧ xs.length ≤ sizeLine := by
  rcases h with h | ⟨o, its, n, hk, hc, hd, hs, hz, r⟩
  · obtain ⟨z, its, n, r, e⟩ := h.ok I.hok
    exact ⟨its, r, ⟨_, n, e, rfl, rfl, rfl⟩, z⟩
  · refine ⟨its.toList, r, ⟨o, n, I.kIn a o hk, hc, hd, by simpa using hs⟩, ?_⟩
    have e := r.length
    simp only [Array.length_toList] at e
    omega
theorem Inv.tuple (I : Inv X pins σ H s) (h : SqT X.K H a xs) : ∃ its : List Value, Vals xs its ∧ IsTup s.heap a its.toArray ∧ xs.length ≤ sizeLine := by
  rcases h with h | ⟨o, its, n, hk, hc, hs, hz, r⟩
  · obtain ⟨z, its, r, p⟩ := h.ok I.hok
    exact ⟨its, r, p, z⟩
  · refine ⟨its.toList, r, ⟨o, I.kIn a o hk, hc, n, by simpa using hs⟩, ?_⟩
    have e := r.length
    simp only [Array.length_toList] at e
    omega
theorem Inv.list_inj (I : Inv X pins σ H s) (h : SqL X.K H a xs) (h' : SqL X.K H a ys) : xs = ys := by
  obtain ⟨its, r, ⟨o, n, e, _, _, d⟩, _⟩ := I.list h
  obtain ⟨its', r', ⟨o', n', e', _, _, d'⟩, _⟩ := I.list h'
  rw [e] at e'; cases e'
  rw [d] at d'
  injection d' with d1 _
  have : its = its' := by simpa using congrArg Array.toList d1
  subst this
  exact r.inj r'
end
abbrev Cx.wish (X : Cx) (E : Value → Shared → Prop) : Cx := { X with xe := E }
abbrev Cx.nox (X : Cx) : Cx := X.wish fun _ _ => False
theorem Cx.Ok.wish {X : Cx} (ok : X.Ok) (E : Value → Shared → Prop) : (X.wish E).Ok :=
  ⟨ok.mod, ok.kind, ok.glob, ok.blt, ok.above, ok.inj, ok.has, ok.cab, ok.hd, ok.frames, ok.stk, ok.exf, ok.bs, ok.bsz, ok.noex, ok.exfs, ok.funs, ok.frf⟩
theorem Cx.Ok.unwish {X : Cx} {E : Value → Shared → Prop} (ok : (X.wish E).Ok) : X.Ok :=
  ⟨ok.mod, ok.kind, ok.glob, ok.blt, ok.above, ok.inj, ok.has, ok.cab, ok.hd, ok.frames, ok.stk, ok.exf, ok.bs, ok.bsz, ok.noex, ok.exfs, ok.funs, ok.frf⟩
section
variable {X : Cx} {pins : List (Addr × Obj)} {σ : St} {H : Hp} {s : Shared} {E : Value → Shared → Prop}
theorem Inv.wish (I : Inv X pins σ H s) (E : Value → Shared → Prop) : Inv (X.wish E) pins σ H s := ⟨I.ok.wish E, I.os, I.bare, I.base, I.loc, I.cell, I.free, I.freeC, I.pin, I.hok, I.len⟩
theorem Inv.unwish (I : Inv (X.wish E) pins σ H s) : Inv X pins σ H s := ⟨I.ok.unwish, I.os, I.bare, I.base, I.loc, I.cell, I.free, I.freeC, I.pin, I.hok, I.len⟩
theorem SP.unwish {D : Ends} {f : Flow} {s' : Shared} (h : SP (X.wish E) pins D f s') : SP X pins D f s' := by
  cases f with
  | next => obtain ⟨σ', H', I, q⟩ := h; exact ⟨σ', H', I.unwish, q⟩
  | brk => obtain ⟨σ', H', I, q⟩ := h; exact ⟨σ', H', I.unwish, q⟩
  | cont => obtain ⟨σ', H', I, q⟩ := h; exact ⟨σ', H', I.unwish, q⟩
  | ret u => obtain ⟨v, σ', H', I, r, q⟩ := h; exact ⟨v, σ', H', I.unwish, r, q⟩
theorem PSs.nox {st : List Stmt} {t : TS} (h : PSs X.nox st t) : PSs X st t := fun pins s σ H D I hw =>
  wpAny_mono (h pins s σ H D (I.wish _) hw) (fun _ _ q => q.unwish) fun _ _ z => False.elim z
end
section
variable {X : Cx} {st : Stmt} {rest : List Stmt} {t u : TS} {e : Expr} {te : TE} {pos : Pos}
def tNext : TS := fun D σ H => D.nx σ H
def tSeq (t u : TS) : TS := fun D σ H => t { D with nx := u D } σ H
theorem pss_nil : PSs X [] tNext := fun _ _ σ H _ I h => wpAny_execs_nil ⟨σ, H, I, h⟩
theorem pss_cons (h1 : PS X st t) (h2 : PSs X rest u) : PSs X (st :: rest) (tSeq t u) := by
  intro pins s σ H D I h
  refine wpAny_execs_cons (thn (h1 pins s σ H { D with nx := u D } I h) fun f s1 q => ?_)
  cases f with
  | next =>
    obtain ⟨σ', H', I', q⟩ := q
    exact h2 pins s1 σ' H' D I' q
  | ret v => exact q
  | brk => exact q
  | cont => exact q
theorem pss_one (h1 : PS X st t) : PSs X [st] t := by
  intro pins s σ H D I h
  refine wpAny_execs_cons (thn (h1 pins s σ H D I h) fun f s1 q => ?_)
  cases f with
  | next => exact wpAny_execs_nil q
  | ret v => exact q
  | brk => exact q
  | cont => exact q
theorem Inv.quiet {pins : List (Addr × Obj)} {σ : St} {H : Hp} {s : Shared} (I : Inv X pins σ H s) : interactive X.env = false := by simp [interactive, I.ok.kind]
def tDrop (te : TE) : TS := fun D σ H => te σ H fun _ H1 => D.nx σ H1
theorem ps_expr (he : PE X e te) (hs : swapsWith e none pos.line X.env = pure false := by rfl) : PS X (.Expr e pos) (tDrop te) := by
  intro pins s σ H D I h
  exact wpAny_Expr_any (thn (he pins s σ H _ I h) fun v s1 ⟨x, H1, I1, r1, q1⟩ => ⟨σ, H1, I1, q1⟩) I.quiet hs
def tRet (te : TE) : TS := fun D σ H => te σ H D.rt
theorem ps_ret (he : PE X e te) : PS X (.Return (some e) pos) (tRet te) := by
  intro pins s σ H D I h
  exact wpAny_Return_some (thn (he pins s σ H _ I h) fun v s1 ⟨x, H1, I1, r1, q1⟩ => ⟨x, σ, H1, I1, r1, q1⟩)
def tIfS (c : TT) (t u : TS) : TS := fun D σ H => c σ H fun b H1 => if b = true then t D σ H1 else u D σ H1
theorem ps_if {c : Expr} {a b : List Stmt} {tc : TT} (hc : PT X c tc) (ha : PSs X a t) (hb : PSs X b u) : PS X (.If c a b pos) (tIfS tc t u) := by
  intro pins s σ H D I h
  refine wpAny_If (thn (hc pins s σ H _ I h) fun d s1 ⟨H1, I1, q1⟩ => ?_)
  cases d with
  | true => exact ha pins s1 σ H1 D I1 q1
  | false => exact hb pins s1 σ H1 D I1 q1
end
abbrev TG := V → St → Hp → (St → Hp → Prop) → Prop
abbrev TGs := List V → St → Hp → (St → Hp → Prop) → Prop
def PG (X : Cx) (target : Expr) (t : TG) : Prop :=
  ∀ (pins : List (Addr × Obj)) (s : Shared) (σ : St) (H : Hp) (v : V) (u : Value) (Q : St → Hp → Prop), Inv X pins σ H s → RelV v u → t v σ H Q →
    wpAny (model X.prog X.w) X.A (assign target X.env u) (fun _ s' => ∃ σ' H', Inv X pins σ' H' s' ∧ Q σ' H') X.xe s
def PGs (X : Cx) (ts : List Expr) (t : TGs) : Prop :=
  ∀ (pins : List (Addr × Obj)) (s : Shared) (σ : St) (H : Hp) (vs : List V) (us : List Value) (Q : St → Hp → Prop), Inv X pins σ H s → Vals vs us → t vs σ H Q →
    wpAny (model X.prog X.w) X.A (assignInOrder ((assignEach ts X.env).map (·.2)) us) (fun _ s' => ∃ σ' H', Inv X pins σ' H' s' ∧ Q σ' H') X.xe s
abbrev TSet := V → V → V → Hp → (Hp → Prop) → Prop
def PSet (X : Cx) (t : TSet) : Prop :=
  ∀ (pins : List (Addr × Obj)) (s : Shared) (σ : St) (H : Hp) (o i v : V) (ov iv u : Value) (Q : Hp → Prop), Inv X pins σ H s → RelV o ov → RelV i iv → RelV v u → t o i v H Q →
    wpAny (model X.prog X.w) X.A (setItem ov iv u) (fun _ s' => ∃ H', Inv X pins σ H' s' ∧ Q H') X.xe s
section
variable {X : Cx} {pos : Pos}
def gName (i : Nat) : TG := fun v σ H Q => Q (σ.set i (some v)) H
theorem pg_name {i : Nat} {x : Str} (hN : X.N.Nodup) (hi : X.N[i]? = some x) (hx : Loc X.env.scope x) (hf : X.fn x = true ∨ X.env.scope.names.lookup x = some .local := by first | exact .inl rfl | exact .inr rfl | assumption) : PG X (.Name x pos) (gName i) := by
  intro pins s σ H v u Q I r h
  exact wpAny_assign_Name (store_ok I hN hi hx r (fun s' I' => ⟨_, H, I', h⟩) hf)
def gNil : TGs := fun vs σ H Q => vs = [] ∧ Q σ H
def gCons (t : TG) (u : TGs) : TGs := fun vs σ H Q => ∃ v r, vs = v :: r ∧ t v σ H fun σ' H' => u r σ' H' Q
theorem pgs_nil : PGs X [] gNil := by
  intro pins s σ H vs us Q I r h
  obtain ⟨e, h⟩ := h
  subst e
  cases r
  exact assignInOrder_nil ⟨σ, H, I, h⟩
theorem pgs_cons {e : Expr} {es : List Expr} {t : TG} {u : TGs} (h1 : PG X e t) (h2 : PGs X es u)
    (hs : (assignEach (e :: es) X.env).map (·.2) = assign e X.env :: (assignEach es X.env).map (·.2) := by rfl) : PGs X (e :: es) (gCons t u) := by
  intro pins s σ H vs us Q I r h
  obtain ⟨v, vr, e1, h⟩ := h
  subst e1
  cases r with
  | cons r rr =>
    rw [hs]
    refine assignInOrder_cons (thn (h1 pins s σ H _ _ _ I r h) fun _ s1 ⟨σ1, H1, I1, q1⟩ => ?_)
    exact h2 pins s1 σ1 H1 _ _ Q I1 rr q1
def gTup (K : PySem.W.Frag) (n : Nat) (t : TGs) : TG := fun v σ H Q => ∃ a xs, v = .ref a ∧ SqT K H a xs ∧ xs.length = n ∧ t xs σ H Q
theorem pg_tup {es : List Expr} {k : Nat} {t : TGs} {n : Nat} (hc : X.calm = true) (h : PGs X es t)
    (hn : (assignEach es X.env).length = n := by rfl) (hst : (assignEach es X.env).findIdx? (·.1) = none := by rfl) : PG X (.Tuple es k pos) (gTup X.K n t) := by
  intro pins s σ H v u Q I r hw
  obtain ⟨a, xs, e1, hq, hl, hw⟩ := hw
  subst e1
  cases r
  obtain ⟨its, rv, ht, hz⟩ := I.tuple hq
  refine assign_Tuple_tuple (I.ok.hd hc) ht (by simp [hn, ← hl, rv.length]) hst fun h' hx => ?_
  have I1 : Inv X pins σ H { s with heap := h' } := I.kept (t' := s.toks) fun b o e => hx b o (Nat.ne_of_lt (Heap.lt_size e)) e
  exact h pins _ σ H xs _ Q I1 (by simpa using rv) hw
def gSub (to ti : TE) (t : TSet) : TG := fun v σ H Q => to σ H fun o H1 => ti σ H1 fun i H2 => t o i v H2 fun H3 => Q σ H3
theorem pg_sub {o i : Expr} {to ti : TE} {t : TSet} (ho : PE X o to) (hi : PE X i ti) (hs : PSet X t)
    (ha : ∀ v, assign (.Subscript o i pos) X.env v = (do
      let ov ← holding [v] (eval o X.env)
      let iv ← holding [v, ov] (eval i X.env)
      standAt pos
      holding [v, ov, iv] (setItem ov iv v)
      release [v, ov, iv] []) := by intro _; rfl) : PG X (.Subscript o i pos) (gSub to ti t) := by
  intro pins s σ H v u Q I r h
  rw [ha]
  refine wpAny_bind (wpAny_holding (thn (ho pins s σ H _ I h) fun ov s1 ⟨x, H1, I1, r1, q1⟩ => ?_))
  refine wpAny_bind (wpAny_holding (thn (hi pins s1 σ H1 _ I1 q1) fun iv s2 ⟨y, H2, I2, r2, q2⟩ => ?_))
  refine wpAny_bind (wpAny_standAt (wpAny_bind (wpAny_holding (thn (hs pins s2 σ H2 x y v ov iv u _ I2 r1 r2 r q2) fun _ s3 ⟨H3, I3, q3⟩ => ?_))))
  exact wpAny_release ⟨σ, H3, I3, q3⟩
def tAsg (te : TE) (g : TG) : TS := fun D σ H => te σ H fun x H1 => g x σ H1 D.nx
theorem ps_asg {tg e : Expr} {te : TE} {g : TG} (he : PE X e te) (hg : PG X tg g) (hs : swapsWithSole [tg] e pos.line X.env = pure false := by rfl) (hw : swappedStores [tg] e X.env = pure none := by rfl)
    (h1 : (assignEach [tg] X.env).map (·.2) = [assign tg X.env] := by rfl) : PS X (.Assign [tg] e pos) (tAsg te g) := by
  intro pins s σ H D I h
  refine wpAny_Assign_stores (thn (he pins s σ H _ I h) fun v s1 ⟨x, H1, I1, r1, q1⟩ => ?_) hs hw
  rw [h1]
  exact thn (hg pins s1 σ H1 x v _ I1 r1 q1) fun _ s2 q => q
theorem ps_set {i : Nat} {x : Str} {e : Expr} {te : TE} {pos' : Pos} (hN : X.N.Nodup) (hi : X.N[i]? = some x) (hx : Loc X.env.scope x) (he : PE X e te) (hs : swapsWith e (some (.Name x pos')) pos.line X.env = pure false := by rfl) (hf : X.fn x = true ∨ X.env.scope.names.lookup x = some .local := by first | exact .inl rfl | exact .inr rfl | assumption) :
    PS X (.Assign [.Name x pos'] e pos) (tAsg te (gName i)) := by
  intro pins s σ H D I h
  refine wpAny_Assign_Name (thn (he pins s σ H _ I h) fun v s1 ⟨y, H1, I1, r1, q1⟩ => ?_) hs
  exact store_ok I1 hN hi hx r1 (fun s2 I2 => ⟨_, H1, I2, q1⟩) hf
end
section
variable {X : Cx} {pos : Pos}
end
structure It where
  go : Nat → Hp → Prop
  yld : Nat → Hp → V → Hp → Prop
  stop : Nat → Hp → Prop
def FpOk (X : Cx) (pins : List (Addr × Obj)) (H : Hp) (b : Addr) : Prop :=
  H b = none ∧ b ≠ X.env.locals ∧ b ∉ X.fs ∧ (b ∈ X.ex ∨ X.s₀.heap.objs.size ≤ b) ∧ (∀ x c, X.env.cells.lookup x = some c → c ≠ b) ∧ ∀ p ∈ X.pn ++ pins, p.1 ≠ b
theorem Inv.fpOk {X : Cx} {pins : List (Addr × Obj)} {σ : St} {H H' : Hp} {s : Shared} {b : Addr} (I : Inv X pins σ H s) (hb : s.heap.objs.size ≤ b) (hn : H' b = none) : FpOk X pins H' b := by
  refine ⟨hn, Nat.ne_of_gt (Nat.lt_of_lt_of_le I.lt hb), I.nofs hb, .inr (Nat.le_trans I.sz hb), fun x c e z => ?_, fun p hp z => ?_⟩
  · obtain ⟨v, q⟩ := I.cell x c e
    exact absurd (Nat.lt_of_lt_of_le q.lt (by rw [z]; exact hb)) (Nat.lt_irrefl _)
  · exact absurd (Nat.lt_of_lt_of_le (Heap.lt_size (I.pin p hp).1) (by rw [z]; exact hb)) (Nat.lt_irrefl _)
structure Turn (P : Program) (w : World) (K : PySem.W.Frag) (tg : Expr) (J : It) (fp : List Addr) (it : Addr) (tn : Nat → Heap → Prop) : Prop where
  mem : it ∈ fp
  obj : ∀ i h, tn i h → ∀ b ∈ fp, ∃ o, h.get? b = some o ∧ ∀ v, o.data ≠ .cell v
  keep : ∀ i h h', tn i h → (∀ b ∈ fp, ∀ o, h.get? b = some o → h'.get? b = some o) → tn i h'
  item : ∀ (X : Cx), X.prog = P → X.w = w → X.K = K → X.calm = true → ∀ (i : Nat) (pins : List (Addr × Obj)) (s : Shared) (σ : St) (H : Hp) (E : Value → Shared → Prop), Inv X pins σ H s → (∀ b ∈ fp, FpOk X pins H b) → tn i s.heap → J.go i H →
    wpAny (model P w) X.A (pyNext (.ref it)) (fun r s1 => ∃ u, r = some u ∧
      wpAny (model P w) X.A (letOwnedTupleGo tg (.ref it) u) (fun _ s2 => ∃ x H', Inv X pins σ H' s2 ∧ RelV x u ∧ J.yld i H x H' ∧ tn (i + 1) s2.heap ∧ ∀ b ∈ fp, H' b = none) E s1) E s
  done : ∀ (X : Cx), X.prog = P → X.w = w → X.K = K → X.calm = true → ∀ (i : Nat) (pins : List (Addr × Obj)) (s : Shared) (σ : St) (H : Hp) (E : Value → Shared → Prop), Inv X pins σ H s → (∀ b ∈ fp, FpOk X pins H b) → tn i s.heap → J.stop i H →
    wpAny (model P w) X.A (pyNext (.ref it)) (fun r s1 => r = none ∧ Inv X pins σ H s1) E s
  self : ∀ (A : Around) (i : Nat) (s : Shared) (Q : Value → Shared → Prop) (E : Value → Shared → Prop), tn i s.heap → Q (.ref it) s → wpAny (model P w) A (pyIter (.ref it)) Q E s
abbrev TI := St → Hp → (It → Hp → Prop) → Prop
def PIE (X : Cx) (pins : List (Addr × Obj)) (σ : St) (tg : Expr) (R : It → Hp → Prop) (itv : Value) (s2 : Shared) : Prop :=
  ∃ (it : Addr) (fp : List Addr) (tn : Nat → Heap → Prop) (J : It) (H' : Hp), itv = .ref it ∧ Inv X pins σ H' s2 ∧ Turn X.prog X.w X.K tg J fp it tn ∧ tn 0 s2.heap ∧ (∀ b ∈ fp, FpOk X pins H' b) ∧ R J H'
def PI (X : Cx) (tg iter : Expr) (wi : TI) : Prop :=
  ∀ (pins : List (Addr × Obj)) (s : Shared) (σ : St) (H : Hp) (R : It → Hp → Prop), Inv X pins σ H s → wi σ H R →
    wpAny (model X.prog X.w) X.A (eval iter X.env) (fun v s1 => wpAny (model X.prog X.w) X.A (pyIter v) (PIE X pins σ tg R) X.xe s1) X.xe s
theorem go_of {M : Model} {A : Around} {E : Value → Shared → Prop} {s : Shared} {tg : Expr} {it : Addr} {u : Value} {o : Obj} {n : String} {vs : Array Value} {Q : Unit → Shared → Prop} (ho : s.heap.get? it = some o) (hc : o.cls = .type n) (hd : o.data = .fields vs)
    (hn : ["enumerate", "zip", "dict_itemiterator", "dict_reverseitemiterator", "odict_iterator", "itertools.zip_longest", "itertools.pairwise"].contains n = false) (hQ : Q () s) : wpAny M A (letOwnedTupleGo tg (.ref it) u) Q E s := by
  unfold letOwnedTupleGo
  cases tg <;> first
    | exact wpAny_pure hQ
    | (cases u <;> first
        | exact wpAny_pure hQ
        | (refine wpAny_bind (wpAny_load ho ?_)
           rw [hc, hd]
           show wpAny M A (if (["enumerate", "zip", "dict_itemiterator", "dict_reverseitemiterator", "odict_iterator", "itertools.zip_longest", "itertools.pairwise"].contains n && vs[0]? == some (rawInt _)) = true then _ else _) Q E s
           rw [if_neg (by intro h; rw [hn, Bool.false_and] at h; cases h)]
           exact wpAny_pure hQ))
def Itl (K : PySem.W.Frag) (a : Addr) : It :=
  ⟨fun i H => ∃ xs x, SqL K H a xs ∧ xs[i]? = some x, fun i H x H' => H' = H ∧ ∀ xs, SqL K H a xs → xs[i]? = some x, fun i H => ∃ xs, SqL K H a xs ∧ xs.length ≤ i⟩
def Itr (lo : Int) (n : Nat) : It := ⟨fun i _ => i < n, fun i H x H' => H' = H ∧ x = .int (lo + i), fun i _ => n ≤ i⟩
theorem turn_list {P : Program} {w : World} {K : PySem.W.Frag} {tg : Expr} (a it : Addr) : Turn P w K tg (Itl K a) [it] it (fun i h => h.IsListIter it a i) where
  mem := by simp
  obj := fun i h st b hb => by
    have e : b = it := by simpa using hb
    subst e
    obtain ⟨o, e, c, d⟩ := st
    exact ⟨o, e, fun v z => by rw [d] at z; cases z⟩
  keep := fun i h h' st k => st.at fun o e => k it (by simp) o e
  item := by
    intro X hP hw hK hc i pins s σ H E I hf st hg
    subst hP hw hK
    obtain ⟨xs, x, hq, hx⟩ := hg
    obtain ⟨its, rv, p, hz⟩ := I.list hq
    obtain ⟨u, hu, ru⟩ := rv.get hx
    obtain ⟨f0, f1, f2, f3, f4, f5⟩ := hf it (by simp)
    refine wpAny_pyNext_list_item st p.isList (x := u) (by simpa using hu) fun h' st' sb => ?_
    have I1 : Inv X pins σ H { s with heap := h' } := I.turned (t' := s.toks) (fun b o hb e => (sb.2 b hb).trans e) f0 f1 f3 f4 f5
    obtain ⟨o, e, c, d⟩ := id st'
    exact ⟨u, rfl, go_of (s := { s with heap := h' }) e c d (by decide) ⟨x, H, I1, ru, ⟨rfl, fun ys hy => by rw [I.list_inj hy hq]; exact hx⟩, st', fun b hb => (hf b hb).1⟩⟩
  done := by
    intro X hP hw hK hc i pins s σ H E I hf st hg
    subst hP hw hK
    obtain ⟨xs, hq, hx⟩ := hg
    obtain ⟨its, rv, p, hz⟩ := I.list hq
    obtain ⟨f0, f1, f2, f3, f4, f5⟩ := hf it (by simp)
    have hl := rv.length
    exact wpAny_pyNext_list_end (I.ok.hd hc) st p.isList (by simp; omega) fun h' eb => ⟨rfl, I.turned (t' := s.toks) (fun b o hb e => eb b o hb e) f0 f1 f3 f4 f5⟩
  self := fun _ _ _ _ _ st h => wpAny_pyIter_listiter st h
theorem turn_range {P : Program} {w : World} {K : PySem.W.Frag} {tg : Expr} (it : Addr) (lo : Int) (n : Nat) : Turn P w K tg (Itr lo n) [it] it (fun i h => IsRangeIter h it (lo + (i : Nat) * 1) ((n : Int) - (i : Nat)) 1) where
  mem := by simp
  obj := fun i h st b hb => by
    have e : b = it := by simpa using hb
    subst e
    exact ⟨_, st, fun v z => by
      have z' : Data.fields _ = Data.cell v := z
      cases z'⟩
  keep := fun i h h' st k => k it (by simp) _ st
  item := by
    intro X hP hw hK hc i pins s σ H E I hf st hg
    subst hP hw hK
    obtain ⟨f0, f1, f2, f3, f4, f5⟩ := hf it (by simp)
    have W := Walks.range (prog := X.prog) (w := X.w) (I.ok.hd hc) it lo 1 n
    refine W.item i s _ _ hg st fun v h' tk hv st' kk => ?_
    obtain ⟨t, rfl⟩ := hv
    have I1 : Inv X pins σ H { s with heap := h', toks := tk } := I.turned (fun b o hb e => kk b o (by simpa using hb) e) f0 f1 f3 f4 f5
    refine ⟨_, rfl, go_of (s := { s with heap := h', toks := tk }) (n := "range_iterator") st' rfl rfl (by decide) ⟨.int (lo + i), H, I1, ⟨t, ?_⟩, ⟨rfl, rfl⟩, st', fun b hb => (hf b hb).1⟩⟩
    rw [Int.mul_one]
  done := by
    intro X hP hw hK hc i pins s σ H E I hf st hg
    subst hP hw hK
    obtain ⟨f0, f1, f2, f3, f4, f5⟩ := hf it (by simp)
    exact wpAny_pyNext_range_end (I.ok.hd hc) st (by have : n ≤ i := hg; omega) fun h' eb => ⟨rfl, I.turned (t' := s.toks) (fun b o hb e => eb b o hb e) f0 f1 f3 f4 f5⟩
  self := fun _ _ _ _ _ st h => wpAny_pyIter_rangeiter st h
end L2
namespace L2
open PySem PySem.Spec PyProof.Rows
section
variable {X : Cx} {tg : Expr}
def iList (K : PySem.W.Frag) (tl : TE) : TI := fun σ H R => tl σ H fun x H1 => ∃ a, x = .ref a ∧ (∃ xs, SqL K H1 a xs) ∧ R (Itl K a) H1
theorem pi_list {l : Expr} {tl : TE} (hl : PE X l tl) : PI X tg l (iList X.K tl) := by
  intro pins s σ H R I h
  refine thn (hl pins s σ H _ I h) fun v s1 ⟨x, H1, I1, r1, q1⟩ => ?_
  obtain ⟨a, e, ⟨xs, hq⟩, q⟩ := q1
  subst e
  cases r1
  obtain ⟨its, rv, p, hz⟩ := I1.list hq
  refine wpAny_pyIter_list p.isList ?_
  refine ⟨s1.heap.objs.size, [s1.heap.objs.size], _, _, H1, rfl, I1.kept (t' := s1.toks) fun b o e => Heap.get?_push_of_some _ e, turn_list a _, ⟨_, Heap.get?_push_size _ rfl, rfl, rfl⟩, fun b hb => ?_, q⟩
  have e : b = s1.heap.objs.size := by simpa using hb
  subst e
  exact I1.fpOk (Nat.le_refl _) (I1.hok.fresh (Nat.le_refl _))
theorem range_it {pins : List (Addr × Obj)} {σ : St} {H : Hp} {s : Shared} {R : It → Hp → Prop} {E : Value → Shared → Prop} {lo hi : Int} {t u v : Tok} {tk : Nat} (I : Inv X pins σ H s) (h1 : -(2 ^ 62) ≤ lo) (h2 : lo < 2 ^ 62) (h3 : -(2 ^ 62) ≤ hi) (h4 : hi < 2 ^ 62)
    (q : R (Itr lo (hi - lo).toNat) H) : wpAny (model X.prog X.w) X.A (pyIter (.ref s.heap.objs.size)) (PIE X pins σ tg R) E { s with heap := s.heap.push { cls := .type "range", data := .fields #[.int lo t, .int hi u, .int 1 v] }, toks := tk } := by
  refine wpAny_pyIter_range (IsRange.new ..) (small_one h1 h2 h3 h4) ?_
  have I1 : Inv X pins σ H { s with heap := s.heap.push { cls := .type "range", data := .fields #[.int lo t, .int hi u, .int 1 v] }, toks := tk } := I.kept fun b o e => Heap.get?_push_of_some _ e
  refine ⟨(s.heap.push { cls := .type "range", data := .fields #[.int lo t, .int hi u, .int 1 v] }).objs.size, [(s.heap.push { cls := .type "range", data := .fields #[.int lo t, .int hi u, .int 1 v] }).objs.size], _, _, H, rfl,
    I1.kept (t' := tk) fun b o e => Heap.get?_push_of_some _ e, turn_range _ lo (hi - lo).toNat, ?_, fun b hb => ?_, q⟩
  · have e1 : lo + ((0 : Nat) : Int) * 1 = lo := by simp
    have e2 : (((hi - lo).toNat : Nat) : Int) - ((0 : Nat) : Int) = Builtin.Range.rangeSize lo hi 1 := by rw [rangeSize_one]; split <;> omega
    show IsRangeIter _ _ (lo + ((0 : Nat) : Int) * 1) ((((hi - lo).toNat : Nat) : Int) - ((0 : Nat) : Int)) 1
    rw [e1, e2]
    exact Heap.get?_push_size _ rfl
  · have e : b = (s.heap.push { cls := .type "range", data := .fields #[.int lo t, .int hi u, .int 1 v] }).objs.size := by simpa using hb
    subst e
    exact I1.fpOk (Nat.le_refl _) (I1.hok.fresh (Nat.le_refl _))
def iRng1 (ta : TA) : TI := fun σ H R => ta σ H fun vs H1 => ∃ j : Int, vs = [.int j] ∧ -(2 ^ 62) ≤ j ∧ j < 2 ^ 62 ∧ R (Itr 0 j.toNat) H1
def iRng2 (ta : TA) : TI := fun σ H R => ta σ H fun vs H1 => ∃ i j : Int, vs = [.int i, .int j] ∧ (-(2 ^ 62) ≤ i ∧ i < 2 ^ 62 ∧ -(2 ^ 62) ≤ j ∧ j < 2 ^ 62) ∧ R (Itr i (j - i).toNat) H1
theorem pi_range1 {a : Expr} {ta : TA} {p pos : Pos} (hg : Gl X "range") (hm : X.mg "range" = none) (ha : PA X [a] ta) (hs : starEach [a] X.env = [(false, eval a X.env)] := by rfl) : PI X tg (.Call (.Name "range" p) [a] [] pos) (iRng1 ta) := by
  intro pins s σ H R I h
  refine Call_ (ld_blt I hg hm boot_range (PyProof.Rows.callWith_type1 (thn (ha pos pins s σ H _ I h) fun us s1 ⟨vs, H1, I1, r1, q1⟩ => ?_) hs rfl))
  obtain ⟨j, e, q1, q2, q⟩ := q1
  subst e
  cases r1 with
  | cons r rr =>
    cases rr
    obtain ⟨t, rfl⟩ := r
    exact call_range_1 (range_it I1 (by omega) (by omega) q1 q2 (by simpa using q))
theorem pi_range2 {a b : Expr} {ta : TA} {p pos : Pos} (hg : Gl X "range") (hm : X.mg "range" = none) (ha : PA X [a, b] ta) (hs : starEach [a, b] X.env = [(false, eval a X.env), (false, eval b X.env)] := by rfl) (hs2 : starEach [b] X.env = [(false, eval b X.env)] := by rfl) :
    PI X tg (.Call (.Name "range" p) [a, b] [] pos) (iRng2 ta) := by
  intro pins s σ H R I h
  refine Call_ (ld_blt I hg hm boot_range (PyProof.Rows.callWith_type1 (thn (ha pos pins s σ H _ I h) fun us s1 ⟨vs, H1, I1, r1, q1⟩ => ?_) (by rw [hs, hs2]) (by rw [hs2]; rfl)))
  obtain ⟨i, j, e, ⟨q1, q2, q3, q4⟩, q⟩ := q1
  subst e
  cases r1 with
  | cons r rr =>
    cases rr with
    | cons r' rr =>
      cases rr
      obtain ⟨t, rfl⟩ := r
      obtain ⟨t', rfl⟩ := r'
      exact call_range_2 (range_it I1 q1 q2 q3 q4 q)
def tFor (wi : TI) (g : TG) (tb : TS) : TS := fun D σ H => wi σ H fun J H1 => ∃ W : Nat → Nat → St → Hp → Prop, (∃ m, W 0 m σ H1) ∧ ∀ i m σ H, W i m σ H →
  (J.stop i H ∧ D.nx σ H) ∨ (J.go i H ∧ ∃ N : St → Hp → Prop, (∀ σ' H', N σ' H' → ∃ m', m' < m ∧ W (i + 1) m' σ' H') ∧ ∀ x H', J.yld i H x H' → g x σ H' fun σ2 H2 => tb { D with nx := N, ct := N, bk := D.nx } σ2 H2)
def pinsAt (fp : List Addr) (h : Heap) : List (Addr × Obj) := fp.filterMap fun b => (h.get? b).map fun o => (b, o)
theorem mem_pinsAt {fp : List Addr} {h : Heap} {b : Addr} {o : Obj} (hb : b ∈ fp) (e : h.get? b = some o) : (b, o) ∈ pinsAt fp h := List.mem_filterMap.mpr ⟨b, hb, by rw [e]; rfl⟩
theorem of_pinsAt {fp : List Addr} {h : Heap} {p : Addr × Obj} (hp : p ∈ pinsAt fp h) : p.1 ∈ fp ∧ h.get? p.1 = some p.2 := by
  obtain ⟨b, hb, e⟩ := List.mem_filterMap.mp hp
  cases q : h.get? b with
  | none => rw [q] at e; cases e
  | some o =>
    rw [q] at e
    have e' : (b, o) = p := Option.some.inj e
    subst e'
    exact ⟨hb, q⟩
theorem Inv.pinned {pins : List (Addr × Obj)} {σ : St} {H : Hp} {s : Shared} {fp : List Addr} (I : Inv X pins σ H s) (hf : ∀ b ∈ fp, FpOk X pins H b) (ho : ∀ b ∈ fp, ∃ o, s.heap.get? b = some o ∧ ∀ v, o.data ≠ .cell v) : Inv X (pins ++ pinsAt fp s.heap) σ H s :=
  I.pins_of fun p hp => (List.mem_append.mp hp).elim (fun z => I.pin p (List.mem_append_right _ z)) fun z => by
    obtain ⟨hb, e⟩ := of_pinsAt z
    obtain ⟨f0, f1, f2, _⟩ := hf p.1 hb
    obtain ⟨o, e', d⟩ := ho p.1 hb
    rw [e] at e'; cases e'
    exact ⟨e, f0, f1, f2, d⟩
theorem Inv.unpinned {pins pl : List (Addr × Obj)} {σ : St} {H : Hp} {s : Shared} (I : Inv X (pins ++ pl) σ H s) : Inv X pins σ H s := I.pins_of fun p hp => I.pin p (List.mem_append_right _ (List.mem_append_left _ hp))
theorem ps_for {iter : Expr} {body : List Stmt} {wi : TI} {g : TG} {tb : TS} {pos : Pos} (hp : PassesOwn (model X.prog X.w) X.A X.env X.xe) (hc : X.calm = true) (hi : PI X tg iter wi) (hg : PG X tg g) (hb : PSs X body tb)
    (hs : ∀ x, foldedSetIterable iter X.env x = pure x := by intro _; rfl) : PS X (.For tg iter body [] pos) (tFor wi g tb) := by
  intro pins s σ H D I h
  refine wpAny_For (thn (hi pins s σ H _ I h) fun v s1 h1 => thn h1 fun itv s2 h2 => ?_) hs
  obtain ⟨it, fp, tn, J, H2, e, I2, T, st2, f2, W, ⟨m0, w0⟩, turn⟩ := h2
  subst e
  have stat : ∀ {H' : Hp}, (∀ b ∈ fp, H' b = none) → ∀ b ∈ fp, FpOk X pins H' b := fun hn b hb => ⟨hn b hb, (f2 b hb).2⟩
  refine codeAny_forLoop_any (fun n s' => ∃ i σ' H', Inv X pins σ' H' s' ∧ tn i s'.heap ∧ (∀ b ∈ fp, H' b = none) ∧ W i n σ' H') ?_ m0 ⟨0, σ, H2, I2, st2, fun b hb => (f2 b hb).1, w0⟩
  rintro n s3 ⟨i, σ3, H3, I3, st3, fr3, w3⟩
  rcases turn i n σ3 H3 w3 with ⟨stop, qn⟩ | ⟨go, N, hN, step⟩
  · refine wpAny_passesOwn hp (thn (T.done X rfl rfl rfl hc i pins s3 σ3 H3 X.xe I3 (stat fr3) st3 stop) fun r s4 ⟨hr, I4⟩ => ?_)
    subst hr
    exact wpAny_execs_nil ⟨σ3, H3, I4, qn⟩
  · refine wpAny_passesOwn hp (thn (T.item X rfl rfl rfl hc i pins s3 σ3 H3 X.xe I3 (stat fr3) st3 go) fun r s4 ⟨u, hr, h4⟩ => ?_)
    subst hr
    refine wpAny_passesOwn hp (thn h4 fun _ s5 ⟨x, H5, I5, r5, y5, st5, fr5⟩ => ?_)
    have I5' := I5.pinned (stat fr5) (T.obj _ _ st5)
    refine wpAny_passesOwn hp (thn (hg _ s5 σ3 H5 x u _ I5' r5 (step x H5 y5)) fun _ s6 ⟨σ6, H6, I6, q6⟩ => ?_)
    refine wpAny_passesOwn hp (thn (hb _ s6 σ6 H6 _ I6 q6) fun f s7 q7 => ?_)
    have again : ∀ {σ7 : St} {H7 : Hp}, Inv X (pins ++ pinsAt fp s5.heap) σ7 H7 s7 → N σ7 H7 → ∃ m, m < n ∧ ∃ i σ' H', Inv X pins σ' H' s7 ∧ tn i s7.heap ∧ (∀ b ∈ fp, H' b = none) ∧ W i m σ' H' := fun {σ7 H7} I7 n7 => by
      obtain ⟨m', hm, w7⟩ := hN σ7 H7 n7
      refine ⟨m', hm, i + 1, σ7, H7, I7.unpinned, T.keep _ _ _ st5 fun b hb o e => (I7.pin (b, o) (List.mem_append_right _ (List.mem_append_right _ (mem_pinsAt hb e)))).1, fun b hb => ?_, w7⟩
      obtain ⟨o, e, d⟩ := T.obj _ _ st5 b hb
      exact (I7.pin (b, o) (List.mem_append_right _ (List.mem_append_right _ (mem_pinsAt hb e)))).2.1
    cases f with
    | next => obtain ⟨σ7, H7, I7, n7⟩ := q7; exact again I7 n7
    | cont => obtain ⟨σ7, H7, I7, n7⟩ := q7; exact again I7 n7
    | brk => obtain ⟨σ7, H7, I7, q7⟩ := q7; exact ⟨σ7, H7, I7.unpinned, q7⟩
    | ret v => obtain ⟨x7, σ7, H7, I7, r7, q7⟩ := q7; exact ⟨x7, σ7, H7, I7.unpinned, r7, q7⟩
end
theorem for_list {K : PySem.W.Frag} {a : Addr} {xs : List V} {g : TG} {tb : TS} {D : Ends} {σ : St} {H : Hp} (Pv : Nat → St → Hp → Prop) (h0 : Pv 0 σ H) (hl : ∀ i σ H, i ≤ xs.length → Pv i σ H → SqL K H a xs)
    (hs : ∀ i x σ H, xs[i]? = some x → Pv i σ H → g x σ H fun σ2 H2 => tb { D with nx := Pv (i + 1), ct := Pv (i + 1), bk := D.nx } σ2 H2) (hd : ∀ σ H, Pv xs.length σ H → D.nx σ H) :
    ∃ W : Nat → Nat → St → Hp → Prop, (∃ m, W 0 m σ H) ∧ ∀ i m σ H, W i m σ H →
      ((Itl K a).stop i H ∧ D.nx σ H) ∨ ((Itl K a).go i H ∧ ∃ N : St → Hp → Prop, (∀ σ' H', N σ' H' → ∃ m', m' < m ∧ W (i + 1) m' σ' H') ∧ ∀ x H', (Itl K a).yld i H x H' → g x σ H' fun σ2 H2 => tb { D with nx := N, ct := N, bk := D.nx } σ2 H2) := by
  refine ⟨fun i m σ H => m = xs.length - i ∧ i ≤ xs.length ∧ Pv i σ H, ⟨xs.length, by simp, Nat.zero_le _, h0⟩, ?_⟩
  rintro i m σ H ⟨rfl, hi, p⟩
  have q := hl i σ H hi p
  by_cases hlt : i < xs.length
  · refine .inr ⟨⟨xs, xs[i], q, by simp [hlt]⟩, Pv (i + 1), fun σ' H' p' => ⟨xs.length - (i + 1), by omega, rfl, hlt, p'⟩, fun x H' y => ?_⟩
    obtain ⟨e, y⟩ := y
    subst e
    exact hs i x σ _ (y xs q) p
  · have e : i = xs.length := by omega
    subst e
    exact .inl ⟨⟨xs, q, Nat.le_refl _⟩, hd σ H p⟩
theorem for_range {lo : Int} {n : Nat} {g : TG} {tb : TS} {D : Ends} {σ : St} {H : Hp} (Pv : Nat → St → Hp → Prop) (h0 : Pv 0 σ H)
    (hs : ∀ i σ H, i < n → Pv i σ H → g (.int (lo + i)) σ H fun σ2 H2 => tb { D with nx := Pv (i + 1), ct := Pv (i + 1), bk := D.nx } σ2 H2) (hd : ∀ σ H, Pv n σ H → D.nx σ H) :
    ∃ W : Nat → Nat → St → Hp → Prop, (∃ m, W 0 m σ H) ∧ ∀ i m σ H, W i m σ H →
      ((Itr lo n).stop i H ∧ D.nx σ H) ∨ ((Itr lo n).go i H ∧ ∃ N : St → Hp → Prop, (∀ σ' H', N σ' H' → ∃ m', m' < m ∧ W (i + 1) m' σ' H') ∧ ∀ x H', (Itr lo n).yld i H x H' → g x σ H' fun σ2 H2 => tb { D with nx := N, ct := N, bk := D.nx } σ2 H2) := by
  refine ⟨fun i m σ H => m = n - i ∧ i ≤ n ∧ Pv i σ H, ⟨n, by simp, Nat.zero_le _, h0⟩, ?_⟩
  rintro i m σ H ⟨rfl, hi, p⟩
  by_cases hlt : i < n
  · refine .inr ⟨hlt, Pv (i + 1), fun σ' H' p' => ⟨n - (i + 1), by omega, rfl, hlt, p'⟩, fun x H' y => ?_⟩
    obtain ⟨e, y⟩ := y
    subst e y
    exact hs i σ _ hlt p
  · have e : i = n := by omega
    subst e
    exact .inl ⟨Nat.le_refl _, hd σ H p⟩
end L2
namespace L2
open PySem PySem.Spec PyProof.Rows
abbrev R2 := V → V → Hp → VK → Prop
def OpR (X : Cx) (f : Value → Value → Sem Value) (r : R2) : Prop :=
  ∀ (pins : List (Addr × Obj)) (s : Shared) (σ : St) (H : Hp) (x y : V) (v u : Value) (Q : VK), Inv X pins σ H s → RelV x v → RelV y u → r x y H Q →
    wpAny (model X.prog X.w) X.A (f v u) (EP X pins σ Q) X.xe s
def CallR (X : Cx) (f : Value) (r : List V → Hp → VK → Prop) : Prop :=
  ∀ (pins : List (Addr × Obj)) (s : Shared) (σ : St) (H : Hp) (xs : List V) (us : List Value) (Q : VK), Inv X pins σ H s → Vals xs us → r xs H Q →
    wpAny (model X.prog X.w) X.A (call f us) (EP X pins σ Q) X.xe s
def tOp (r : R2) (ta tb : TE) : TE := fun σ H Q => ta σ H fun x H1 => tb σ H1 fun y H2 => r x y H2 Q
def rI (C : Int → Int → Prop) (g : Int → Int → V) : R2 := fun x y H Q => ∃ i j, x = .int i ∧ y = .int j ∧ C i j ∧ Q (g i j) H
def rI0 (g : Int → Int → V) : R2 := fun x y H Q => ∃ i j, x = .int i ∧ y = .int j ∧ Q (g i j) H
section
variable {X : Cx} {a b c : Expr} {ta tb tc : TE} {pos : Pos}
theorem binT (ha : PE X a ta) (hb : PE X b tb) {pins : List (Addr × Obj)} {s : Shared} {σ : St} {H : Hp} {R : V → V → Hp → Prop} (I : Inv X pins σ H s)
    (h : ta σ H fun x H1 => tb σ H1 fun y H2 => R x y H2) {Q : Value → Shared → Prop} {f : Value → Value → Sem Value}
    (hf : ∀ v u s2 x y H2, Inv X pins σ H2 s2 → RelV x v → RelV y u → R x y H2 → wpAny (model X.prog X.w) X.A (f v u) Q X.xe s2) :
    wpAny (model X.prog X.w) X.A (eval a X.env) (fun v s₁ => wpAny (model X.prog X.w) X.A (eval b X.env) (fun u s₂ => wpAny (model X.prog X.w) X.A (f v u) Q X.xe s₂) X.xe s₁) X.xe s := by
  refine thn (ha pins s σ H _ I h) fun v s1 ⟨x, H1, I1, r1, q1⟩ => ?_
  refine thn (hb pins s1 σ H1 _ I1 q1) fun u s2 ⟨y, H2, I2, r2, q2⟩ => ?_
  exact hf v u s2 x y H2 I2 r1 r2 q2
theorem pe_op {op : Operator} {r : R2} (ho : OpR X (binaryOp op) r) (ha : PE X a ta) (hb : PE X b tb) : PE X (.BinOp a op b pos) (tOp r ta tb) := by
  intro pins s σ H Q I h
  exact wpAny_BinOp (binT ha hb I h fun v u s2 x y H2 I2 rx ry q => ho pins s2 σ H2 x y v u Q I2 rx ry q)
theorem opI {f : Value → Value → Sem Value} {C : Int → Int → Prop} {g : Int → Int → Int}
    (rule : ∀ (i j : Int) (t u : Tok) (s : Shared) (Q : Value → Shared → Prop) (E : Value → Shared → Prop), C i j → Q (.int (g i j) s.toks) { s with toks := s.toks + 1 } → wpAny (model X.prog X.w) X.A (f (.int i t) (.int j u)) Q E s) :
    OpR X f (rI C fun i j => .int (g i j)) := by
  intro pins s σ H x y v u Q I rx ry h
  obtain ⟨i, j, rfl, rfl, hc, q⟩ := h
  obtain ⟨t, rfl⟩ := rx
  obtain ⟨t', rfl⟩ := ry
  exact rule i j t t' s _ _ hc ⟨.int (g i j), H, I.tok _, ⟨_, rfl⟩, q⟩
theorem opI0 {f : Value → Value → Sem Value} {g : Int → Int → Int}
    (rule : ∀ (i j : Int) (t u : Tok) (s : Shared) (Q : Value → Shared → Prop) (E : Value → Shared → Prop), Q (.int (g i j) s.toks) { s with toks := s.toks + 1 } → wpAny (model X.prog X.w) X.A (f (.int i t) (.int j u)) Q E s) :
    OpR X f (rI0 fun i j => .int (g i j)) := by
  intro pins s σ H x y v u Q I rx ry h
  obtain ⟨i, j, rfl, rfl, q⟩ := h
  obtain ⟨t, rfl⟩ := rx
  obtain ⟨t', rfl⟩ := ry
  exact rule i j t t' s _ _ ⟨.int (g i j), H, I.tok _, ⟨_, rfl⟩, q⟩
theorem opB0 {f : Value → Value → Sem Value} {g : Int → Int → Bool}
    (rule : ∀ (i j : Int) (t u : Tok) (s : Shared) (Q : Value → Shared → Prop) (E : Value → Shared → Prop), Q (.bool (g i j)) s → wpAny (model X.prog X.w) X.A (f (.int i t) (.int j u)) Q E s) :
    OpR X f (rI0 fun i j => .bl (g i j)) := by
  intro pins s σ H x y v u Q I rx ry h
  obtain ⟨i, j, rfl, rfl, q⟩ := h
  obtain ⟨t, rfl⟩ := rx
  obtain ⟨t', rfl⟩ := ry
  exact rule i j t t' s _ _ ⟨.bl (g i j), H, I, rfl, q⟩
def CDiv (i j : Int) : Prop := 0 < j ∧ j < 1073741824
def CPow (i j : Int) : Prop := 0 ≤ j ∧ j ≤ 1000000 ∧ i.natAbs < 2 ^ 64
def CMul (i j : Int) : Prop := (-(2 ^ 64) < i ∧ i < 2 ^ 64) ∨ (-(2 ^ 64) < j ∧ j < 2 ^ 64)
theorem CMul.ok {i j : Int} (h : CMul i j) : IntMulOk i j := by
  rcases h with ⟨h1, h2⟩ | ⟨h1, h2⟩
  · exact .of_left (intBits_le_64 h1 h2)
  · exact .of_right (intBits_le_64 h1 h2)
theorem op_add : OpR X (binaryOp .Add) (rI0 fun i j => .int (i + j)) := opI0 fun _ _ _ _ _ _ _ q => add_int q
theorem op_sub : OpR X (binaryOp .Sub) (rI0 fun i j => .int (i - j)) := opI0 fun _ _ _ _ _ _ _ q => sub_int q
theorem op_mul : OpR X (binaryOp .Mult) (rI CMul fun i j => .int (i * j)) := opI fun _ _ _ _ _ _ _ hc q => mul_int q hc.ok
theorem op_fdiv : OpR X (binaryOp .FloorDiv) (rI CDiv fun i j => .int (i / j)) := opI fun i j _ _ _ _ _ hc q => by
  have h1 : (0 : Int) < j := hc.1
  have h2 : j < 1073741824 := hc.2
  exact floordiv_int (by omega) (by rw [Int.fdiv_eq_ediv_of_nonneg i (by omega)]; exact q) (.inl (PyProof.noPylong_small (by omega)))
theorem op_mod : OpR X (binaryOp .Mod) (rI (fun _ j => 0 < j) fun i j => .int (i % j)) := opI fun i j _ _ _ _ _ hc q => by
  have h1 : (0 : Int) < j := hc
  exact mod_int' (by omega) (by rw [Int.fmod_eq_emod_of_nonneg i (by omega)]; exact q)
theorem op_pow : OpR X (binaryOp .Pow) (rI CPow fun i j => .int (i ^ j.toNat)) := opI fun _ _ _ _ _ _ _ hc q => pow_int_small hc.1 hc.2.1 hc.2.2 q
end
def scal : V → V → Bool
  | .non, .non => true | .non, .int _ => true | .int _, .non => true | .non, .bl _ => true | .bl _, .non => true | .non, .str _ => true | .str _, .non => true
  | .int _, .int _ => true | .bl _, .bl _ => true | .str _, .str _ => true | .byt _, .byt _ => true
  | .int _, .str _ => true | .str _, .int _ => true | .bl _, .str _ => true | .str _, .bl _ => true
  | _, _ => false
def rEq : R2 := fun x y H Q => scal x y = true ∧ Q (.bl (decide (x = y))) H
def rNe : R2 := fun x y H Q => scal x y = true ∧ Q (.bl (!decide (x = y))) H
theorem dec_int {i j : Int} : decide (V.int i = V.int j) = (i == j) := by
  rw [Bool.eq_iff_iff]
  simp
theorem dec_bl {i j : Bool} : decide (V.bl i = V.bl j) = (i == j) := by
  rw [Bool.eq_iff_iff]
  simp
theorem dec_str {i j : Str} : decide (V.str i = V.str j) = (i == j) := by
  rw [Bool.eq_iff_iff]
  simp
theorem dec_byt {i j : Array UInt8} : decide (V.byt i = V.byt j) = (i.toList == j.toList) := by
  rw [Bool.eq_iff_iff]
  cases i
  cases j
  simp
section
variable {X : Cx} {a b c : Expr} {ta tb tc : TE} {pos : Pos}
theorem fin_bl {pins : List (Addr × Obj)} {σ : St} {H : Hp} {s : Shared} {Q : VK} {k k' : Bool} (I : Inv X pins σ H s) (q : Q (.bl k) H) (e : k = k') : EP X pins σ Q (.bool k') s := by
  subst e
  exact ⟨.bl k, H, I, rfl, q⟩
theorem op_eq : OpR X (compareOp .Eq) rEq := by
  intro pins s σ H x y v u Q I rx ry h
  obtain ⟨hs, q⟩ := h
  cases x with
  | non =>
    cases rx
    cases y with
    | non => cases ry; exact PySem.EqNone.eq_none_none (fin_bl I q (by simp))
    | bl j => cases ry; exact PySem.EqNone.eq_none_bool (fin_bl I q (by simp))
    | int j => obtain ⟨t', rfl⟩ := ry; exact PySem.EqNone.eq_none_int (fin_bl I q (by simp))
    | str j => obtain ⟨t', rfl⟩ := ry; exact PySem.EqNone.eq_none_str (fin_bl I q (by simp))
    | _ => exact absurd (show false = true from hs) Bool.false_ne_true
  | bl i =>
    cases rx
    cases y with
    | non => cases ry; exact PySem.EqNone.eq_bool_none (fin_bl I q (by simp))
    | bl j => cases ry; exact eq_bool (fin_bl I q dec_bl)
    | str j => obtain ⟨t', rfl⟩ := ry; exact PySem.EqMixed.eq_bool_str (fin_bl I q (by simp))
    | _ => exact absurd (show false = true from hs) Bool.false_ne_true
  | int i =>
    obtain ⟨t, rfl⟩ := rx
    cases y with
    | non => cases ry; exact PySem.EqNone.eq_int_none (fin_bl I q (by simp))
    | int j => obtain ⟨t', rfl⟩ := ry; exact eq_int (fin_bl I q dec_int)
    | str j => obtain ⟨t', rfl⟩ := ry; exact PySem.EqMixed.eq_int_str (fin_bl I q (by simp))
    | _ => exact absurd (show false = true from hs) Bool.false_ne_true
  | str i =>
    obtain ⟨t, rfl⟩ := rx
    cases y with
    | non => cases ry; exact PySem.EqNone.eq_str_none (fin_bl I q (by simp))
    | bl j => cases ry; exact PySem.EqMixed.eq_str_bool (fin_bl I q (by simp))
    | int j => obtain ⟨t', rfl⟩ := ry; exact PySem.EqMixed.eq_str_int (fin_bl I q (by simp))
    | str j => obtain ⟨t', rfl⟩ := ry; exact eq_str (fin_bl I q dec_str)
    | _ => exact absurd (show false = true from hs) Bool.false_ne_true
  | byt i =>
    obtain ⟨t, rfl⟩ := rx
    cases y with
    | byt j => obtain ⟨t', rfl⟩ := ry; exact PySem.W.eq_bytes (fin_bl I q dec_byt)
    | _ => exact absurd (show false = true from hs) Bool.false_ne_true
  | _ => cases y <;> exact absurd (show false = true from hs) Bool.false_ne_true
theorem op_ne : OpR X (compareOp .NotEq) rNe := by
  intro pins s σ H x y v u Q I rx ry h
  obtain ⟨hs, q⟩ := h
  cases x with
  | non =>
    cases rx
    cases y with
    | non => cases ry; exact PySem.EqNone.ne_none_none (fin_bl I q (by simp))
    | bl j => cases ry; exact PySem.EqNone.ne_none_bool (fin_bl I q (by simp))
    | int j => obtain ⟨t', rfl⟩ := ry; exact PySem.EqNone.ne_none_int (fin_bl I q (by simp))
    | str j => obtain ⟨t', rfl⟩ := ry; exact PySem.EqNone.ne_none_str (fin_bl I q (by simp))
    | _ => exact absurd (show false = true from hs) Bool.false_ne_true
  | bl i =>
    cases rx
    cases y with
    | non => cases ry; exact PySem.EqNone.ne_bool_none (fin_bl I q (by simp))
    | bl j => cases ry; exact ne_bool (fin_bl I q (congrArg not dec_bl))
    | str j => obtain ⟨t', rfl⟩ := ry; exact PySem.EqMixed.ne_bool_str (fin_bl I q (by simp))
    | _ => exact absurd (show false = true from hs) Bool.false_ne_true
  | int i =>
    obtain ⟨t, rfl⟩ := rx
    cases y with
    | non => cases ry; exact PySem.EqNone.ne_int_none (fin_bl I q (by simp))
    | int j => obtain ⟨t', rfl⟩ := ry; exact ne_int (fin_bl I q (congrArg not dec_int))
    | str j => obtain ⟨t', rfl⟩ := ry; exact PySem.EqMixed.ne_int_str (fin_bl I q (by simp))
    | _ => exact absurd (show false = true from hs) Bool.false_ne_true
  | str i =>
    obtain ⟨t, rfl⟩ := rx
    cases y with
    | non => cases ry; exact PySem.EqNone.ne_str_none (fin_bl I q (by simp))
    | bl j => cases ry; exact PySem.EqMixed.ne_str_bool (fin_bl I q (by simp))
    | int j => obtain ⟨t', rfl⟩ := ry; exact PySem.EqMixed.ne_str_int (fin_bl I q (by simp))
    | str j => obtain ⟨t', rfl⟩ := ry; exact ne_str (fin_bl I q (congrArg not dec_str))
    | _ => exact absurd (show false = true from hs) Bool.false_ne_true
  | byt i =>
    obtain ⟨t, rfl⟩ := rx
    cases y with
    | byt j => obtain ⟨t', rfl⟩ := ry; exact PySem.W.ne_bytes (fin_bl I q (congrArg not dec_byt))
    | _ => exact absurd (show false = true from hs) Bool.false_ne_true
  | _ => cases y <;> exact absurd (show false = true from hs) Bool.false_ne_true
theorem op_lt : OpR X (compareOp .Lt) (rI0 fun i j => .bl (decide (i < j))) := opB0 fun _ _ _ _ _ _ _ q => lt_int q
theorem op_gt : OpR X (compareOp .Gt) (rI0 fun i j => .bl (decide (j < i))) := opB0 fun _ _ _ _ _ _ _ q => gt_int q
theorem op_ge : OpR X (compareOp .GtE) (rI0 fun i j => .bl (decide (j ≤ i))) := opB0 fun _ _ _ _ _ _ _ q => ge_int q
theorem op_isN : OpR X (compareOp .Is) (fun x y H Q => y = .non ∧ Q (.bl (decide (x = .non))) H) := by
  intro pins s σ H x y v u Q I rx ry h
  obtain ⟨rfl, q⟩ := h
  cases ry
  refine is_none_gen (fin_bl I q ?_)
  cases x <;> first
    | (cases rx; rfl)
    | (obtain ⟨t, rfl⟩ := rx; rfl)
theorem nomark (b : Expr) {op : CmpOp} (h : op ≠ .In := by decide) (h2 : op ≠ .NotIn := by decide) : behindInMarks op b = false := by
  have e1 : (op == CmpOp.In) = false := by cases op <;> first | rfl | exact absurd rfl h
  have e2 : (op == CmpOp.NotIn) = false := by cases op <;> first | rfl | exact absurd rfl h2
  cases b <;> simp [behindInMarks, e1, e2]
theorem pe_cmpR {op : CmpOp} {r : R2} (ho : OpR X (compareOp op) r) (ha : PE X a ta) (hb : PE X b tb) (hm : behindInMarks op b = false) : PE X (.Compare a [op] [b] pos) (tOp r ta tb) := by
  intro pins s σ H Q I h
  exact wpAny_Compare1 (binT ha hb I h fun v u s2 x y H2 I2 rx ry q => ho pins s2 σ H2 x y v u Q I2 rx ry q) hm
def tTest (t : TE) : TT := fun σ H Q => t σ H fun x H' => ∃ k, x = .bl k ∧ Q k H'
theorem pt_cmpR {op : CmpOp} {r : R2} (ho : OpR X (compareOp op) r) (ha : PE X a ta) (hb : PE X b tb) (hm : behindInMarks op b = false) : PT X (.Compare a [op] [b] pos) (tTest (tOp r ta tb)) := by
  intro pins s σ H Q I h
  refine wpAny_isTrue_Compare1 (thn (ha pins s σ H _ I h) fun v s1 ⟨x, H1, I1, r1, q1⟩ => thn (hb pins s1 σ H1 _ I1 q1) fun u s2 ⟨y, H2, I2, r2, q2⟩ =>
    thn (ho pins s2 σ H2 x y v u _ I2 r1 r2 q2) fun c s3 ⟨z, H3, I3, r3, k, e, q3⟩ => ?_) hm
  subst e
  cases r3
  exact wpAny_truthy_bool ⟨H3, I3, q3⟩
theorem line63 : (sizeLine : Nat) < 2 ^ 63 := by rw [sizeLine_eq]; decide
theorem op_add_str : OpR X (binaryOp .Add) (fun x y H Q => ∃ i j, x = .str i ∧ y = .str j ∧ i.length + j.length ≤ sizeLine ∧ Q (.str (i ++ j)) H) := by
  intro pins s σ H x y v u Q I rx ry h
  obtain ⟨i, j, rfl, rfl, hz, q⟩ := h
  obtain ⟨t, rfl⟩ := rx
  obtain ⟨t', rfl⟩ := ry
  exact add_str (fun t' tk => ⟨.str (i ++ j), H, I.tok _, ⟨_, rfl⟩, q⟩) hz
theorem vals1 {x : V} {us : List Value} (r : Vals [x] us) : ∃ u, us = [u] ∧ RelV x u := by
  cases r with
  | cons r1 r2 => cases r2; exact ⟨_, rfl, r1⟩
theorem vals2 {x y : V} {us : List Value} (r : Vals [x, y] us) : ∃ u w', us = [u, w'] ∧ RelV x u ∧ RelV y w' := by
  cases r with
  | cons r1 r2 =>
    cases r2 with
    | cons r3 r4 => cases r4; exact ⟨_, _, rfl, r1, r3⟩
theorem call_int1 : CallR X (.type "int") (fun xs H Q => (∃ i, xs = [.int i] ∧ Q (.int i) H) ∨ ∃ k, xs = [.bl k] ∧ Q (.int (if k then 1 else 0)) H) := by
  intro pins s σ H xs us Q I r h
  rcases h with ⟨i, rfl, q⟩ | ⟨k, rfl, q⟩
  · obtain ⟨u, rfl, t, rfl⟩ := vals1 r
    exact call_int_int ⟨.int i, H, I, ⟨_, rfl⟩, q⟩
  · obtain ⟨u, rfl, r1⟩ := vals1 r
    cases r1
    exact call_int_bool ⟨.int (if k then 1 else 0), H, I.tok _, ⟨_, rfl⟩, q⟩
end
end L2
namespace L2
open PySem PySem.Spec PyProof.Rows
structure ObjM (h : Heap) (x dx C : Addr) (mA : Str → Option Value) : Prop where
  obj : h.get? x = some (PySem.W.instObj C dx)
  ns : h.Ns1 dx mA
  ne : dx ≠ x
theorem lookIn_ns {h : Heap} {dx : Addr} {mA : Str → Option Value} (n : h.Ns1 dx mA) : ∃ od, h.get? dx = some od ∧ ∀ name, PySem.W.lookIn name od = some (mA name) := by
  obtain ⟨o, es, ep, ho, hd, hk, _, hm⟩ := n
  refine ⟨o, ho, fun name => ?_⟩
  have e := hm name
  unfold nsFind findBy at e
  rw [← Array.find?_toList] at e
  unfold PySem.W.lookIn
  rw [hd]
  dsimp only
  split
  · rename_i y q
    rw [q] at e
    exact congrArg some e
  · rename_i q
    rw [q] at e
    have a : es.toList.any (·.refKey) = false := by
      rw [List.any_eq_false]
      intro y hy
      obtain ⟨z, t, hkey⟩ := hk y (Array.mem_toList_iff.mp hy)
      simp [DictEntry.refKey, hkey]
    have a' : ¬ es.toList.any (·.refKey) = true := by rw [a]; exact Bool.false_ne_true
    rw [if_neg a']
    exact congrArg some e
theorem ObjM.look {h : Heap} {x dx C : Addr} {mA : Str → Option Value} (I : ObjM h x dx C mA) : ∃ od, PySem.W.InstAt h x (PySem.W.instObj C dx) C (some od) ∧ ∀ name, PySem.W.lookIn name od = some (mA name) :=
  let ⟨od, ho, hl⟩ := lookIn_ns I.ns
  ⟨od, ⟨I.obj, rfl, rfl, ho⟩, hl⟩
section
variable {prog : Program} {w : World} {A : Around} {E : Value → Shared → Prop} {s : Shared} {K : PySem.W.Frag} {x dx C f : Addr} {mA : Str → Option Value} {name : Str} {v : Value}
end
theorem RelO.some_of {v : V} {o : Option Value} (r : RelO (some v) o) : ∃ u, o = some u ∧ RelV v u := by
  cases o with
  | none => exact (show False from r).elim
  | some u => exact ⟨u, rfl, r⟩
section
variable {P : Program} {w : World} {H H' : Hp} {h h' : Heap} {a C dx : Addr} {fs fs' : List (Str × V)}
theorem ins_get (hok : HOk P w H h) (e : H a = some (.ins C dx fs)) : ∃ mA, ObjM h a dx C mA ∧ (∀ f, RelO (fs.lookup f) (mA f)) ∧ PySem.Within mA (fs.map (·.1)) ∧ fs.length ≤ 1000 ∧ H dx = some (.own a) := by
  obtain ⟨d, z, ne, ob, mA, n, r, q⟩ := (show ObjOk P w H h a (.ins C dx fs) from hok a _ e)
  exact ⟨mA, ⟨ob, n, ne⟩, r, q, z, d⟩
end
structure Cls (K : PySem.W.Frag) (C : Addr) : Prop where
  pg : PySem.W.plainGet K C Str.empty = true
  hd : PySem.W.hasDictIn K C = true
  po : PySem.W.plainOver K C = true
  sa : PySem.W.findIn K (.ref C) "__setattr__" = some (some (.builtin "object.__setattr__"))
theorem Cls.get {K : PySem.W.Frag} {C : Addr} (c : Cls K C) (f : Str) : PySem.W.plainGet K C f = true := c.pg
section
variable {X : Cx} {pins : List (Addr × Obj)} {σ : St} {H : Hp} {s : Shared} {a C dx : Addr} {fs : List (Str × V)} {f : Str} {v : V} {A : Around} {E : Value → Shared → Prop}
end
section
variable {X : Cx} {o e value : Expr} {f : Str} {pos pos' tpos : Pos} {ta tv : TE}
end
section
variable {X : Cx} {pins : List (Addr × Obj)} {σ : St} {H : Hp} {s : Shared} {A : Around} {E : Value → Shared → Prop} {Q : Value → Shared → Prop} {c : Value} {b : Bool}
inductive TyOf (K : PySem.W.Frag) (H : Hp) : V → Value → Prop where
  | non : TyOf K H .non (.type "NoneType")
  | bl (x : Bool) : TyOf K H (.bl x) (.type "bool")
  | int (i : Int) : TyOf K H (.int i) (.type "int")
  | str (x : Str) : TyOf K H (.str x) (.type "str")
  | flt (x : UInt64) : TyOf K H (.flt x) (.type "float")
  | lst {a : Addr} {xs : List V} (e : H a = some (.lst xs)) : TyOf K H (.ref a) (.type "list")
  | frz {a : Addr} {o : Obj} {xs : List V} (e : H a = some (.frz o (.lst xs))) : TyOf K H (.ref a) (.type "list")
  | tup {a : Addr} {xs : List V} (e : H a = some (.tup xs)) : TyOf K H (.ref a) (.type "tuple")
  | dK {a : Addr} {kvs : List (Key × V)} (e : H a = some (.dK kvs)) : TyOf K H (.ref a) (.type "dict")
  | dT {a : Addr} {kvs : List (List Key × V)} (e : H a = some (.dT kvs)) : TyOf K H (.ref a) (.type "dict")
  | dG {a : Addr} {kvs : List (KD × V × V)} (e : H a = some (.dG kvs)) : TyOf K H (.ref a) (.type "dict")
  | ins {a C dx : Addr} {fs : List (Str × V)} (e : H a = some (.ins C dx fs)) (cl : Cls K C) (ha : PySem.W.findIn K (.ref C) "__class__" = some (some (.builtin "object.__class__")))
      (hn : PySem.W.specialIn K (.builtin "object.__class__") "__get__" = some (some (.builtin "getset_descriptor.__get__"))) (htk : PySem.W.takesIn K (.builtin "object.__class__") = some true)
      (hm : PySem.W.mroIn K C (.type "object") = some true) : TyOf K H (.ref a) (.ref C)
theorem isinst_ok {x : V} {u t : Value} (I : Inv X pins σ H s) (rx : RelV x u) (ty : TyOf X.K H x t) (e : PySem.W.kitOne X.K t c = some b) (h : ∀ tk, Q (.bool b) { s with toks := tk }) :
    wpAny (model X.prog X.w) A (call (.builtin "isinstance") [u, c]) Q E s := by
  cases ty with
  | non => cases (show u = Value.none from rx); exact PySem.W.kia_one PySem.W.kitx_none I.kIn True.intro e (fun z => nomatch z) h
  | bl y => cases (show u = Value.bool y from rx); exact PySem.W.kia_one PySem.W.kitx_bool I.kIn True.intro e (fun z => nomatch z) h
  | int i => obtain ⟨t, q⟩ := (show ∃ t, u = Value.int i t from rx); cases q; exact PySem.W.kia_one PySem.W.kitx_int I.kIn True.intro e (fun z => nomatch z) h
  | str y => obtain ⟨t, q⟩ := (show ∃ t, u = Value.str y t from rx); cases q; exact PySem.W.kia_one PySem.W.kitx_str I.kIn True.intro e (fun z => nomatch z) h
  | flt y => obtain ⟨t, q⟩ := (show ∃ t, u = Value.float y t from rx); cases q; exact PySem.W.kia_one PySem.W.kitx_float I.kIn True.intro e (fun z => nomatch z) h
  | @lst a xs ea =>
    cases (show u = Value.ref a from rx)
    obtain ⟨_, _, n, _, h1⟩ := (show ObjOk X.prog X.w H s.heap a (.lst xs) from I.hok a _ ea)
    exact PySem.W.kia_one PySem.W.kitx_list I.kIn ⟨_, h1, rfl⟩ e (fun z => nomatch z) h
  | @frz a ob xs ea =>
    cases (show u = Value.ref a from rx)
    obtain ⟨_, _, _, n, _, h1⟩ := (show ObjOk X.prog X.w H s.heap a (.frz ob (.lst xs)) from I.hok a _ ea)
    exact PySem.W.kia_one PySem.W.kitx_list I.kIn ⟨_, h1, rfl⟩ e (fun z => nomatch z) h
  | @tup a xs ea =>
    cases (show u = Value.ref a from rx)
    obtain ⟨_, _, _, p⟩ := (show ObjOk X.prog X.w H s.heap a (.tup xs) from I.hok a _ ea)
    obtain ⟨o, h1, h2, _⟩ := p
    exact PySem.W.kia_one PySem.W.kitx_tuple I.kIn ⟨o, h1, h2⟩ e (fun z => nomatch z) h
  | @dK a kvs ea =>
    cases (show u = Value.ref a from rx)
    obtain ⟨_, _, vs, _, p⟩ := (show ObjOk X.prog X.w H s.heap a (.dK kvs) from I.hok a _ ea)
    obtain ⟨o, es, ep, h1, h2, _⟩ := p
    exact PySem.W.kia_one PySem.W.kitx_dict I.kIn ⟨o, h1, h2.1⟩ e (fun z => nomatch z) h
  | @dT a kvs ea =>
    cases (show u = Value.ref a from rx)
    obtain ⟨_, _, xs, _, o, es, ep, h1, h2, _⟩ := (show ObjOk X.prog X.w H s.heap a (.dT kvs) from I.hok a _ ea)
    exact PySem.W.kia_one PySem.W.kitx_dict I.kIn ⟨o, h1, h2.1⟩ e (fun z => nomatch z) h
  | @dG a kvs ea =>
    cases (show u = Value.ref a from rx)
    obtain ⟨_, _, xs, _, o, es, ep, h1, h2, _⟩ := (show ObjOk X.prog X.w H s.heap a (.dG kvs) from I.hok a _ ea)
    exact PySem.W.kia_one PySem.W.kitx_dict I.kIn ⟨o, h1, h2.1⟩ e (fun z => nomatch z) h
  | @ins a C dx fs ea cl ha hn htk hm =>
    cases (show u = Value.ref a from rx)
    obtain ⟨mA, O, _⟩ := ins_get I.hok ea
    obtain ⟨od, J, _⟩ := O.look
    exact PySem.W.kia_one (PySem.W.kitx_own (cl.get _) cl.hd ha hn htk hm) I.kIn J e (fun z => nomatch z) h
end
end L2
namespace L2
open PySem PySem.Spec PyProof.Rows
structure Room (k : Nat) (A : Around) : Prop where
  hd : A.handled = none
  dp : A.depth + 3 * k + 5 < recursionLimit
  un : A.units + 16 * k + 200 < cLine
theorem Room.mono {j k : Nat} {A : Around} (r : Room k A) (h : j ≤ k) : Room j A := ⟨r.hd, by have := r.dp; omega, by have := r.un; omega⟩
theorem Room.deeper {k : Nat} {A : Around} (r : Room (k + 1) A) (env : Env) : Room k (A.deeper env) :=
  ⟨r.hd, by have := r.dp; show A.depth + 1 + 3 * k + 5 < _; omega, by have := r.un; show A.units + 3 + 16 * k + 200 < _; omega⟩
theorem Room.depth {k : Nat} {A : Around} (r : Room k A) : A.depth < recursionLimit := by have := r.dp; omega
theorem Room.units {k : Nat} {A : Around} (r : Room k A) : A.units + 64 < cLine := by have := r.un; omega
theorem Room.units0 {k : Nat} {A : Around} (r : Room k A) : A.units < cLine := by have := r.un; omega
def tNil : TA := fun _ H Q => Q [] H
def tCons (ta : TE) (tr : TA) : TA := fun σ H Q => ta σ H fun x H1 => tr σ H1 fun xs H2 => Q (x :: xs) H2
section
variable {X : Cx} {e : Expr} {es : List Expr} {te : TE} {t : TA} {pos : Pos}
theorem pa_nil : PA X [] tNil := fun _ _ _ _ H Q I h => Calls.spliced_nil ⟨[], H, I, .nil, h⟩
theorem pa_cons (ha : PE X e te) (hr : PA X es t) (hs : starEach (e :: es) X.env = (false, eval e X.env) :: starEach es X.env := by rfl) : PA X (e :: es) (tCons te t) := by
  intro pos pins s σ H Q I h
  rw [hs]
  show wpAny _ _ (spliced ((false, eval e X.env) :: backTo pos (starEach es X.env))) _ _ s
  refine Calls.spliced_cons (thn (ha pins s σ H _ I h) fun u s1 ⟨x, H1, I1, r1, q1⟩ => ?_)
  exact thn (hr pos pins s1 σ H1 _ I1 q1) fun us s2 ⟨xs, H2, I2, r2, q2⟩ => ⟨x :: xs, H2, I2, .cons r1 r2, q2⟩
end
abbrev Sp := List V → Hp → VK → XK → Prop
abbrev CXT := List Env → Hp → Shared → XK → Value → Shared → Prop
structure Env0 (P : Program) (w : World) (K : PySem.W.Frag) (mg : Str → Option Value) (base : Heap) (A : Around) (outer : List Env) (s : Shared) (H : Hp) : Prop where
  frames : A.frames = some outer
  mod : Mod K mg base
  bs : ∀ b o, base.get? b = some o → s.heap.get? b = some o ∧ (H b = none ∨ ∃ xs, H b = some (.tup xs))
  bsz : base.objs.size ≤ s.heap.objs.size
  funs : s.heap.FunFrames base outer
  frf : ∀ b ∈ frs outer, H b = none
  hok : HOk P w H s.heap
  bare : AllBare s.gens
def CE (outer : List Env) (P : Program) (w : World) (H : Hp) (s : Shared) (Q : VK) (u : Value) (s' : Shared) : Prop :=
  ∃ v H', s'.os = s.os ∧ AllBare s'.gens ∧ Un (frs outer) [] H H' s.heap s'.heap ∧ HOk P w H' s'.heap ∧ RelV v u ∧ Q v H'
def CR (CX : CXT) (outer : List Env) (P : Program) (w : World) (H : Hp) (s : Shared) (Q : VK) (E : XK) (r : Result) (s' : Shared) : Prop :=
  match r with
  | .ok (.ret u) => CE outer P w H s Q u s'
  | .ok _ => False
  | .error e => CX outer H s E e s'
structure FnOk (P : Program) (w : World) (K : PySem.W.Frag) (mg : Str → Option Value) (base : Heap) (CX : CXT) (k : Nat) (f : Addr) (fd : FuncData) (ps : List Str) (sp : Sp) : Prop where
  len : ∀ vs H Q E, sp vs H Q E → vs.length = ps.length
  run : ∀ (A : Around) (outer : List Env) (s : Shared) (H : Hp) (args : Args) (us : List Value) (vs : List V) (Q : VK) (E : XK), Room k A → Env0 P w K mg base A outer s H → BindsTo s fd args (ps.zip us) → Vals vs us → sp vs H Q E →
    codeAny (model P w) A (.call (.ref f) args) (CR CX outer P w H s Q E) s
section
variable {X : Cx} {pins : List (Addr × Obj)} {σ : St} {H : Hp} {s s' : Shared}
theorem Inv.env0 (I : Inv X pins σ H s) : Env0 X.prog X.w X.K X.mg X.base X.A X.stack s H :=
  ⟨I.ok.frames, I.ok.mod, I.bs, Nat.le_trans I.ok.bsz I.sz, I.stack, I.stkFree, I.hok, I.bare⟩
theorem Inv.after {Q : VK} {u : Value} (I : Inv X pins σ H s) (h : CE X.stack X.prog X.w H s Q u s') : EP X pins σ Q u s' := by
  obtain ⟨v, H', os, bare, un, hok, r, q⟩ := h
  obtain ⟨hh, g, d, t, os'⟩ := s'
  obtain rfl : os' = s.os := os
  exact ⟨v, H', I.call (h' := hh) (g' := g) (d' := d) (t' := t) (ch := []) un hok bare (fun b z => absurd z (by simp)), r, q⟩
end
def tCall (sp : Sp) (dvs : List V) (E : XK) (t : TA) : TE := fun σ H Q => t σ H fun vs H1 => sp (vs ++ dvs) H1 Q E
def Binds (K : PySem.W.Frag) (fd : FuncData) (ps : List Str) (ds : List Value) : Prop :=
  ∀ (s : Shared) (us : List Value), K.In s.heap → (us ++ ds).length = ps.length → BindsTo s fd ⟨us, []⟩ (ps.zip (us ++ ds))
theorem Binds.all {K : PySem.W.Frag} {fd : FuncData} {ps : List Str} (h : ∀ us : List Value, us.length = ps.length → bindArgs fd ⟨us, []⟩ = pure (ps.zip us)) : Binds K fd ps [] := fun s us _ hl => by
  rw [List.append_nil] at hl ⊢
  exact .of_eq (h us hl)
def Passes (CX : CXT) (X : Cx) (E : XK) : Prop := ∀ (pins : List (Addr × Obj)) (σ : St) (H : Hp) (s : Shared) (e : Value) (s' : Shared), Inv X pins σ H s → CX X.stack H s E e s' → X.xe e s'
section
variable {X : Cx} {CX : CXT} {k : Nat} {f C : Addr} {fd : FuncData} {ps : List Str} {sp : Sp} {dvs : List V} {ds : List Value} {E : XK} {x m : Str} {p pos apos : Pos} {e o : Expr} {es : List Expr} {ta : TE} {t : TA}
theorem run_fn {pins : List (Addr × Obj)} {σ : St} {H : Hp} {s : Shared} {Q : VK} {us : List Value} {vs : List V} (F : FnOk X.prog X.w X.K X.mg X.base CX k f fd ps sp) (hr : Room k X.A) (hb : Binds X.K fd ps ds) (hd : Vals dvs ds) (hx : Passes CX X E)
    (I : Inv X pins σ H s) (r : Vals vs us) (h : sp (vs ++ dvs) H Q E) : wpAny (model X.prog X.w) X.A (call (.ref f) us) (EP X pins σ Q) X.xe s := by
  have r2 : Vals (vs ++ dvs) (us ++ ds) := r.append hd
  have hl : (us ++ ds).length = ps.length := by rw [← r2.length]; exact F.len _ _ _ _ h
  refine wpAny_call (codeAny_mono (F.run X.A X.stack s H ⟨us, []⟩ (us ++ ds) (vs ++ dvs) Q E hr I.env0 (hb s us I.kIn hl) r2 h) fun r s' hq => ?_)
  cases r with
  | error e => exact hx pins σ H s e s' I hq
  | ok fl =>
    cases fl with
    | ret u => exact I.after hq
    | next => exact False.elim hq
    | brk => exact False.elim hq
    | cont => exact False.elim hq
theorem pe_call (F : FnOk X.prog X.w X.K X.mg X.base CX k f fd ps sp) (hr : Room k X.A) (hg : Gl X x) (hm : X.mg x = some (.ref f)) (hk : PySem.W.keepIn X.K (.ref f) = true) (hb : Binds X.K fd ps ds) (hd : Vals dvs ds) (hx : Passes CX X E)
    (ha : PA X (e :: es) t) (hdb : (x == ("__debug__" : Str)) = false := by decide) (he : starEach (e :: es) X.env = (false, eval e X.env) :: starEach es X.env := by rfl) (hpl : (backTo pos (starEach es X.env)).any (·.1) = false := by rfl) :
    PE X (.Call (.Name x p) (e :: es) [] pos) (tCall sp dvs E t) := by
  intro pins s σ H Q I h
  refine wpAny_Call_Name_kw (ld_glob I hg hm ?_ hdb)
  refine PySem.W.callWith_K (h₀ := X.base) I.ok.mod.kin hk (thn (ha pos pins s σ H _ I h) fun us s1 ⟨vs, H1, I1, r, q⟩ => ⟨I1.kIn, ?_⟩) he hpl
  exact run_fn F hr hb hd hx I1 r q
end
section
variable {X : Cx} {CX : CXT} {k : Nat} {f C : Addr} {fd : FuncData} {ps ks : List Str} {sp : Sp} {E : XK} {x m : Str} {p pos apos kpos : Pos} {e o : Expr} {es : List Expr} {kws : List Keyword} {te ta : TE} {t tk : TA} {nm : Option Str}
variable {g : List Value → List Value → List Value} {gV : List V → List V → List V}
end
structure FnScope (N P : List Str) (sc : Scope) : Prop where
  kind : sc.kind = .function
  co : sc.isCoroutine = false
  gen : sc.isGenerator = false
  nd : N.Nodup
  pre : N.take P.length = P
  par : ∀ x ∈ P, sc.names.lookup x = some .local ∨ sc.names.lookup x = some .cell
  nofree : ∀ y ∈ sc.names, y.2 ≠ .free
theorem bindL_out {kindOf : Str → Option NameKind} {x : Str} : ∀ {binds : List (Str × Value)} {m : Str → Option Value}, (∀ v, (x, v) ∉ binds) → bindL kindOf binds m x = m x
  | [], _, _ => rfl
  | (n, v) :: r, m, h => by
    unfold bindL
    rw [bindL_out fun w hw => h w (List.mem_cons_of_mem _ hw)]
    split
    · have : x ≠ n := by rintro rfl; exact h v List.mem_cons_self
      simp [this]
    · rfl
theorem bindC_out {kindOf : Str → Option NameKind} {x : Str} : ∀ {binds : List (Str × Value)} {m : Str → Option Value}, (∀ v, (x, v) ∉ binds) → bindC kindOf binds m x = m x
  | [], _, _ => rfl
  | (n, v) :: r, m, h => by
    unfold bindC
    rw [bindC_out fun w hw => h w (List.mem_cons_of_mem _ hw)]
    split
    · rfl
    · have : x ≠ n := by rintro rfl; exact h v List.mem_cons_self
      simp [this]
theorem bindL_get {kindOf : Str → Option NameKind} {x : Str} {v : Value} : ∀ {P : List Str} {vs : List Value} {i : Nat} {m : Str → Option Value}, P.Nodup → P[i]? = some x → vs[i]? = some v → kindOf x = some .local →
    bindL kindOf (P.zip vs) m x = some v
  | [], _, _, _, _, h, _, _ => by simp at h
  | _ :: _, [], _, _, _, _, h, _ => by simp at h
  | p :: P, w :: vs, 0, m, nd, h1, h2, hk => by
    simp at h1 h2; subst h1; subst h2
    show bindL kindOf ((p, w) :: P.zip vs) m p = _
    unfold bindL
    rw [bindL_out fun v hv => (List.nodup_cons.mp nd).1 (List.of_mem_zip hv).1, if_pos hk]
    simp
  | p :: P, w :: vs, i + 1, m, nd, h1, h2, hk => by
    show bindL kindOf ((p, w) :: P.zip vs) m x = _
    unfold bindL
    exact bindL_get (i := i) (List.nodup_cons.mp nd).2 (by simpa using h1) (by simpa using h2) hk
theorem bindC_get {kindOf : Str → Option NameKind} {x : Str} {v : Value} : ∀ {P : List Str} {vs : List Value} {i : Nat} {m : Str → Option Value}, P.Nodup → P[i]? = some x → vs[i]? = some v → kindOf x ≠ some .local →
    bindC kindOf (P.zip vs) m x = some v
  | [], _, _, _, _, h, _, _ => by simp at h
  | _ :: _, [], _, _, _, _, h, _ => by simp at h
  | p :: P, w :: vs, 0, m, nd, h1, h2, hk => by
    simp at h1 h2; subst h1; subst h2
    show bindC kindOf ((p, w) :: P.zip vs) m p = _
    unfold bindC
    rw [bindC_out fun v hv => (List.nodup_cons.mp nd).1 (List.of_mem_zip hv).1, if_neg hk]
    simp
  | p :: P, w :: vs, i + 1, m, nd, h1, h2, hk => by
    show bindC kindOf ((p, w) :: P.zip vs) m x = _
    unfold bindC
    exact bindC_get (i := i) (List.nodup_cons.mp nd).2 (by simpa using h1) (by simpa using h2) hk
def start (N : List Str) (vs : List V) : St := vs.map some ++ List.replicate (N.length - vs.length) none
def cxOf (CX : CXT) (P : Program) (w : World) (K : PySem.W.Frag) (mg : Str → Option Value) (base : Heap) (N : List Str) (qual : Str) (scope : Scope) (f : Addr) (cd : Value) (A : Around) (outer : List Env) (s : Shared) (H : Hp) (E : XK) : Cx where
  prog := P
  w := w
  K := K
  mg := mg
  base := base
  A := A.deeper (envOfC qual scope s.heap.objs.size f cd)
  N := N
  s₀ := s
  H₀ := H
  env := envOfC qual scope s.heap.objs.size f cd
  outer := outer
  stack := envOfC qual scope s.heap.objs.size f cd :: outer
  ex := []
  calm := true
  fn := fun _ => true
  pn := []
  xe := fun e s' => wpAny (model P w) (A.deeper (envOfC qual scope s.heap.objs.size f cd)) (leaving (envOfC qual scope s.heap.objs.size f cd) e) (fun _ s'' => CX outer H s E e s'') (fun e' s'' => CX outer H s E e' s'') s'
theorem cell_has {sc : Scope} {n : Nat} {x : Str} (h : sc.names.lookup x = some .cell) : ∃ c, (cellsFrom n sc.names []).lookup x = some c := by
  have q := PySem.W.cellsFrom_some sc.names n [] (.inl h)
  exact Option.isSome_iff_exists.mp q
theorem inv_start {CX : CXT} {P : Program} {w : World} {K : PySem.W.Frag} {mg : Str → Option Value} {base : Heap} {N ps : List Str} {qual : Str} {scope : Scope} {f : Addr} {cd : Value} {A : Around} {outer : List Env} {s s1 : Shared} {H : Hp} {E : XK} {us : List Value} {vs : List V}
    (S : FnScope N ps scope) (hd : A.handled = none) (e0 : Env0 P w K mg base A outer s H) (hl : vs.length = ps.length) (r : Vals vs us)
    (x : InCallC s s.heap.objs.size (bindL (envOfC qual scope s.heap.objs.size f cd).kindOf (ps.zip us) fun _ => none) (cellsFrom (s.heap.objs.size + 1) scope.names []) (bindC (envOfC qual scope s.heap.objs.size f cd).kindOf (ps.zip us) fun _ => none) s1) :
    Inv (cxOf CX P w K mg base N qual scope f cd A outer s H E) [] (start N vs) H s1 := by
  have hpl : ps.length ≤ N.length := by have := congrArg List.length S.pre; rw [List.length_take] at this; omega
  obtain ⟨h1, tk, rfl, hk⟩ := x.done
  have noA : ∀ b : Addr, b ∉ (cxOf CX P w K mg base N qual scope f cd A outer s H E).ex := fun b z => absurd (show b ∈ ([] : List Addr) from z) (by simp)
  refine ⟨⟨e0.mod, S.kind, rfl, rfl, Nat.le_refl _, fun y z c h1 h2 => ?_, fun y hy => ?_, fun y c _ h => ?_, fun _ => hd, Around.frames_deeper e0.frames, .inr ⟨rfl, rfl⟩, fun b z => absurd z (noA b), e0.bs, e0.bsz, fun b _ _ => noA b, fun b z => absurd z (noA b), e0.funs, e0.frf⟩,
    rfl, e0.bare, Un.kept hk, ⟨_, x.toInCall.ns, fun i y v h1 h2 h3 => ?_⟩, fun y c h => ⟨_, x.cell y c h⟩, e0.hok.fresh (Nat.le_refl _), fun y c h => ?_, fun p hp => absurd (show p ∈ ([] : List (Addr × Obj)) from hp) (by simp), e0.hok.kept hk, ?_⟩
  · exact name_of_addr x.apart (PySem.mem_of_lookup h1) (PySem.mem_of_lookup h2)
  · have hy : scope.names.lookup y = some .cell ∨ scope.names.lookup y = some .free := hy
    rcases hy with hy | hy
    · exact cell_has hy
    · exact absurd rfl (S.nofree _ (PySem.mem_of_lookup hy))
  · exact Nat.le_of_lt (x.above y c (PySem.mem_of_lookup h))
  · have hi : i < vs.length := by
      unfold start at h2
      by_cases hi : i < vs.length
      · exact hi
      · rw [List.getElem?_append_right (by simpa using hi)] at h2
        rw [List.getElem?_replicate] at h2
        split at h2 <;> cases h2
    have ha : vs[i]? = some v := by
      unfold start at h2
      rw [List.getElem?_append_left (by simpa using hi), List.getElem?_map] at h2
      cases e : vs[i]? with
      | none => rw [e] at h2; cases h2
      | some a => rw [e] at h2; cases h2; rfl
    obtain ⟨u, hu, rv⟩ := r.get ha
    have hp : ps[i]? = some y := by
      rw [← S.pre, List.getElem?_take_of_lt (by omega)]; exact h1
    have ndP : ps.Nodup := by rw [← S.pre]; exact S.nd.sublist (List.take_sublist _ _)
    refine ⟨u, rv, ?_⟩
    rcases S.par y (List.mem_of_getElem? hp) with k | k
    · exact .inl ⟨k, bindL_get ndP hp hu k⟩
    · obtain ⟨c, e⟩ := cell_has (n := s.heap.objs.size + 1) k
      refine .inr ⟨.inl k, c, e, ?_⟩
      have q := x.cell y c e
      rw [bindC_get ndP hp hu (by show scope.names.lookup y ≠ _; rw [k]; decide)] at q
      exact q
  · exact e0.hok.fresh (Nat.le_of_lt (x.above y c (PySem.mem_of_lookup h)))
  · unfold start
    show _ = N.length
    rw [List.length_append, List.length_map, List.length_replicate]
    omega
theorem fn_of {CX : CXT} {P : Program} {w : World} {K : PySem.W.Frag} {mg : Str → Option Value} {base : Heap} {k : Nat} {f : Addr} {name qual : Str} {params : Arguments} {body : List Stmt} {scope : Scope} {dV kV doc pm cdv ct oc : Value} {an od : Option Addr}
    {osl : Array (Option Value)} {N ps : List Str} {sp : Sp} (lk : K.lookup f = some ⟨oc, od, .func (PySem.W.fnOf name qual params body scope dV kV doc pm an cdv ct), osl⟩) (hcd : PySem.W.codeIn K cdv qual = true) (S : FnScope N ps scope)
    (len : ∀ vs H Q E, sp vs H Q E → vs.length = ps.length)
    (hbody : ∀ (A : Around) (outer : List Env) (s : Shared) (H : Hp) (vs : List V) (Q : VK) (E : XK), Room k (A.deeper (envOfC qual scope s.heap.objs.size f cdv)) → sp vs H Q E →
      ∃ t, PSs (cxOf CX P w K mg base N qual scope f cdv A outer s H E) body t ∧ t { nx := fun _ H' => Q .non H', rt := Q } (start N vs) H) :
    FnOk P w K mg base CX (k + 1) f (PySem.W.fnOf name qual params body scope dV kV doc pm an cdv ct) ps sp := by
  refine ⟨len, fun A outer s H args us vs Q E hr e0 hb r hsp => ?_⟩
  have hl := len _ _ _ _ hsp
  have KX : K.In s.heap := e0.mod.kin.keeps fun b o e => (e0.bs b o e).1
  have lim : s.heap.NoLimit := e0.mod.nolimit.keeps fun b o e => (e0.bs b o e).1
  have hkind : ∀ y ∈ ps.zip us, scope.names.lookup y.1 = some .local ∨ (scope.names.lookup y.1 = some .cell ∧ ((cellsFrom (s.heap.objs.size + 1) scope.names []).lookup y.1).isSome = true) := fun ⟨n, v⟩ hy => by
    rcases S.par n (List.of_mem_zip hy).1 with q | q
    · exact .inl q
    · exact .inr ⟨q, PySem.W.cellsFrom_some _ _ _ (.inl q)⟩
  refine codeAny_call_function hr.depth (KX _ _ lk) rfl S.co S.gen rfl (PySem.W.codeRec_of KX hcd) (hb _ _ _ _ ?_)
  refine wpAny_newFunctionEnv_cells S.kind hkind fun env he s1 x => ?_
  subst he
  refine ⟨lim.keeps x.toInCall.keep, codeAny_func ?_⟩
  obtain ⟨t, ht, hq⟩ := hbody A outer s H vs Q E (hr.deeper _) hsp
  have I : Inv (cxOf CX P w K mg base N qual scope f cdv A outer s H E) [] (start N vs) H s1 := inv_start S hr.hd e0 hl r x
  refine wpAny_mono (ht [] s1 (start N vs) H _ I hq) (fun fl s' hs => ?_) fun e s' hs => hs
  have fin : ∀ {σ' : St} {H' : Hp} {v : V} {u : Value}, Inv (cxOf CX P w K mg base N qual scope f cdv A outer s H E) [] σ' H' s' → RelV v u → Q v H' → CE outer P w H s Q u s' :=
    fun {σ' H' v u} J rv q => ⟨v, H', J.os, J.bare, J.base, J.hok, rv, q⟩
  cases fl with
  | ret u =>
    obtain ⟨v, σ', H', J, rv, q⟩ := hs
    exact fin J rv q
  | next =>
    obtain ⟨σ', H', J, q⟩ := hs
    exact fin (v := V.non) (u := Value.none) J rfl q
  | brk =>
    obtain ⟨_, _, _, q⟩ := hs
    exact False.elim q
  | cont =>
    obtain ⟨_, _, _, q⟩ := hs
    exact False.elim q
end L2
namespace L2
open PySem PySem.Spec PyProof.Rows
section
variable {X : Cx} {x : Str} {p pos : Pos} {e : Expr} {es : List Expr} {t : TA} {id T : String} {r : List V → Hp → VK → Prop}
def tCB (r : List V → Hp → VK → Prop) (t : TA) : TE := fun σ H Q => t σ H fun vs H1 => r vs H1 Q
theorem pe_callB (hc : CallR X (.builtin id) r) (hg : Gl X x) (hm : X.mg x = none) (hv : bootBuiltins x = some (.builtin id)) (ha : PA X (e :: es) t) (hn : x ≠ "__name__" := by decide) (hdb : (x == ("__debug__" : Str)) = false := by decide)
    (he : starEach (e :: es) X.env = (false, eval e X.env) :: starEach es X.env := by rfl) (hpl : (backTo pos (starEach es X.env)).any (·.1) = false := by rfl) : PE X (.Call (.Name x p) (e :: es) [] pos) (tCB r t) := by
  intro pins s σ H Q I h
  refine wpAny_Call_Name_kw (ld_blt I hg hm hv ?_ hn hdb)
  exact PyProof.Rows.callWith_builtin1 (thn (ha pos pins s σ H _ I h) fun us s1 ⟨vs, H1, I1, r1, q1⟩ => hc pins s1 σ H1 vs us Q I1 r1 q1) he hpl
theorem pe_callTy (hc : CallR X (.type T) r) (hg : Gl X x) (hm : X.mg x = none) (hv : bootBuiltins x = some (.type T)) (ha : PA X (e :: es) t) (hn : x ≠ "__name__" := by decide) (hdb : (x == ("__debug__" : Str)) = false := by decide)
    (he : starEach (e :: es) X.env = (false, eval e X.env) :: starEach es X.env := by rfl) (hpl : (backTo pos (starEach es X.env)).any (·.1) = false := by rfl) : PE X (.Call (.Name x p) (e :: es) [] pos) (tCB r t) := by
  intro pins s σ H Q I h
  refine wpAny_Call_Name_kw (ld_blt I hg hm hv ?_ hn hdb)
  exact PyProof.Rows.callWith_type1 (thn (ha pos pins s σ H _ I h) fun us s1 ⟨vs, H1, I1, r1, q1⟩ => hc pins s1 σ H1 vs us Q I1 r1 q1) he hpl
end
end L2
namespace HT
open PySem PyProof.Rows
section
open PySem.SeqAt
open PySem.AutoSeq1 (wpAny_loadPart')
open PySem.MeetsSeq PySem.MeetsSeq2 PySem.MeetsSeq3
end
section
variable {prog : Program} {w : World} {A : Around} {E : Value → Shared → Prop} {s : Shared}
end
end HT
namespace L2
open PySem PySem.Spec PyProof.Rows
section
variable {X : Cx} {e : Expr} {te : TE} {lo hi : Option Expr} {tl th : TO} {pos p2 : Pos}
end
end L2
namespace L2
open PySem PySem.Spec PyProof.Rows
def ixN (n : Nat) (i : Int) : Option Nat := if 0 ≤ i then (if i < n then some i.toNat else none) else if -(n : Int) ≤ i then some (i + n).toNat else none
def atI {α : Type} (xs : List α) (i : Int) : Option α := (ixN xs.length i).bind fun j => xs[j]?
theorem ixN_seq {n : Nat} {i : Int} {j : Nat} (h : ixN n i = some j) : seqIndex? i n = some j ∧ j < n ∧ -(n : Int) ≤ i ∧ i < n := by
  unfold ixN at h
  by_cases h0 : 0 ≤ i
  · rw [if_pos h0] at h
    by_cases h1 : i < n
    · rw [if_pos h1] at h
      have e : i.toNat = j := Option.some.inj h
      exact ⟨by rw [seqIndex_of h0 h1, e], by omega, by omega, h1⟩
    · rw [if_neg h1] at h; cases h
  · rw [if_neg h0] at h
    by_cases h1 : -(n : Int) ≤ i
    · rw [if_pos h1] at h
      have e : (i + n).toNat = j := Option.some.inj h
      exact ⟨by rw [seqIndex_neg (by omega) h1, e], by omega, h1, by omega⟩
    · rw [if_neg h1] at h; cases h
theorem atI_get {α : Type} {xs : List α} {i : Int} {v : α} (h : atI xs i = some v) : ∃ j, seqIndex? i xs.length = some j ∧ xs[j]? = some v ∧ j < xs.length ∧ -(xs.length : Int) ≤ i ∧ i < xs.length := by
  unfold atI at h
  cases e : ixN xs.length i with
  | none => rw [e] at h; cases h
  | some j =>
    rw [e] at h
    obtain ⟨h1, h2, h3, h4⟩ := ixN_seq e
    exact ⟨j, h1, h, h2, h3, h4⟩
theorem atI_nat {α : Type} {xs : List α} {j : Nat} {v : α} (h : xs[j]? = some v) : atI xs (j : Int) = some v := by
  have hj : j < xs.length := (List.getElem?_eq_some_iff.mp h).1
  have e : ixN xs.length (j : Int) = some j := by
    unfold ixN
    rw [if_pos (by omega), if_pos (by omega)]; simp
  unfold atI; rw [e]; exact h
def PlainIx (b : Expr) : Prop := ∀ o i, subscripted b false o i = operate [o, i] (getItem o i)
def IxR (X : Cx) (r : R2) : Prop :=
  ∀ (value slice : Expr) (pins : List (Addr × Obj)) (s : Shared) (σ : St) (H : Hp) (x y : V) (v u : Value) (Q : VK), Inv X pins σ H s → RelV x v → RelV y u → r x y H Q →
    subscripted slice false v u = operate [v, u] (getItem v u) → wpAny (model X.prog X.w) X.A (subscriptTail value slice v u) (EP X pins σ Q) X.xe s
def MtR (X : Cx) (id : String) (r : V → List V → Hp → VK → Prop) : Prop :=
  ∀ (pins : List (Addr × Obj)) (s : Shared) (σ : St) (H : Hp) (x : V) (xs : List V) (v : Value) (us : List Value) (Q : VK), Inv X pins σ H s → RelV x v → Vals xs us → r x xs H Q →
    wpAny (model X.prog X.w) X.A (call (.builtin id) (v :: us)) (EP X pins σ Q) X.xe s
section
variable {X : Cx} {a b : Expr} {ta tb : TE} {pos : Pos}
theorem pe_ix {r : R2} (hr : IxR X r) (ha : PE X a ta) (hb : PE X b tb) (hs : PlainIx b) : PE X (.Subscript a b pos) (tOp r ta tb) := by
  intro pins s σ H Q I h
  exact Subscript_ (binT ha hb I h fun v u s2 x y H2 I2 rx ry q => hr a b pins s2 σ H2 x y v u Q I2 rx ry q (hs _ _))
def rIxL (K : PySem.W.Frag) : R2 := fun x y H Q => ∃ p xs i v, x = .ref p ∧ y = .int i ∧ SqL K H p xs ∧ atI xs i = some v ∧ Q v H
def rIxT (K : PySem.W.Frag) : R2 := fun x y H Q => ∃ p xs i v, x = .ref p ∧ y = .int i ∧ SqT K H p xs ∧ atI xs i = some v ∧ Q v H
theorem ix_list : IxR X (rIxL X.K) := by
  intro value slice pins s σ H x y v u Q I rx ry h hs
  obtain ⟨p, xs, i, z, rfl, rfl, hq, he, q⟩ := h
  cases rx
  obtain ⟨t, rfl⟩ := ry
  obtain ⟨its, r, pl, hz⟩ := I.list hq
  obtain ⟨j, h1, h2, h3, h4, h5⟩ := atI_get he
  obtain ⟨w, ew, rw'⟩ := r.get h2
  have hl := r.length
  have hn := line63
  have fin : EP X pins σ Q w s := ⟨z, H, I, rw', q⟩
  by_cases h0 : 0 ≤ i
  · have hj : i.toNat = j := by
      rw [seqIndex_of h0 h5] at h1
      exact Option.some.inj h1
    exact item_listR pl.isList h0 (by omega) (by rw [hj]; simpa using ew) fin hs
  · have hj : (i + (its.toArray.size : Int)).toNat = j := by
      rw [seqIndex_neg (by omega) h4] at h1
      rw [List.size_toArray, ← hl]
      exact Option.some.inj h1
    exact subscriptTail_builtinR (x := w) pl.isList.typeIs slot_list_getitem.lookup
      (wpAny_getItem_list_neg (Q := fun r s' => r = w ∧ EP X pins σ Q r s') pl.isList (by omega) (by rw [List.size_toArray] <;> omega) (by omega) (by rw [hj]; simpa using ew) ⟨rfl, fin⟩) hs
theorem ix_tup : IxR X (rIxT X.K) := by
  intro value slice pins s σ H x y v u Q I rx ry h hs
  obtain ⟨p, xs, i, z, rfl, rfl, hq, he, q⟩ := h
  cases rx
  obtain ⟨t, rfl⟩ := ry
  obtain ⟨its, r, pl, hz⟩ := I.tuple hq
  obtain ⟨j, h1, h2, h3, h4, h5⟩ := atI_get he
  obtain ⟨w, ew, rw'⟩ := r.get h2
  have hl := r.length
  have hn := line63
  have fin : EP X pins σ Q w s := ⟨z, H, I, rw', q⟩
  exact subscriptTail_builtinR (x := w) pl.typeIs slot_tuple_getitem.lookup
    (getItem_tuple (j := j) (Q := fun r s' => r = w ∧ EP X pins σ Q r s') pl (by omega) (by omega) (by rw [List.size_toArray, ← hl]; exact h1) (by simpa using ew) ⟨rfl, fin⟩) hs
theorem mapSeq_set (its : List Value) (n j : Nat) (u : Value) : Obj.mapSeq (·.setIfInBounds j u) { cls := .type "list", data := .seq its.toArray n } = { cls := .type "list", data := .seq (its.set j u).toArray n } := by
  simp [Obj.mapSeq]
theorem Inv.lst {pins : List (Addr × Obj)} {σ : St} {H : Hp} {s : Shared} {p : Addr} {xs : List V} (I : Inv X pins σ H s) (h : H p = some (.lst xs)) :
    ∃ (its : List Value) (n : Nat), Vals xs its ∧ s.heap.get? p = some { cls := .type "list", data := .seq its.toArray n } ∧ xs.length ≤ sizeLine := by
  obtain ⟨z, its, n, r, e⟩ := I.hok p _ h
  exact ⟨its, n, r, e, z⟩
theorem Inv.lstUpd {pins : List (Addr × Obj)} {σ : St} {H : Hp} {s : Shared} {p : Addr} {xs ys : List V} {its its' : List Value} {n n' : Nat} {f : Obj → Obj} (I : Inv X pins σ H s) (h : H p = some (.lst xs))
    (ho : s.heap.get? p = some { cls := .type "list", data := .seq its.toArray n }) (hf : f { cls := .type "list", data := .seq its.toArray n } = { cls := .type "list", data := .seq its'.toArray n' }) (r : Vals ys its') (hz : ys.length ≤ sizeLine) (t : Nat) :
    Inv X pins σ (upd H p (.lst ys)) { s with heap := s.heap.update p f, toks := t } := by
  have e : (s.heap.update p f).get? p = some { cls := .type "list", data := .seq its'.toArray n' } := by
    rw [Heap.get?_update_self f ho (by rw [hf] <;> rfl), hf]
  refine I.write (x := p) (e := p) (by rw [h]; trivial) (.inl rfl) (fun b u hb q => (Heap.get?_update_other _ _ (Ne.symm hb)).trans q) ⟨_, e⟩ ?_
  exact ⟨hz, its', n', r, e⟩
def rSetL : V → V → V → Hp → (Hp → Prop) → Prop := fun o i v H Q => ∃ p xs k j, o = .ref p ∧ i = .int k ∧ H p = some (.lst xs) ∧ ixN xs.length k = some j ∧ Q (upd H p (.lst (xs.set j v)))
theorem set_list : PSet X rSetL := by
  intro pins s σ H o i v ov iv u Q I ro ri rv h
  obtain ⟨p, xs, k, j, rfl, rfl, hp, hj, q⟩ := h
  cases ro
  obtain ⟨t, rfl⟩ := ri
  obtain ⟨its, n, r, ho, hz⟩ := I.lst hp
  obtain ⟨h1, h2, h3, h4⟩ := ixN_seq hj
  have hl := r.length
  have hn := line63
  have I' : Inv X pins σ (upd H p (.lst (xs.set j v))) { s with heap := s.heap.update p (Obj.mapSeq (·.setIfInBounds j u)) } :=
    I.lstUpd hp ho (mapSeq_set its n j u) (r.set rv j) (by rw [List.length_set]; exact hz) s.toks
  by_cases h0 : 0 ≤ k
  · have hk : k.toNat = j := by
      rw [seqIndex_of h0 h4] at h1
      exact Option.some.inj h1
    exact PySem.W.ki_setAt ho h0 (by omega) (by rw [List.size_toArray, ← hl]; exact h4) (by rw [hk]; exact ⟨_, I', q⟩)
  · have hk : (k + (its.toArray.size : Int)).toNat = j := by
      rw [seqIndex_neg (by omega) h3] at h1
      rw [List.size_toArray, ← hl]
      exact Option.some.inj h1
    exact PySem.W.ki_setBack ho (by omega) (by rw [List.size_toArray, ← hl]; exact h3) (by omega) (by rw [hk]; exact ⟨_, I', q⟩)
theorem call_len_seq : CallR X (.builtin "len") (fun xs H Q => ∃ p ys, xs = [.ref p] ∧ (SqL X.K H p ys ∨ SqT X.K H p ys) ∧ Q (.int ys.length) H) := by
  intro pins s σ H xs us Q I r h
  obtain ⟨p, ys, rfl, hq, q⟩ := h
  obtain ⟨u, rfl, rx⟩ := vals1 r
  cases rx
  have hn := line63
  rcases hq with hq | hq
  · obtain ⟨its, r', pl, hz⟩ := I.list hq
    have hlen := r'.length
    exact Calls.call_len_list pl.isList (by simp only [List.size_toArray] <;> omega) ⟨.int ys.length, H, I.tok _, ⟨s.toks + 1, by rw [List.size_toArray, hlen]⟩, q⟩
  · obtain ⟨its, r', pl, hz⟩ := I.tuple hq
    have hlen := r'.length
    exact len_tuple pl (by simp only [List.size_toArray] <;> omega) ⟨.int ys.length, H, I.tok _, ⟨s.toks + 1, by rw [List.size_toArray, hlen]⟩, q⟩
def tyV (K : PySem.W.Frag) (T : String) (x : V) (H : Hp) : Prop := match x with
  | .str _ => T = "str"
  | .int _ => T = "int"
  | .ref p => (T = "list" ∧ ∃ xs, SqL K H p xs) ∨ (T = "tuple" ∧ ∃ o, K.lookup p = some o ∧ o.cls = .type "tuple" ∧ o.dict = none) ∨
      (T = "dict" ∧ ((∃ kvs, H p = some (.dK kvs)) ∨ (∃ kvs, H p = some (.dT kvs)) ∨ ∃ kvs, H p = some (.dG kvs))) ∨ (T = "set" ∧ ∃ S n, H p = some (.set S n))
  | _ => False
theorem tyV_is {pins : List (Addr × Obj)} {σ : St} {H : Hp} {s : Shared} {T : String} {x : V} {v : Value} (I : Inv X pins σ H s) (r : RelV x v) (ty : tyV X.K T x H) :
    s.TypeIs v T ∧ ∀ a, v = .ref a → ∃ ob, s.heap.get? a = some ob ∧ ob.dict = none := by
  cases x with
  | str z =>
    obtain ⟨t, rfl⟩ := r
    cases (show T = "str" from ty)
    exact ⟨typeIs_str s z t, fun _ e => nomatch e⟩
  | int i =>
    obtain ⟨t, rfl⟩ := r
    cases (show T = "int" from ty)
    exact ⟨typeIs_int s i t, fun _ e => nomatch e⟩
  | ref p =>
    cases r
    rcases ty with ⟨rfl, xs, hq⟩ | ⟨rfl, o, hk, hc, hd⟩ | ⟨rfl, hk⟩ | ⟨rfl, S, n, hk⟩
    · obtain ⟨its, _, pl, _⟩ := I.list hq
      refine ⟨pl.isList.typeIs, fun a e => ?_⟩
      cases e
      obtain ⟨o, n, e, c, hd, _⟩ := pl
      exact ⟨o, e, hd⟩
    · refine ⟨⟨o, I.kIn p o hk, hc⟩, fun a e => ?_⟩
      cases e
      exact ⟨o, I.kIn _ o hk, hd⟩
    · have z : ∃ o, s.heap.get? p = some o ∧ o.ExactDict := by
        rcases hk with ⟨kvs, hk⟩ | ⟨kvs, hk⟩ | ⟨kvs, hk⟩
        · obtain ⟨_, _, _, _, o, _, _, e, ex, _⟩ := I.hok p _ hk
          exact ⟨o, e, ex⟩
        · obtain ⟨_, _, _, _, o, _, _, e, ex, _⟩ := I.hok p _ hk
          exact ⟨o, e, ex⟩
        · obtain ⟨_, _, _, _, o, _, _, e, ex, _⟩ := I.hok p _ hk
          exact ⟨o, e, ex⟩
      obtain ⟨o, e, ex⟩ := z
      refine ⟨⟨o, e, ex.1⟩, fun a e2 => ?_⟩
      cases e2
      exact ⟨o, e, ex.2.1⟩
    · obtain ⟨o, _, _, _, e, ex, _⟩ := I.hok p _ hk
      refine ⟨⟨o, e, ex.1⟩, fun a e2 => ?_⟩
      cases e2
      exact ⟨o, e, ex.2.1⟩
  | _ => exact False.elim ty
def tBM (K : PySem.W.Frag) (T : String) (r : V → List V → Hp → VK → Prop) (to : TE) (t : TA) : TE := fun σ H Q => to σ H fun x H1 => tyV K T x H1 ∧ t σ H1 fun xs H2 => r x xs H2 Q
variable {o e : Expr} {es : List Expr} {to : TE} {t : TA} {name : Str} {apos cpos : Pos} {T id : String} {r : V → List V → Hp → VK → Prop}
theorem pe_bm (pa : PlainAttrs T) (slot : Slot T name id) (hty : typeOf (.builtin id) = pure (.type "method_descriptor")) (hm : MtR X id r) (ho : PE X o to) (ha : PA X (e :: es) t)
    (hbase : attributeBase o name X.env (eval o X.env) = eval o X.env := by rfl)
    (hfew : ((backTo cpos (starEach (e :: es) X.env)).all (fun x => !x.1) && (backToKw cpos (keywordEach [] X.env)).all (fun x => x.1.isSome)
      && decide ((e :: es).length + ([] : List Keyword).length + (if ([] : List Keyword).isEmpty then 0 else 1) < 30)) = true := by rfl)
    (hline : (apos.endLine == cpos.line) = true := by rfl) (hs : starEach (e :: es) X.env = (false, eval e X.env) :: starEach es X.env := by rfl) (hplain : (backTo cpos (starEach es X.env)).any (·.1) = false := by rfl) :
    PE X (.Call (.Attribute o name apos) (e :: es) [] cpos) (tBM X.K T r to t) := by
  intro pins s σ H Q I h
  refine wpAny_Call_method_late hbase hfew hline rfl (thn (ho pins s σ H _ I h) fun v s1 ⟨x, H1, I1, r1, ty, q1⟩ => ?_)
  obtain ⟨h1, h2⟩ := tyV_is I1 r1 ty
  refine ⟨T, id, pa, slot, hty, h1, h2, ?_⟩
  have hA := ha cpos pins s1 σ H1 _ I1 q1
  rw [hs] at hA ⊢
  refine Calls.callWith_builtin (by show (false || (backTo cpos (starEach es X.env)).any (·.1)) = false; rw [hplain] <;> rfl) (Calls.evalArgs_plain ?_)
  exact thn hA fun us s2 ⟨vs, H2, I2, r2, q2⟩ => hm pins s2 σ H2 x vs v us Q I2 r1 r2 q2
end
end L2
namespace L2
open PySem PySem.Spec PyProof.Rows
def MtM (X : Cx) (id : String) (r : V → List V → Hp → VK → Prop) : Prop :=
  ∀ (pins : List (Addr × Obj)) (s : Shared) (σ : St) (H : Hp) (x : V) (xs : List V) (v : Value) (us : List Value) (Q : VK), Inv X pins σ H s → RelV x v → Vals xs us → r x xs H Q →
    wpAny (model X.prog X.w) X.A (call (.builtin id) (v :: us)) (EP X pins σ Q) X.xe s
theorem Vals.one : ∀ {x : V} {us : List Value}, Vals [x] us → ∃ u, us = [u] ∧ RelV x u
  | _, _, .cons r .nil => ⟨_, rfl, r⟩
theorem Vals.two : ∀ {x y : V} {us : List Value}, Vals [x, y] us → ∃ u v, us = [u, v] ∧ RelV x u ∧ RelV y v
  | _, _, _, .cons r (.cons q .nil) => ⟨_, _, rfl, r, q⟩
theorem Vals.rep {xs : List V} {us : List Value} (h : Vals xs us) : ∀ k : Nat, Vals (List.replicate k xs).flatten (List.replicate k us).flatten
  | 0 => .nil
  | k + 1 => by
    rw [List.replicate_succ, List.replicate_succ, List.flatten_cons, List.flatten_cons]
    exact Vals.append h (Vals.rep h k)
theorem foldl_rep (its : List Value) : ∀ (k : Nat) (acc : List Value),
    List.foldl (fun x1 x2 => x1 ++ x2) acc.toArray (List.replicate k its.toArray) = (acc ++ (List.replicate k its).flatten).toArray
  | 0, acc => by simp
  | k + 1, acc => by
    have e : acc.toArray ++ its.toArray = (acc ++ its).toArray := by simp
    have e2 : (acc ++ its) ++ (List.replicate k its).flatten = acc ++ (List.replicate (k + 1) its).flatten := by
      rw [List.replicate_succ, List.flatten_cons, List.append_assoc]
    rw [← e2, ← foldl_rep its k (acc ++ its), ← e, List.replicate_succ, List.foldl_cons]
section
variable {X : Cx} {pins : List (Addr × Obj)} {σ : St} {H : Hp} {s : Shared} {l b : Addr} {xs ys zs : List V}
theorem Inv.lset {its its' : List Value} {n : Nat} {f : Array Value → Array Value} {t' : Nat} (I : Inv X pins σ H s) (hH : H l = some (.lst xs))
    (e : s.heap.get? l = some { cls := .type "list", data := .seq its.toArray n }) (hf : f its.toArray = its'.toArray) (hv : Vals ys its') (hz : ys.length ≤ sizeLine) :
    Inv X pins σ (upd H l (.lst ys)) { s with heap := s.heap.update l (Obj.mapSeq f), toks := t' } := by
  have q := PySem.IsL.update e f
  rw [hf] at q
  refine I.write (x := l) (e := l) (by rw [hH]; exact trivial) (.inl rfl) (fun b' u hb hu => (Heap.get?_update_other s.heap (Obj.mapSeq f) (Ne.symm hb)).trans hu) ⟨_, q⟩ ?_
  exact ⟨hz, its', _, hv, q⟩
theorem Inv.lnew {its : List Value} {t' : Nat} (I : Inv X pins σ H s) (hv : Vals ys its) (hz : ys.length ≤ sizeLine) :
    Inv X pins σ (upd H s.heap.objs.size (.lst ys)) { s with heap := s.heap.push { cls := .type "list", data := .seq its.toArray }, toks := t' } :=
  I.laid (fun _ _ q => Heap.get?_push_of_some _ q) (Nat.le_refl _) ⟨hz, its, 0, hv, Heap.get?_push_size _ rfl⟩
theorem Inv.fresh (I : Inv X pins σ H s) : H s.heap.objs.size = none := I.hok.fresh (Nat.le_refl _)
theorem Inv.lstM (I : Inv X pins σ H s) (hH : H l = some (.lst xs)) : xs.length ≤ sizeLine ∧ ∃ (its : List Value) (n : Nat), Vals xs its ∧ xs.length = its.length ∧ s.heap.get? l = some { cls := .type "list", data := .seq its.toArray n } := by
  obtain ⟨z, its, n, r, e⟩ := I.hok l _ hH
  exact ⟨z, its, n, r, r.length, e⟩
theorem notLongL {n : Nat} (h : n ≤ sizeLine) : Builtin.List.listTooLong n = false := by
  unfold Builtin.List.listTooLong
  exact decide_eq_false (by omega)
end
section
variable {X : Cx}
def rAppend : V → List V → Hp → VK → Prop := fun x vs H Q => ∃ l xs y, x = .ref l ∧ vs = [y] ∧ H l = some (.lst xs) ∧ xs.length < sizeLine ∧ Q .non (upd H l (.lst (xs ++ [y])))
theorem mt_append : MtM X "list.append" rAppend := by
  intro pins s σ H x vs v us Q I rx rv h
  obtain ⟨l, xs, y, rfl, rfl, hH, hz, q⟩ := h
  cases rx
  obtain ⟨u, rfl, ru⟩ := rv.one
  obtain ⟨z, its, n, r, hl, e⟩ := I.lstM hH
  refine call_meets F.slot_list_append ⟨_, e, rfl⟩ F.entry_list_append (F.args_list_append_2 _ _) (PySem.list_append l its.toArray n u (by rw [List.size_toArray]; omega)) ⟨e, ?_⟩
  refine ⟨.non, _, I.lset (its' := its ++ [u]) hH e (by simp) (r.append (.cons ru .nil)) ?_, rfl, q⟩
  rw [List.length_append, List.length_singleton]
  omega
def rExtend : V → List V → Hp → VK → Prop := fun x vs H Q => ∃ l b xs zs, x = .ref l ∧ vs = [.ref b] ∧ H l = some (.lst xs) ∧ H b = some (.lst zs) ∧ xs.length + zs.length ≤ sizeLine ∧ Q .non (upd H l (.lst (xs ++ zs)))
theorem mt_extend : MtM X "list.extend" rExtend := by
  intro pins s σ H x vs v us Q I rx rv h
  obtain ⟨l, b, xs, zs, rfl, rfl, hH, hB, hz, q⟩ := h
  cases rx
  obtain ⟨u, rfl, ru⟩ := rv.one
  cases ru
  obtain ⟨z, its, n, r, hl, e⟩ := I.lstM hH
  obtain ⟨z2, its2, n2, r2, hl2, e2⟩ := I.lstM hB
  have hsz : its.toArray.size + its2.toArray.size ≤ sizeLine := by rw [List.size_toArray, List.size_toArray]; omega
  have hlong : ¬ (!its.toArray.isEmpty && Builtin.List.listTooLong (its.toArray.size + its2.toArray.size)) = true := by
    rw [notLongL hsz, Bool.and_false]
    exact Bool.false_ne_true
  refine call_meets F.slot_list_extend ⟨_, e, rfl⟩ F.entry_list_extend (F.args_list_extend_2 _ _)
    (AutoSeq1.list_extend_list_list_0 l its.toArray n b its2.toArray n2 hlong (by rw [List.size_toArray]; omega) (by omega)) ⟨e, e2, ?_⟩
  refine ⟨.non, _, I.lset (its' := its ++ its2) hH e (by simp) (r.append r2) ?_, rfl, q⟩
  rw [List.length_append]
  omega
def rCat : R2 := fun x y H Q => ∃ l b xs zs, x = .ref l ∧ y = .ref b ∧ H l = some (.lst xs) ∧ H b = some (.lst zs) ∧ xs.length + zs.length ≤ sizeLine ∧ ∀ p, H p = none → Q (.ref p) (upd H p (.lst (xs ++ zs)))
theorem op_cat : OpR X (binaryOp .Add) rCat := by
  intro pins s σ H x y v u Q I rx ry h
  obtain ⟨l, b, xs, zs, rfl, rfl, hH, hB, hz, q⟩ := h
  cases rx
  cases ry
  obtain ⟨z, its, n, r, hl, e⟩ := I.lstM hH
  obtain ⟨z2, its2, n2, r2, hl2, e2⟩ := I.lstM hB
  refine PySem.P.add_list e e2 ?_ (by rw [List.size_toArray, List.size_toArray]; omega)
  have ea : its.toArray ++ its2.toArray = (its ++ its2).toArray := by simp
  rw [ea]
  exact ⟨.ref _, _, I.lnew (t' := s.toks) (r.append r2) (by rw [List.length_append]; omega), rfl, q _ I.fresh⟩
def rRep : R2 := fun x y H Q => ∃ l k xs, x = .ref l ∧ y = .int k ∧ H l = some (.lst xs) ∧ -(2 ^ 63) ≤ k ∧ k < 2 ^ 63 ∧ xs.length * k.toNat ≤ sizeLine ∧
  ∀ p, H p = none → Q (.ref p) (upd H p (.lst (List.replicate k.toNat xs).flatten))
theorem len_rep {α : Type} (xs : List α) (k : Nat) : (List.replicate k xs).flatten.length = k * xs.length := by
  induction k with
  | zero => simp
  | succ k ih => rw [List.replicate_succ, List.flatten_cons, List.length_append, ih, Nat.succ_mul, Nat.add_comm]
theorem op_rep : OpR X (binaryOp .Mult) rRep := by
  intro pins s σ H x y v u Q I rx ry h
  obtain ⟨l, k, xs, rfl, rfl, hH, h1, h2, hz, q⟩ := h
  cases rx
  obtain ⟨t, rfl⟩ := ry
  obtain ⟨z, its, n, r, hl, e⟩ := I.lstM hH
  have hlen : its.toArray.size * k.toNat ≤ sizeLine := by rw [List.size_toArray, ← hl]; exact hz
  have hcap : ¬ its.toArray.size * k.toNat > (2 ^ 63 - 1) / 8 := by
    have : (sizeLine : Nat) ≤ (2 ^ 63 - 1) / 8 := by decide
    omega
  have hfit : ¬ (!Builtin.List.listFitsIndex k) = true := by
    rw [fitsIndex_both h1 h2]
    exact Bool.false_ne_true
  have hlong : ¬ Builtin.List.listTooLong (its.toArray.size * k.toNat) = true := by
    rw [notLongL hlen]
    exact Bool.false_ne_true
  have hnew : List.foldl (fun x1 x2 => x1 ++ x2) #[] (List.replicate (if its.toArray.isEmpty = true then 0 else k.toNat) its.toArray) = (List.replicate k.toNat its).flatten.toArray := by
    have f0 : ∀ m : Nat, List.foldl (fun x1 x2 => x1 ++ x2) #[] (List.replicate m its.toArray) = (List.replicate m its).flatten.toArray := fun m => by
      have := foldl_rep its m []
      rw [List.nil_append] at this
      exact this
    rw [f0]
    cases its with
    | nil => simp
    | cons a r' => rw [if_neg (by simp)]
  refine wpAny_binaryOp_repeat_ref (T := "list") (U := "int") (by decide) ⟨_, e, rfl⟩ (fun s' => typeIs_int s' k t) noFill_list_mul F.fills_int_mul F.slot_int_rmul repeat_list F.slot_int_index.lookup
    (call_meets F.slot_int_rmul (typeIs_int s k t) F.entry_int_rmul (F.args_int_rmul_2 _ _) (int___rmul___int_list k t l its.toArray n)
      ⟨e, rfl, ⟨_, e, rfl⟩, call_meets F.slot_list_mul ⟨_, e, rfl⟩ F.entry_list_mul (F.args_list_mul_2 _ _) (AutoListH.list___mul___list_int_3 l its.toArray n k t hfit hcap hlong) ⟨e, ?_⟩⟩)
  rw [hnew]
  exact ⟨.ref _, _, I.lnew (t' := s.toks) (r.rep k.toNat) (by rw [len_rep, Nat.mul_comm]; exact hz), rfl, q _ I.fresh⟩
end
section
variable {prog : Program} {w : World} {A : Around} {E : Value → Shared → Prop} {s : Shared}
end
section
variable {X : Cx}
end
end L2
namespace L2
open PySem PySem.Spec PyProof.Rows
section
variable {κ : Type} [DecidableEq κ]
theorem RelO.isSome_eq {o : Option V} {u : Option Value} (r : RelO o u) : o.isSome = u.isSome := by
  cases o with
  | none => cases u with
    | none => rfl
    | some _ => exact (show False from r).elim
  | some _ => cases u with
    | none => exact (show False from r).elim
    | some _ => rfl
end
theorem kV_is {P : Program} {w : World} {k : Key} {u : Value} (r : RelV (kV k) u) : (mixKind P w).is k u = true := by
  cases k with
  | inl i => obtain ⟨t, e⟩ := (show ∃ t, u = Value.int i t from r); subst e; exact mixKind_int P w i t
  | inr x => obtain ⟨t, e⟩ := (show ∃ t, u = Value.str x t from r); subst e; exact mixKind_str P w x t
theorem items_are {P : Program} {w : World} : ∀ {ks : List Key} {us : List Value}, Vals (ks.map kV) us → ItemsAre (mixKind P w) ks us
  | [], _, r => by rw [List.map_nil] at r; cases r; exact .nil
  | k :: ks, _, r => by
    rw [List.map_cons] at r
    cases r with
    | cons h t => exact .cons (kV_is h) (items_are t)
section
variable {P : Program} {w : World} {H : Hp} {h : Heap} {a : Addr}
theorem key_of {ks : List Key} (ok : HOk P w H h) (e : H a = some (.tup (ks.map kV))) : (tupleKind (mixKind P w)).is h ks a := by
  obtain ⟨_, its, r, o, h1, h2, n, h3⟩ := (show ObjOk P w H h a (.tup (ks.map kV)) from ok a _ e)
  exact ⟨o, its.toArray, n, h1, h2, h3, by simpa using items_are r⟩
end
section
variable {X : Cx} {pins : List (Addr × Obj)} {σ : St} {H : Hp} {s : Shared} {a : Addr} {y v : V} {u r : Value} {o : Option V} {A : Around} {E : Value → Shared → Prop}
theorem Inv.big (I : Inv X pins σ H s) : sysModules < s.heap.objs.size := by
  have h : mainGlobals < s.heap.objs.size := (I.mod.glob.keeps I.bk).lt
  exact Nat.lt_trans (by decide) h
theorem d_write {h' : Heap} {t' : Nat} {ob : HO} (I : Inv X pins σ H s) (mu : Mut (H a)) (hs : Heap.SameBut a s.heap h') (he : ∃ q, h'.get? a = some q) (new : ObjOk X.prog X.w (upd H a ob) h' a ob) :
    Inv X pins σ (upd H a ob) { s with heap := h', toks := t' } :=
  I.write (x := a) (e := a) mu (.inl rfl) (fun b q hb z => (hs.2 b hb).trans z) he new
end
section
variable {X : Cx} {pins : List (Addr × Obj)} {σ : St} {H : Hp} {s : Shared} {a : Addr} {kvs : List (Key × V)} {k : Key} {u : Value} {A : Around} {E : Value → Shared → Prop}
end
def NoSl (i : Expr) : Prop := ∀ ov iv, subscripted i false ov iv = operate [ov, iv] (getItem ov iv)
theorem subD_of {prog : Program} {w : World} {A : Around} {E : Value → Shared → Prop} {s : Shared} {env : Env} {value slice : Expr} {pos : Pos} {T id : String} {Q : Value → Shared → Prop}
    (hl : typeLookup (.type T) "__getitem__" = pure (some (.builtin id))) (hs : NoSl slice)
    (h : wpAny (model prog w) A (eval value env) (fun o s₁ => wpAny (model prog w) A (eval slice env) (fun i s₂ => s₂.TypeIs o T ∧ wpAny (model prog w) A (getItem o i) Q E s₂) E s₁) E s) :
    wpAny (model prog w) A (eval (.Subscript value slice pos) env) Q E s := by
  refine Subscript_ (wpAny_mono h (fun o s₁ h₁ => wpAny_mono h₁ (fun i s₂ h₂ => ?_) fun _ _ x => x) fun _ _ x => x)
  obtain ⟨hT, h₂⟩ := h₂
  unfold subscriptTail
  refine wpAny_bind ?_
  rw [getitemInPython_of_ne hT.not_modules]
  refine wpAny_bind (wpAny_specialOf hT hl ?_)
  have fin : wpAny (model prog w) A (subscripted slice false o i) (fun r s₃ => wpAny (model prog w) A (letTemporaryGo value o r >>= fun _ => pure r) Q E s₃) E s₂ := by
    rw [hs o i]
    exact wpAny_operating (wpAny_mono h₂ (fun r s₃ h₃ => wpAny_bind (wpAny_letTemporaryGo (wpAny_pure h₃))) fun _ _ x => x)
  first
    | exact wpAny_pure (wpAny_bind fin)
    | exact wpAny_bind (wpAny_pure (wpAny_bind fin))
    | exact wpAny_bind fin
section
variable {X : Cx} {o i e value : Expr} {pos pos' tpos : Pos} {td ty tv : TE}
end
section
variable {X : Cx} {pos : Pos}
end
section
variable {X : Cx} {pins : List (Addr × Obj)} {σ : St} {H : Hp} {s : Shared} {a : Addr} {y d : V} {u r : Value} {o : Option V} {A : Around} {E : Value → Shared → Prop}
end
section
variable {X : Cx} {o e f : Expr} {apos cpos : Pos} {td ty tx : TE}
end
section
variable {X : Cx} {pins : List (Addr × Obj)} {σ : St} {H : Hp} {s : Shared} {a : Addr} {kvs : List (Key × V)} {A : Around} {E : Value → Shared → Prop}
end
section
variable {X : Cx} {pins : List (Addr × Obj)} {σ : St} {H : Hp} {s : Shared} {a : Addr} {y : V} {u : Value} {A : Around} {E : Value → Shared → Prop}
end
end L2
namespace Att
open PySem PySem.W PySem.Calls PyProof.Rows
theorem ints_of_wellAll {P : Params} {h : Heap} : ∀ (ns : List Int) (vs : List Value), WellAll P h vs (ns.map WData.int) → IntsAre vs ns := by
  intro ns
  induction ns with
  | nil =>
    intro vs w
    rw [List.map_nil] at w
    cases w
    exact .nil
  | cons n ns ih =>
    intro vs w
    rw [List.map_cons] at w
    cases w with
    | cons a b =>
      cases a
      exact .cons _ _ (ih _ b)
theorem script_of {l : OpenLaw} {n : Nat} (hn : l.most = some n) {P : Params} {h : Heap} {args : List WData} {vals : List Value}
    (hpre : l.row.toRowW.claim.pre args = true) (hwl : WellAll P h vals args) :
    ∃ a vs ns, vals = [Value.ref a] ∧ args = [WData.list (ns.map WData.int)] ∧ h.get? a = some { cls := .type "list", data := .seq vs.toArray } ∧ IntsAre vs ns ∧ ns.length ≤ n := by
  have hsh : WShape.hasAll [] args [.list .int] = true := (pre_splitW hpre).1
  have hc : l.pre.holds [] { args := args } = true := (pre_splitW hpre).2
  obtain ⟨d, r, rfl, h1, h2⟩ := hasAllW_cons hsh
  obtain rfl := hasAllW_nil h2
  obtain ⟨xs, rfl, h3⟩ := hasW_list h1
  obtain ⟨ns, rfl⟩ := items_int h3
  have hlen : ns.length ≤ n := by
    unfold OpenLaw.pre at hc
    have h4 : (WTm.not (.lt (.lit (.int (n : Int))) (.len (.arg 0)))).holds [] { args := [.list (ns.map .int)] } = true := by
      have h4 := (holds_andW hc).1
      rw [hn] at h4
      exact h4
    have h5 := condW_of h4 (w_not (w_lt w_lit (w_len_list (w_arg rfl))))
    rw [List.length_map] at h5
    refine Nat.le_of_not_lt fun q => ?_
    have q' : (n : Int) < ((ns.length : Nat) : Int) := by omega
    first
      | (rw [decide_eq_true q'] at h5; exact absurd h5 (by decide))
      | (simp at h5; omega)
  cases hwl with
  | cons w1 w2 =>
    cases w2
    cases w1 with
    | list ho hall => exact ⟨_, _, ns, rfl, rfl, ho, ints_of_wellAll ns _ hall, hlen⟩
theorem post_true (l : OpenLaw) (args : List WData) : l.row.toRowW.claim.post args (.bool true) args = true :=
  postW_of (r := l.row.toRowW) (X := (true == true))
    (show WShape.has [] (.bool true) .bool = true by first | rfl | decide | simp [WShape.has, WShape.arms, WShape.armsAll])
    (show (WTm.eq .res (.lit (.bool true))).value [] { args := args, res := some (.bool true), after := args } = some (.bool (true == true)) from w_eq_bool (w_res rfl) w_lit) rfl
theorem attach_call {l : OpenLaw} {n : Nat} {q : Program} {loose : List Str} {XP : (Str → Option Value) → Heap → Prop} {YP : World → Heap → Prop} {d : DefRec}
    (hn : l.most = some n) (hdf : d.params.defaults = [])
    (call : ∀ (w : World) (s₀ s₁ : Shared) (mg mb : Str → Option Value) (fa : Addr) (o : Obj) (pm cd doc : Value) (a : Addr) (vs : List Value) (ns : List Int),
      Ground q loose [] XP w s₀ mg mb s₁.heap → YP w s₁.heap →
      s₁.heap.get? fa = some o → o.data = .func (docDef d.name d.params d.body d.scope pm cd doc) → s₁.heap.CodeRec cd d.name → mg d.name = some (.ref fa) →
      s₁.heap.get? a = some { cls := .type "list", data := .seq vs.toArray } → IntsAre vs ns → ns.length ≤ n → s₁.gens = #[] →
      codeAny (model l.prog w) callerA (.call (.ref fa) ⟨[.ref a], []⟩) (fun r s' => r = .ok (.ret (.bool true)) ∧ OldK s₁.heap s'.heap ∧ s'.os = s₁.os ∧ AllBare s'.gens) s₁) :
    WalkO q loose XP YP l.row.toRowW d [] (fun f vs => PySem.call f vs) := by
  intro w s₀ s₁ mg mb G Y fa o pm cd doc dV kV ho hd hcd hD hmg hg args vals as hpre hlay hrd hwl hlo
  obtain rfl : dV = .none := Dflts.none hD hdf
  obtain rfl : kV = .none := Dflts.noKw hD
  obtain ⟨a, vs, ns, rfl, rfl, hobj, hints, hlen⟩ := script_of hn hpre hwl
  refine enter_call (codeAny_mono (call w s₀ s₁ mg mb fa o pm cd doc a vs ns G Y ho (fd_plain hd) hcd hmg hobj hints hlen hg) fun r s' hq => ?_)
  obtain ⟨rfl, h2, h3, h4⟩ := hq
  exact ⟨.inl ⟨.bool true, .bool true, [], rfl, fun _ => rfl, .bool true, post_true l _, fun _ => ⟨List.Pairwise.nil, fun _ hm => (nomatch hm)⟩⟩, h2, h3, h4⟩
section
variable {prog : Program} {w : World} {A : Around} {E : Value → Shared → Prop} {s : Shared} {K : Frag}
end
end Att
namespace L2
open PySem PySem.Spec PyProof.Rows
theorem vals_ints : ∀ {vs : List Value} {ns : List Int}, IntsAre vs ns → Vals (ns.map V.int) vs
  | _, _, .nil => .nil
  | _, _, .cons n t h => .cons ⟨t, rfl⟩ (vals_ints h)
def Only (H : Hp) : Prop := ∀ b, H b = none ∨ ∃ o xs, H b = some (.frz o (.lst xs))
theorem law_call {P : Program} {w : World} {K : PySem.W.Frag} {mg mb : Str → Option Value} {CX : CXT} {k : Nat} {fa a : Addr} {fd : FuncData} {x : Str} {sp : Sp} {s₁ : Shared} {vs : List Value} {ns : List Int}
    (KX : K.In s₁.heap) (hns : s₁.heap.Ns mainGlobals mg) (hb : s₁.heap.Ns builtinsNs mb) (hbb : ∀ x : Str, x ≠ "__name__" → mb x = bootBuiltins x) (hlim : s₁.heap.NoLimit) (hg : s₁.gens = #[])
    (ha : s₁.heap.get? a = some { cls := .type "list", data := .seq vs.toArray }) (hi : IntsAre vs ns) (hl : ns.length ≤ sizeLine) (hr : Room k callerA)
    (F : ∀ base : Heap, K.In base → base.Ns mainGlobals mg → FnOk P w K mg base CX k fa fd [x] sp) (hbind : ∀ (s : Shared) (u : Value), BindsTo s fd ⟨[u], []⟩ [(x, u)])
    (hsp : ∀ H : Hp, Only H → SqL K H a (ns.map V.int) → sp [.ref a] H (fun v _ => v = .bl true) fun _ _ _ => False)
    (hCX : ∀ H e s', CX [] H s₁ (fun _ _ _ => False) e s' → False) :
    codeAny (model P w) callerA (.call (.ref fa) ⟨[.ref a], []⟩) (fun r s' => r = .ok (.ret (.bool true)) ∧ OldK s₁.heap s'.heap ∧ s'.os = s₁.os ∧ AllBare s'.gens) s₁ := by
  have rv := vals_ints hi
  have lenV := hi.length
  have core : ∀ H : Hp, Only H → SqL K H a (ns.map V.int) → HOk P w H s₁.heap → (∀ b, H b ≠ none → b = a) → (H a ≠ none → K.lookup a = none) →
      codeAny (model P w) callerA (.call (.ref fa) ⟨[.ref a], []⟩) (fun r s' => r = .ok (.ret (.bool true)) ∧ OldK s₁.heap s'.heap ∧ s'.os = s₁.os ∧ AllBare s'.gens) s₁ := by
    intro H hO hS hok hA hK
    have base_of : ∀ {b : Addr} {o : Obj}, s₁.heap.get? b = some o → H b = none → (hidT s₁.heap H).get? b = some o := fun e n => hidT_get e n
    have noA : ∀ {b : Addr} {o : Obj} {es : Array DictEntry} {ep : Nat}, s₁.heap.get? b = some o → o.data = .dict es ep → H b = none := fun {b o es ep} e d => by
      cases q : H b with
      | none => rfl
      | some u =>
        have e' : b = a := hA b (by rw [q]; simp)
        subst e'
        rw [ha] at e; cases e
        have d' : Data.seq vs.toArray _ = Data.dict es ep := d
        cases d'
    have nsK : ∀ {b : Addr} {m : Str → Option Value}, s₁.heap.Ns b m → (hidT s₁.heap H).Ns b m := fun {b m} ⟨o, es, ep, e, d, r⟩ => ⟨o, es, ep, base_of e (noA e d), d, r⟩
    have hKb : K.In (hidT s₁.heap H) := fun b o e => base_of (KX b o e) (by
      cases q : H b with
      | none => rfl
      | some u =>
        have e' : b = a := hA b (by rw [q]; simp)
        subst e'
        rw [hK (by rw [q]; simp)] at e; cases e)
    have hM : Mod K mg (hidT s₁.heap H) := ⟨hKb, nsK hns, ⟨mb, nsK hb, hbb⟩, let ⟨mc, h1, h2⟩ := hlim; ⟨mc, nsK h1, h2⟩⟩
    have e0 : Env0 P w K mg (hidT s₁.heap H) callerA [] s₁ H := ⟨rfl, hM, fun b o e => ⟨(of_hidT e).1, .inl (of_hidT e).2⟩, Nat.le_of_eq (hidT_size _ _), trivial, fun b hb => absurd (show b ∈ ([] : List Addr) from hb) (by simp), hok, .of_eq hg⟩
    refine codeAny_mono ((F _ hKb (nsK hns)).run callerA [] s₁ H ⟨[.ref a], []⟩ [.ref a] [.ref a] _ _ hr e0 (hbind s₁ (.ref a)) (.cons rfl .nil) (hsp H hO hS)) fun r s' h => ?_
    cases r with
    | error e => exact (hCX H e s' h).elim
    | ok fl =>
      cases fl with
      | next => exact False.elim h
      | brk => exact False.elim h
      | cont => exact False.elim h
      | ret u =>
        obtain ⟨v, H', os, bare, un, hok', r', q⟩ := h
        have q' : v = .bl true := q
        subst q'
        obtain rfl : u = Value.bool true := r'
        refine ⟨rfl, OldK.of_keep fun b o e => ?_, os, bare⟩
        cases q : H b with
        | none => exact un.keep b o e q (by intro z; exact absurd (show b ∈ ([] : List Addr) from z) (by simp)) (by simp)
        | some u =>
          rcases hO b with z | ⟨ob, xs, z⟩
          · rw [q] at z; cases z
          · have z2 := un.frzs b ob _ z
            obtain ⟨e1, _⟩ := hok b _ z
            obtain ⟨e2, _⟩ := hok' b _ z2
            rw [e] at e1; cases e1
            exact e2
  cases hk : K.lookup a with
  | some o =>
    have e := KX a o hk
    rw [ha] at e
    cases e
    refine core (fun _ => none) (fun _ => .inl rfl) (.inr ⟨_, vs.toArray, _, hk, rfl, rfl, rfl, by rw [List.size_toArray, lenV]; exact hl, by simpa using rv⟩) (fun b u z => by have z' : (none : Option HO) = some u := z; cases z') (fun b z => absurd rfl z) fun z => absurd rfl z
  | none =>
    refine core (fun b => if b = a then some (.frz { cls := .type "list", data := .seq vs.toArray } (.lst (ns.map V.int))) else none) (fun b => ?_) (.inl (.inr ⟨{ cls := .type "list", data := .seq vs.toArray }, if_pos rfl⟩)) (fun b u z => ?_) (fun b z => ?_) fun _ => hk
    · by_cases hb : b = a
      · exact .inr ⟨_, _, if_pos hb⟩
      · exact .inl (if_neg hb)
    · by_cases hb : b = a
      · have z' := (if_pos hb).symm.trans z
        cases z'
        subst hb
        exact ⟨ha, by rw [List.length_map]; exact hl, vs, _, rv, ha⟩
      · have z' := (if_neg hb).symm.trans z
        cases z'
    · by_cases hb : b = a
      · exact hb
      · exact absurd (if_neg hb) z
end L2
namespace L2
open PySem PySem.Spec PyProof.Rows
theorem walk_of {l : PySem.W.OpenLaw} {n k : Nat} {q : Program} {loose : List Str} {XP : (Str → Option Value) → Heap → Prop} {YP : World → Heap → Prop} {d : DefRec} {K : Params → PySem.W.Frag} {CX : World → CXT} {sp : World → Sp} {x : Str}
    (hn : l.most = some n) (hn2 : n ≤ sizeLine) (hdf : d.params.defaults = []) (hr : Room k callerA)
    (hY : ∀ (w : World) (h : Heap), YP w h → (K w.params).In h)
    (F : ∀ (w : World) (mg : Str → Option Value) (fa : Addr) (h : Heap), (K w.params).In h → h.Ns mainGlobals mg → mg d.name = some (.ref fa) →
      ∃ fd : FuncData, (∀ (s : Shared) (u : Value), BindsTo s fd ⟨[u], []⟩ [(x, u)]) ∧
        ∀ base : Heap, (K w.params).In base → base.Ns mainGlobals mg → FnOk l.prog w (K w.params) mg base (CX w) k fa fd [x] (sp w))
    (hsp : ∀ (w : World) (H : Hp) (a : Addr) (ns : List Int), ns.length ≤ n → Only H → SqL (K w.params) H a (ns.map V.int) → sp w [.ref a] H (fun v _ => v = .bl true) fun _ _ _ => False)
    (hCX : ∀ (w : World) (H : Hp) (s : Shared) (e : Value) (s' : Shared), CX w [] H s (fun _ _ _ => False) e s' → False) :
    PySem.W.WalkO q loose XP YP l.row.toRowW d [] (fun f vs => PySem.call f vs) := by
  refine Att.attach_call hn hdf fun w s₀ s₁ mg mb fa o pm cd doc a vs ns G Y ho hd hcd hmg hobj hints hlen hg => ?_
  have KX := hY w _ Y
  obtain ⟨fd, hb, hF⟩ := F w mg fa _ KX G.T.g hmg
  exact law_call KX G.T.g G.T.b G.T.builtins G.T.nolimit hg hobj hints (Nat.le_trans hlen hn2) hr hF hb (fun H hO hS => hsp w H a ns hlen hO hS) fun H e s' => hCX w H s₁ e s'
theorem walk_ofK {l : PySem.W.OpenLaw} {n k : Nat} {q : Program} {loose : List Str} {XP : (Str → Option Value) → Heap → Prop} {YP : World → Heap → Prop} {d : DefRec} {K : Params → PySem.W.Frag} {CX : CXT} {sp : PySem.W.Frag → Sp} {x : Str}
    (hn : l.most = some n) (hn2 : n ≤ sizeLine) (hdf : d.params.defaults = []) (hr : Room k callerA)
    (hY : ∀ (w : World) (h : Heap), YP w h → (K w.params).In h)
    (F : ∀ (w : World) (mg : Str → Option Value) (fa : Addr) (h : Heap), (K w.params).In h → h.Ns mainGlobals mg → mg d.name = some (.ref fa) →
      ∃ fd : FuncData, (∀ (s : Shared) (u : Value), BindsTo s fd ⟨[u], []⟩ [(x, u)]) ∧
        ∀ base : Heap, (K w.params).In base → base.Ns mainGlobals mg → FnOk l.prog w (K w.params) mg base CX k fa fd [x] (sp (K w.params)))
    (hsp : ∀ (K : PySem.W.Frag) (H : Hp) (a : Addr) (ns : List Int), ns.length ≤ n → Only H → SqL K H a (ns.map V.int) → sp K [.ref a] H (fun v _ => v = .bl true) fun _ _ _ => False)
    (hCX : ∀ (H : Hp) (s : Shared) (e : Value) (s' : Shared), CX [] H s (fun _ _ _ => False) e s' → False) :
    PySem.W.WalkO q loose XP YP l.row.toRowW d [] (fun f vs => PySem.call f vs) :=
  walk_of (K := K) (CX := fun _ => CX) (sp := fun w => sp (K w.params)) hn hn2 hdf hr hY F (fun w H a ns h1 h2 h3 => hsp (K w.params) H a ns h1 h2 h3) fun _ H s e s' => hCX H s e s'
end L2
namespace L2
open PySem PySem.Spec PyProof.Rows
def defArgs (s : Stmt) : Arguments := match s with
  | .FunctionDef _ a _ _ _ _ _ _ _ _ => a
  | _ => { posonlyargs := [], args := [], vararg := none, kwonlyargs := [], kw_defaults := [], kwarg := none, defaults := [] }
def defBody (s : Stmt) : List Stmt := match s with
  | .FunctionDef _ _ b _ _ _ _ _ _ _ => b
  | _ => []
def defScope (s : Stmt) : Scope := match s with
  | .FunctionDef _ _ _ _ _ _ sc _ _ _ => sc
  | _ => { kind := .function, names := [], isGenerator := false, isCoroutine := false }
abbrev CX0 : CXT := fun _ _ _ _ _ _ => False
abbrev E0 : XK := fun _ _ _ => False
theorem pass0 {X : Cx} : Passes CX0 X E0 := fun _ _ _ _ _ _ _ h => h.elim
structure Fun (K : PySem.W.Frag) (x qual : Str) (st : Stmt) (f : Addr) (fd : FuncData) : Prop where
  ex : ∃ (oc : Value) (od : Option Addr) (kV doc pm : Value) (an : Option Addr) (cdv ct : Value) (osl : Array (Option Value)),
    fd = PySem.W.fnOf x qual (defArgs st) (defBody st) (defScope st) .none kV doc pm an cdv ct ∧ K.lookup f = some ⟨oc, od, .func fd, osl⟩ ∧ PySem.W.codeIn K cdv qual = true
  kp : PySem.W.keepIn K (.ref f) = true
section
variable {P : Program} {w : World} {K : PySem.W.Frag} {mg : Str → Option Value} {base : Heap}
theorem Fun.ok {x qual : Str} {st : Stmt} {f : Addr} {fd : FuncData} {N ps : List Str} {k : Nat} {sp : Sp} (F : Fun K x qual st f fd) (S : FnScope N ps (defScope st)) (len : ∀ vs H Q E, sp vs H Q E → vs.length = ps.length)
    (hbody : ∀ (cdv : Value) (A : Around) (outer : List Env) (s : Shared) (H : Hp) (vs : List V) (Q : VK) (E : XK), Room k (A.deeper (envOfC qual (defScope st) s.heap.objs.size f cdv)) → sp vs H Q E →
      ∃ t, PSs (cxOf CX0 P w K mg base N qual (defScope st) f cdv A outer s H E).nox (defBody st) t ∧ t { nx := fun _ H' => Q .non H', rt := Q } (start N vs) H) : FnOk P w K mg base CX0 (k + 1) f fd ps sp := by
  obtain ⟨oc, od, kV, doc, pm, an, cdv, ct, osl, rfl, lk, hcd⟩ := F.ex
  refine fn_of lk hcd S len fun A outer s H vs Q E hr hsp => ?_
  obtain ⟨t, h, q⟩ := hbody cdv A outer s H vs Q E hr hsp
  exact ⟨t, h.nox, q⟩
theorem Fun.binds {x qual : Str} {st : Stmt} {f : Addr} {fd : FuncData} {ps : List Str} (F : Fun K x qual st f fd)
    (h : ∀ (kV doc pm : Value) (an : Option Addr) (cdv ct : Value) (us : List Value), us.length = ps.length → bindArgs (PySem.W.fnOf x qual (defArgs st) (defBody st) (defScope st) .none kV doc pm an cdv ct) ⟨us, []⟩ = pure (ps.zip us)) : Binds K fd ps [] := by
  obtain ⟨oc, od, kV, doc, pm, an, cdv, ct, osl, rfl, lk, hcd⟩ := F.ex
  exact .all (h kV doc pm an cdv ct)
theorem fun_mk {x qual : Str} {st : Stmt} {f : Addr} {oc : Value} {od an : Option Addr} {osl : Array (Option Value)} {kV doc pm cdv ct : Value} (l : K.lookup f = some ⟨oc, od, .func (PySem.W.fnOf x qual (defArgs st) (defBody st) (defScope st) .none kV doc pm an cdv ct), osl⟩)
    (c : PySem.W.codeIn K cdv qual = true) (k : PySem.W.keepIn K (.ref f) = true) : Fun K x qual st f (PySem.W.fnOf x qual (defArgs st) (defBody st) (defScope st) .none kV doc pm an cdv ct) := ⟨⟨oc, od, kV, doc, pm, an, cdv, ct, osl, rfl, l, c⟩, k⟩
end
theorem small1000 {n : Nat} (h : n ≤ 1000) : n < sizeLine := Nat.lt_of_le_of_lt h (by decide)
section
variable {X : Cx}
theorem pv (i : Nat) {x : Str} {pos : Pos} (hN : X.N[i]? = some x := by rfl) (hv : Vis X.env.scope x := by first | exact Or.inl rfl | exact Or.inr (Or.inl rfl) | exact Or.inr (Or.inr rfl)) (hd : (x == ("__debug__" : Str)) = false := by decide)
    (hcd : (x == ("__classdict__" : Str)) = false := by decide) : PE X (.Name x pos) (tVar i) := pe_var hN hv hd hcd
end
def Same (H H' : Hp) : Prop := ∀ b o, H b = some o → H' b = some o
theorem Same.refl (H : Hp) : Same H H := fun _ _ h => h
theorem Same.trans {H H1 H2 : Hp} (a : Same H H1) (b : Same H1 H2) : Same H H2 := fun c o h => b c o (a c o h)
theorem Same.free {H H' : Hp} (e : Same H H') {l : Addr} (h : H' l = Option.none) : H l = Option.none := by
  cases q : H l with
  | none => rfl
  | some o =>
    rw [e l o q] at h
    cases h
section
variable {κ : Type} [DecidableEq κ]
end
end L2
namespace L2
open PySem PySem.Spec PyProof.Rows
section
variable {prog : Program} {w : World} {A : Around} {R : Result → Shared → Prop} {s : Shared}
theorem comp_loop {elt tg iter : Expr} {ifs : List Expr} {sc : Scope} {pos : Pos} {it acc : Value} {ce : Env} (J : Nat → Shared → Prop)
    (turn : ∀ n s, J n s → wpAny (model prog w) A (pyNext it) (fun r s1 => match r with
      | none => R (.ok .next) s1
      | some v => wpAny (model prog w) A (letOwnedTupleGo tg it v) (fun _ s2 => wpAny (model prog w) A (assign tg ce v) (fun _ s3 =>
          wpAny (model prog w) A (forIn ifs true fun c r => if r = true then do let ok ← isTrue c ce (eval c ce); pure (ForInStep.yield ok) else pure (ForInStep.yield r)) (fun ok s4 =>
            if ok = true then
              wpAny (model prog w) A (eval elt ce) (fun x s5 => wpAny (model prog w) A (call (.builtin "list.append") [acc, x]) (fun _ s6 => ∃ m, m < n ∧ J m s6) (fun _ _ => False) s5) (fun _ _ => False) s4
            else ∃ m, m < n ∧ J m s4) (fun _ _ => False) s3) (fun _ _ => False) s2) (fun _ _ => False) s1) (fun _ _ => False) s)
    (n : Nat) (h : J n s) : codeAny (model prog w) A (.compLoop (.ListComp elt [⟨tg, iter, ifs, 0⟩] sc pos) 0 it acc ce) R s := by
  refine codeAny_loop rfl J (fun n s hJ => ?_) n h
  show wpAny _ A ((compTurn (.ListComp elt [⟨tg, iter, ifs, 0⟩] sc pos) 0 it acc ce).onRaise (fun x => do noteFrame x ce; theTreesLotGoes x)) _ _ s
  refine wpAny_noted ?_
  rw [compTurn_list]
  refine wpAny_bind (wpAny_standAt (wpAny_bind (wpAny_mono (turn n s hJ) (fun r s1 h1 => ?_) fun _ _ f => f.elim)))
  cases r with
  | none => exact wpAny_pure h1
  | some v =>
    refine wpAny_bind (wpAny_mono h1 (fun _ s2 h2 => ?_) fun _ _ f => f.elim)
    refine wpAny_bind (wpAny_mono h2 (fun _ s3 h3 => ?_) fun _ _ f => f.elim)
    refine wpAny_bind (wpAny_mono h3 (fun ok s4 h4 => ?_) fun _ _ f => f.elim)
    cases ok with
    | false => exact wpAny_pure ⟨rfl, h4⟩
    | true =>
      refine wpAny_bind (wpAny_bind (wpAny_mono h4 (fun x s5 h5 => ?_) fun _ _ f => f.elim))
      exact wpAny_bind (wpAny_mono h5 (fun _ s6 h6 => wpAny_pure (wpAny_pure ⟨rfl, h6⟩)) fun _ _ f => f.elim)
end
def compCx (X : Cx) (N : List Str) (sc : Scope) (cl : List (Str × Addr)) (s : Shared) (H : Hp) (fp : List Addr) : Cx where
  prog := X.prog
  w := X.w
  K := X.K
  mg := X.mg
  base := X.base
  A := X.A
  N := N
  s₀ := s
  H₀ := H
  env := compEnvC sc cl (s.heap.objs.size + 1) X.env
  outer := X.stack
  stack := X.stack
  ex := fp
  fn := fun _ => false
  calm := X.calm
  pn := []
  xe := fun _ _ => False
def compSt (own : List Str) (fr : List (Str × Nat)) (σ : St) : St := own.map (fun _ => none) ++ fr.map fun p => (σ[p.2]?).join
def KeepS (σ σ' : St) : Prop := σ.length = σ'.length ∧ ∀ (i : Nat) v, σ[i]? = some (some v) → σ'[i]? = some (some v)
def Fresh (g : TG) (σ : St) : Prop := ∀ x H (Q : St → Hp → Prop), g x σ H Q → g x σ H fun σ' H' => KeepS σ σ' ∧ Q σ' H'
theorem KeepS.set {σ : St} {i : Nat} (h : σ[i]? = some none) (v : V) : KeepS σ (σ.set i (some v)) := by
  refine ⟨by simp, fun j u e => ?_⟩
  by_cases hj : i = j
  · subst hj; rw [h] at e; cases e
  · rw [List.getElem?_set_ne hj]; exact e
theorem fresh_name {σ : St} {i : Nat} (h : σ[i]? = some none) : Fresh (gName i) σ := fun x H Q q => ⟨KeepS.set h x, q⟩
theorem fresh_pair {K : PySem.W.Frag} {σ : St} {i j n : Nat} (hi : σ[i]? = some none) (hj : σ[j]? = some none) (hij : i ≠ j) : Fresh (gTup K n (gCons (gName i) (gCons (gName j) gNil))) σ := by
  intro x H Q q
  obtain ⟨a, xs, e1, e2, e3, v, r, e4, w, r', e5, e6, q⟩ := q
  refine ⟨a, xs, e1, e2, e3, v, r, e4, w, r', e5, e6, ?_, q⟩
  have h1 := KeepS.set hi v
  have h2 := KeepS.set (σ := σ.set i (some v)) (i := j) (by rw [List.getElem?_set_ne hij]; exact hj) w
  exact ⟨h1.1.trans h2.1, fun k u e => h2.2 k u (h1.2 k u e)⟩
def PTs (X : Cx) (ifs : List Expr) (t : TT) : Prop :=
  ∀ (pins : List (Addr × Obj)) (s : Shared) (σ : St) (H : Hp) (Q : Bool → Hp → Prop), Inv X pins σ H s → t σ H Q →
    wpAny (model X.prog X.w) X.A (forIn ifs true fun c r => if r = true then do let ok ← isTrue c X.env (eval c X.env); pure (ForInStep.yield ok) else pure (ForInStep.yield r)) (TP X pins σ Q) X.xe s
theorem pts_nil {X : Cx} : PTs X [] (fun _ H Q => Q true H) := fun _ _ _ H _ I h => wpAny_tests_nil ⟨H, I, h⟩
theorem pts_one {X : Cx} {c : Expr} {t : TT} (h : PT X c t) : PTs X [c] t := fun pins s σ H Q I q => wpAny_tests_one (h pins s σ H Q I q)
def LCb (own : List Str) (fr : List (Str × Nat)) (g : TG) (tt : TT) (te : TE) (σ : St) (Q : VK) (J : It) (H1 : Hp) : Prop := ∃ W : Nat → Nat → List V → Hp → Prop, (∃ m, W 0 m [] H1) ∧ ∀ i m ys H, W i m ys H →
  (J.stop i H ∧ ∀ p, H p = none → Q (.ref p) (upd H p (.lst ys))) ∨ (J.go i H ∧ ys.length < sizeLine ∧ ∀ x H', J.yld i H x H' → g x (compSt own fr σ) H' fun σ2 H2 => tt σ2 H2 fun b H3 =>
    if b = true then te σ2 H3 fun y H4 => ∃ m', m' < m ∧ W (i + 1) m' (ys ++ [y]) H4 else ∃ m', m' < m ∧ W (i + 1) m' ys H3)
def tLC (own : List Str) (fr : List (Str × Nat)) (wi : TI) (g : TG) (tt : TT) (te : TE) : TE := fun σ H Q => wi σ H fun J H1 => LCb own fr g tt te σ Q J H1
abbrev accObj (us : List Value) : Obj := { cls := .type "list", data := .seq us.toArray us.length }
theorem acc_snoc (us : List Value) (u : Value) : ({ cls := .type "list", data := .seq (us.toArray.push u) (us.length + 1) } : Obj) = accObj (us ++ [u]) := by
  unfold accObj
  rw [List.length_append, List.length_singleton, List.push_toArray]
structure Caps (X : Cx) (sc : Scope) (cl : List (Str × Addr)) (fr : List (Str × Nat)) : Prop where
  clos : closureFor sc X.env = pure cl
  sub : ∀ x c, cl.lookup x = some c → X.env.cells.lookup x = some c
  has : ∀ x, ((relabel sc X.env).names.lookup x = some .cell ∨ (relabel sc X.env).names.lookup x = some .free) → ∃ c, cl.lookup x = some c
  cap : ∀ p ∈ fr, X.N[p.2]? = some p.1 ∧ X.env.kindOf p.1 ≠ some .local ∧ Vis X.env.scope p.1 ∧ ((relabel sc X.env).names.lookup p.1 = some .cell ∨ (relabel sc X.env).names.lookup p.1 = some .free)
structure CompSc (sc : Scope) : Prop where
  kind : sc.kind = .function
  cell : ∀ y ∈ sc.names, y.2 ≠ .cell
  nms : ∀ y ∈ sc.names, y.2 = .local → sc.names.lookup y.1 = some .local
section
variable {X : Cx}
theorem Inv.stkNot {pins : List (Addr × Obj)} {σ : St} {H : Hp} {s : Shared} (I : Inv X pins σ H s) {b : Addr} (h1 : b ≠ X.env.locals) (h2 : b ∉ X.fs) : b ∉ frs X.stack := fun z => by
  rcases List.mem_cons.mp (I.stkSub b z) with e | e
  · exact h1 e
  · exact h2 e
theorem compSt_get {own : List Str} {fr : List (Str × Nat)} {σ : St} {N : List Str} (hN : N = own ++ fr.map (·.1)) {i : Nat} {x : Str} {v : V} (h1 : N[i]? = some x) (h2 : (compSt own fr σ)[i]? = some (some v)) :
    ∃ p ∈ fr, p.1 = x ∧ σ[p.2]? = some (some v) := by
  unfold compSt at h2
  subst hN
  by_cases hi : i < own.length
  · rw [List.getElem?_append_left (by simpa using hi), List.getElem?_map] at h2
    rw [List.getElem?_eq_getElem hi] at h2
    cases h2
  · rw [List.getElem?_append_right (by simpa using hi), List.length_map, List.getElem?_map] at h2
    rw [List.getElem?_append_right (by simpa using hi), List.getElem?_map] at h1
    cases e : fr[i - own.length]? with
    | none => rw [e] at h1; cases h1
    | some p =>
      rw [e] at h1 h2
      refine ⟨p, List.mem_of_getElem? e, Option.some.inj h1, ?_⟩
      have h2' : (σ[p.2]?).join = some v := Option.some.inj h2
      cases e3 : σ[p.2]? with
      | none => rw [e3] at h2'; cases h2'
      | some o => rw [e3] at h2'; rw [show o = some v from h2']
theorem Inv.block {pins : List (Addr × Obj)} {σ : St} {H : Hp} {s : Shared} {own : List Str} {fr : List (Str × Nat)} {sc : Scope} {cl : List (Str × Addr)} {fp : List Addr} {h1 : Heap} {m : Str → Option Value} {tk : Nat}
    (I : Inv X pins σ H s) (hf : ∀ b ∈ fp, FpOk X pins H b) (hfl : ∀ b ∈ fp, b < s.heap.objs.size) (S : CompSc sc) (C : Caps X sc cl fr)
    (old : ∀ b o, s.heap.get? b = some o → h1.get? b = some o) (hn : h1.Ns (s.heap.objs.size + 1) m) (hD : h1.get? s.heap.objs.size = some (accObj [])) :
    Inv (compCx X (own ++ fr.map (·.1)) sc cl s H fp) [(s.heap.objs.size, accObj [])] (compSt own fr σ) H { s with heap := h1, toks := tk } := by
  have cellLt : ∀ x c, cl.lookup x = some c → c < s.heap.objs.size := fun x c e => by
    obtain ⟨v, z⟩ := I.cell x c (C.sub x c e)
    exact z.lt
  have sizeC : s.heap.objs.size ≤ s.heap.objs.size + 1 := Nat.le_succ _
  refine ⟨⟨I.ok.mod, S.kind, I.ok.glob, I.ok.blt, sizeC, fun x y c e1 e2 => I.ok.inj x y c (C.sub x c e1) (C.sub y c e2), fun x hx => C.has x hx, fun _ _ z => (by cases z), I.ok.hd, I.ok.frames, .inl rfl, fun b hb => ⟨?_, fun x c e z => ?_⟩,
    I.bs, Nat.le_trans I.ok.bsz I.sz, fun b o e hb => ?_, fun b hb z => ?_, I.stack, I.stkFree⟩, rfl, I.bare, Un.kept old, ⟨m, hn, fun i x v e1 e2 e3 => ?_⟩, fun x c e => ?_, I.hok.fresh sizeC, fun x c e => I.freeC x c (C.sub x c e), fun p hp => ?_, I.hok.kept old, ?_⟩
  · exact Nat.ne_of_lt (Nat.lt_succ_of_lt (hfl b hb))
  · exact (hf b hb).2.2.2.2.1 x c (C.sub x c e) z
  · rcases (hf b hb).2.2.2.1 with z | z
    · exact I.ok.noex b o e z
    · exact absurd (Nat.lt_of_lt_of_le (Heap.lt_size e) (Nat.le_trans I.ok.bsz z)) (Nat.lt_irrefl _)
  · exact I.stkNot (hf b hb).2.1 (hf b hb).2.2.1 z
  · obtain ⟨p, hp, rfl, e4⟩ := compSt_get rfl e1 e2
    obtain ⟨c1, c2, c3, c4⟩ := C.cap p hp
    obtain ⟨m0, hn0, hl⟩ := I.loc
    obtain ⟨u, r, l⟩ := hl p.2 p.1 v c1 e4 c3
    refine ⟨u, r, .inr ⟨c4, ?_⟩⟩
    rcases l with ⟨k, _⟩ | ⟨_, c, hc, ho, hoe, hod⟩
    · exact absurd k c2
    · obtain ⟨c', hc'⟩ := C.has p.1 c4
      have := C.sub p.1 c' hc'
      rw [hc] at this
      cases this
      exact ⟨c, hc', ho, old _ _ hoe, hod⟩
  · obtain ⟨v, o, ho, hd⟩ := I.cell x c (C.sub x c e)
    exact ⟨v, o, old _ _ ho, hd⟩
  · have hp' : p = (s.heap.objs.size, accObj []) := by simpa [compCx] using hp
    subst hp'
    refine ⟨hD, I.hok.fresh (Nat.le_refl _), ?_, ?_, fun v z => by cases z⟩
    · exact Nat.ne_of_lt (Nat.lt_succ_self _)
    · exact I.stkNot (Nat.ne_of_gt I.lt) (I.nofs (Nat.le_refl _))
  · show (compSt own fr σ).length = (own ++ fr.map (·.1)).length
    unfold compSt
    rw [List.length_append, List.length_append, List.length_map, List.length_map, List.length_map]
theorem HOk.track {P : Program} {w : World} {H : Hp} {h : Heap} {a : Addr} {o : HO} (x : HOk P w H h) (hn : H a = none) (new : ObjOk P w (upd H a o) h a o) : HOk P w (upd H a o) h := fun b u e => by
  by_cases hb : b = a
  · subst hb; rw [upd_same] at e; cases e; exact new
  · rw [upd_ne hb] at e
    exact (x b u e).stay (fun c v _ q => q) (fun c q => by rw [upd_ne (ne_of_none q hn)]; exact q) fun c xs q => by rw [upd_ne (ne_of_none q hn)]; exact q
theorem Inv.unblock {pins : List (Addr × Obj)} {σ : St} {H H3 : Hp} {s s4 : Shared} {N : List Str} {σ3 : St} {sc : Scope} {cl : List (Str × Addr)} {fp : List Addr} {h' : Heap} {ys : List V} {us : List Value}
    (I : Inv X pins σ H s) (hf : ∀ b ∈ fp, FpOk X pins H b) (I4 : Inv (compCx X N sc cl s H fp) [(s.heap.objs.size, accObj us)] σ3 H3 s4) (hv : Vals ys us) (hz : ys.length ≤ sizeLine)
    (hs : Heap.SameBut (s.heap.objs.size + 1) s4.heap h') : Inv X pins σ (upd H3 s.heap.objs.size (.lst ys)) { s4 with heap := h' } := by
  obtain ⟨eD, nD, neD, _, _⟩ := I4.pin (s.heap.objs.size, accObj us) (List.mem_append_right _ (by simp))
  have eD : s4.heap.get? s.heap.objs.size = some (accObj us) := eD
  have nD : H3 s.heap.objs.size = none := nD
  have b4 : Un (frs X.stack) fp H H3 s.heap s4.heap := I4.base
  have nC : H3 (s.heap.objs.size + 1) = none := I4.free
  have neC : ∀ b o, s.heap.get? b = some o → b ≠ s.heap.objs.size + 1 := fun b o e => Nat.ne_of_lt (Nat.lt_succ_of_lt (Heap.lt_size e))
  have neD' : ∀ b o, s.heap.get? b = some o → b ≠ s.heap.objs.size := fun b o e => Nat.ne_of_lt (Heap.lt_size e)
  have k4 : ∀ b o, b ≠ s.heap.objs.size + 1 → s4.heap.get? b = some o → h'.get? b = some o := fun b o hb e => hs.extBut b o hb e
  refine I.call' (s' := { s4 with heap := h' }) (ch := fp) I4.os ⟨fun b o e n h1 h2 => k4 b o (neC b o e) (b4.keep b o e n h1 h2), fun b o e n h1 h2 => ?_, fun b o e n h2 => ?_, fun b o e h2 => ?_,
    fun b xs e => ?_, fun b o u e => ?_, fun b ps e => ?_, fun b o xs e n => k4 b o (neC b o e) (b4.tupo b o xs e n)⟩ ?_ I4.bare fun b hb => ⟨(hf b hb).2.2.2.1, (hf b hb).2.1, (hf b hb).2.2.2.2.1, (hf b hb).2.2.2.2.2⟩
  · obtain ⟨sl, q⟩ := b4.slot b o e n h1 h2
    exact ⟨sl, k4 b _ (neC b o e) q⟩
  · rw [upd_ne (neD' b o e)]; exact b4.free b o e n h2
  · obtain ⟨o', q⟩ := b4.there b o e h2
    exact ⟨o', k4 b _ (neC b o e) q⟩
  · have q := b4.tups b xs e
    rw [upd_ne (ne_of_none q nD)]; exact q
  · have q := b4.frzs b o u e
    rw [upd_ne (ne_of_none q nD)]; exact q
  · obtain ⟨more, q⟩ := b4.tbls b ps e
    exact ⟨more, by rw [upd_ne (ne_of_none q nD)]; exact q⟩
  · have hk : HOk X.prog X.w H3 h' := fun b u e => (I4.hok b u e).stay (fun c v hc q => k4 c v (fun z => by
      subst z
      rcases hc with hc | hc
      · subst hc; rw [nC] at e; cases e
      · rw [nC] at hc; cases hc) q) (fun _ q => q) fun _ _ q => q
    refine hk.track nD ⟨hz, us, us.length, hv, k4 _ _ (Nat.ne_of_lt (Nat.lt_succ_self _)) eD⟩
theorem comp_core {elt tg iter : Expr} {ifs : List Expr} {sc : Scope} {pos : Pos} {own : List Str} {fr : List (Str × Nat)} {cl : List (Str × Addr)} {g : TG} {tt : TT} {te : TE} {RR : Value → Addr → Result → Shared → Prop} {E : Value → Shared → Prop}
    {pins : List (Addr × Obj)} {σ : St} {H2 : Hp} {s2 : Shared} {Q : VK} {it : Addr} {fp : List Addr} {tn : Nat → Heap → Prop} {J : It} (hc : X.calm = true) (S : CompSc sc) (C : Caps X sc cl fr)
    (hg : ∀ s H fp, PG (compCx X (own ++ fr.map (·.1)) sc cl s H fp) tg g) (hfr : ∀ σ, Fresh g (compSt own fr σ)) (ht : ∀ s H fp, PTs (compCx X (own ++ fr.map (·.1)) sc cl s H fp) ifs tt)
    (he : ∀ s H fp, PE (compCx X (own ++ fr.map (·.1)) sc cl s H fp) elt te) (I2 : Inv X pins σ H2 s2) (T : Turn X.prog X.w X.K tg J fp it tn) (st2 : tn 0 s2.heap) (f2 : ∀ b ∈ fp, FpOk X pins H2 b) (hW : LCb own fr g tt te σ Q J H2)
    (hRR : ∀ s5 H4 ys us, Inv (compCx X (own ++ fr.map (·.1)) sc cl s2 H2 fp) [(s2.heap.objs.size, accObj us)] (compSt own fr σ) H4 s5 → Vals ys us → ys.length ≤ sizeLine → (∀ p, H4 p = none → Q (.ref p) (upd H4 p (.lst ys))) →
      RR (.ref s2.heap.objs.size) (s2.heap.objs.size + 1) (.ok .next) s5) :
    wpAny (model X.prog X.w) X.A (newList []) (fun acc s3 => wpAny (model X.prog X.w) X.A (newFunctionEnv sc X.env.globals cl [] X.env.qual none .none (some X.env)) (fun ce s4 =>
      codeAny (model X.prog X.w) X.A (.compStart (.ListComp elt [⟨tg, iter, ifs, 0⟩] sc pos) 0 (.ref it) acc { ce with scope := relabel sc X.env }) (RR acc ce.locals) s4) E s3) E s2 := by
  obtain ⟨W, ⟨m0, w0⟩, turn⟩ := hW
  have fpl : ∀ b ∈ fp, b < s2.heap.objs.size := fun b hb => by
    obtain ⟨o, e, _⟩ := T.obj _ _ st2 b hb
    exact Heap.lt_size e
  refine wpAny_newObj_type (wpAny_newFunctionEnv S.cell (by intro y hy; simp at hy) (fun h₁ hns₁ hsb₁ => ?_) S.kind)
  dsimp only at hns₁ hsb₁ ⊢
  generalize hH2 : s2.heap.push { cls := .type "list", dict := none, data := .seq ([] : List Value).toArray } = G at hns₁ hsb₁ ⊢
  have hC : G.objs.size = s2.heap.objs.size + 1 := by rw [← hH2, Heap.size_push]
  rw [hC] at hns₁ hsb₁ ⊢
  have old : ∀ b o, s2.heap.get? b = some o → h₁.get? b = some o := fun b o e => by
    exact hsb₁.extBut b o (Nat.ne_of_lt (Nat.lt_succ_of_lt (Heap.lt_size e))) (Heap.get?_push_of_some _ (hH2 ▸ Heap.get?_push_of_some _ e))
  have hacc : h₁.get? s2.heap.objs.size = some (accObj []) := hsb₁.extBut _ _ (Nat.ne_of_lt (Nat.lt_succ_self _)) (Heap.get?_push_of_some _ (hH2 ▸ Heap.get?_push_size _ rfl))
  have I3 := I2.block (own := own) (tk := s2.toks + ([] : List (Str × Value)).length) f2 fpl S C old hns₁ hacc
  have stat : ∀ {H' : Hp} {us : List Value}, (∀ b ∈ fp, H' b = none) → ∀ b ∈ fp, FpOk (compCx X (own ++ fr.map (·.1)) sc cl s2 H2 fp) [(s2.heap.objs.size, accObj us)] H' b := fun {H' us} hn b hb => by
    obtain ⟨_, g1, g2, g3, g4, g5⟩ := f2 b hb
    have hbl := fpl b hb
    refine ⟨hn b hb, ?_, I2.stkNot g1 g2, .inl hb, fun x c e => g4 x c (C.sub x c e), fun p hp => ?_⟩
    · exact Nat.ne_of_lt (Nat.lt_succ_of_lt hbl)
    · have hp' : p = (s2.heap.objs.size, accObj us) := by simpa [compCx] using hp
      subst hp'
      exact Nat.ne_of_gt hbl
  have loop : ∀ s3 : Shared, s3 = { s2 with heap := h₁, toks := s2.toks + ([] : List (Str × Value)).length } →
      codeAny (model X.prog X.w) X.A (.compLoop (.ListComp elt [⟨tg, iter, ifs, 0⟩] sc pos) 0 (.ref it) (.ref s2.heap.objs.size) (compEnvC sc cl (s2.heap.objs.size + 1) X.env))
        (RR (.ref s2.heap.objs.size) (s2.heap.objs.size + 1)) s3 := by
    rintro s3 rfl
    refine comp_loop (fun n s' => ∃ i ys us H', Vals ys us ∧ Inv (compCx X (own ++ fr.map (·.1)) sc cl s2 H2 fp) [(s2.heap.objs.size, accObj us)] (compSt own fr σ) H' s' ∧ tn i s'.heap ∧ (∀ b ∈ fp, H' b = none) ∧ ys.length ≤ sizeLine ∧ W i n ys H') ?_ m0
      ⟨0, [], [], H2, .nil, I3, T.keep _ _ _ st2 fun b _ o e => old b o e, fun b hb => (f2 b hb).1, Nat.zero_le _, w0⟩
    rintro n s4 ⟨i, ys, us, H4, hv, I4, st4, fr4, hz, w4⟩
    rcases turn i n ys H4 w4 with ⟨stop, fin⟩ | ⟨go, hlt, step⟩
    · refine thn (T.done (compCx X (own ++ fr.map (·.1)) sc cl s2 H2 fp) rfl rfl rfl hc i _ s4 _ H4 _ I4 (stat fr4) st4 stop) fun r s5 ⟨hr, I5⟩ => ?_
      subst hr
      exact hRR s5 H4 ys us I5 hv hz fin
    · refine thn (T.item (compCx X (own ++ fr.map (·.1)) sc cl s2 H2 fp) rfl rfl rfl hc i _ s4 _ H4 _ I4 (stat fr4) st4 go) fun r s5 ⟨u, hr, h5⟩ => ?_
      subst hr
      refine thn h5 fun _ s6 ⟨x, H6, I6, r6, y6, st6, fr6⟩ => ?_
      have I6' := I6.pinned (stat fr6) (T.obj _ _ st6)
      refine thn (hg s2 H2 fp _ s6 _ H6 x u _ I6' r6 (hfr σ x H6 _ (step x H6 y6))) fun _ s7 ⟨σ7, H7, I7, k7, q7⟩ => ?_
      refine thn (ht s2 H2 fp _ s7 σ7 H7 _ I7 q7) fun ok s8 ⟨H8, I8, q8⟩ => ?_
      have fps : ∀ {pins' : List (Addr × Obj)} {σ' : St} {H' : Hp} {s' : Shared}, Inv (compCx X (own ++ fr.map (·.1)) sc cl s2 H2 fp) ([(s2.heap.objs.size, accObj us)] ++ pinsAt fp s6.heap) σ' H' s' → ∀ b ∈ fp, (∀ o, s6.heap.get? b = some o → s'.heap.get? b = some o) ∧ H' b = none := fun {pins' σ' H' s'} I' b hb => by
        obtain ⟨o, e, _⟩ := T.obj _ _ st6 b hb
        have z := I'.pin (b, o) (List.mem_append_right _ (List.mem_append_right _ (mem_pinsAt hb e)))
        exact ⟨fun o' e' => by rw [e] at e'; cases e'; exact z.1, z.2.1⟩
      cases ok with
      | false =>
        rw [if_neg Bool.false_ne_true] at q8
        obtain ⟨m', hm, w8⟩ := q8
        rw [if_neg Bool.false_ne_true]
        exact ⟨m', hm, i + 1, ys, us, H8, hv, (I8.unpinned).weak k7.1 k7.2, T.keep _ _ _ st6 fun b hb o e => (fps (pins' := []) I8 b hb).1 o e, fun b hb => (fps (pins' := []) I8 b hb).2, hz, w8⟩
      | true =>
        rw [if_pos rfl] at q8
        rw [if_pos rfl]
        refine thn (he s2 H2 fp _ s8 σ7 H8 _ I8 q8) fun y s9 ⟨v, H9, I9, r9, m', hm, w9⟩ => ?_
        have pD := I9.pin (s2.heap.objs.size, accObj us) (List.mem_append_right _ (List.mem_append_left _ (by simp)))
        have zD : s9.heap.get? s2.heap.objs.size = some (accObj us) := pD.1
        have nD : H9 s2.heap.objs.size = none := pD.2.1
        refine append_at (hsz := by show us.toArray.size ≤ sizeLine; rw [List.size_toArray, ← hv.length]; exact hz) zD fun h5 hs5 hD5 => ?_
        have Ia : Inv (compCx X (own ++ fr.map (·.1)) sc cl s2 H2 fp) (pinsAt fp s6.heap) σ7 H9 s9 := I9.pins_of fun p hp => I9.pin p (List.mem_append_right _ (List.mem_append_right _ hp))
        have neD : s2.heap.objs.size ≠ s2.heap.objs.size + 1 := Nat.ne_of_lt (Nat.lt_succ_self _)
        have Ib : Inv (compCx X (own ++ fr.map (·.1)) sc cl s2 H2 fp) (pinsAt fp s6.heap) σ7 H9 { s9 with heap := h5, toks := s9.toks } := Ia.turned (it := s2.heap.objs.size) (fun b o hb e => hs5.extBut b o hb e) nD neD (.inr (Nat.le_refl _)) (fun x c e z => by
            obtain ⟨v', q⟩ := I2.cell x c (C.sub x c e)
            have q' := q.lt
            rw [z] at q'
            exact Nat.lt_irrefl _ q') fun p hp z => by
            have hp' : p ∈ pinsAt fp s6.heap := by simpa [compCx] using hp
            have q' := fpl p.1 (of_pinsAt hp').1
            rw [z] at q'
            exact Nat.lt_irrefl _ q'
        have Ic : Inv (compCx X (own ++ fr.map (·.1)) sc cl s2 H2 fp) [(s2.heap.objs.size, accObj (us ++ [y]))] σ7 H9 { s9 with heap := h5, toks := s9.toks } := Ib.pins_of fun p hp => by
          have hp' : p = (s2.heap.objs.size, accObj (us ++ [y])) := by simpa using hp
          subst hp'
          exact ⟨hD5.trans (congrArg some (acc_snoc us y)), nD, neD, pD.2.2.2.1, fun v z => by cases z⟩
        refine ⟨m', hm, i + 1, ys ++ [v], us ++ [y], H9, hv.append (.cons r9 .nil), Ic.weak k7.1 k7.2, T.keep _ _ _ st6 fun b hb o e => ?_, fun b hb => (fps (pins' := []) I9 b hb).2, ?_, w9⟩
        · exact hs5.extBut b o (Nat.ne_of_lt (fpl b hb)) ((fps (pins' := []) I9 b hb).1 o e)
        · rw [List.length_append]; exact hlt
  exact codeAny_compStart_list (loop _ rfl) (T.self _ 0 _ _ _ (T.keep _ _ _ st2 fun b _ o e => old b o e) (loop _ rfl))
theorem pe_lcomp {elt tg iter : Expr} {ifs : List Expr} {sc : Scope} {pos : Pos} {own : List Str} {fr : List (Str × Nat)} {cl : List (Str × Addr)} {wi : TI} {g : TG} {tt : TT} {te : TE} (hc : X.calm = true) (hi : PI X tg iter wi) (S : CompSc sc) (C : Caps X sc cl fr)
    (hg : ∀ s H fp, PG (compCx X (own ++ fr.map (·.1)) sc cl s H fp) tg g) (hfr : ∀ σ, Fresh g (compSt own fr σ)) (ht : ∀ s H fp, PTs (compCx X (own ++ fr.map (·.1)) sc cl s H fp) ifs tt)
    (he : ∀ s H fp, PE (compCx X (own ++ fr.map (·.1)) sc cl s H fp) elt te) (hs : ∀ x, foldedSetIterable iter X.env x = pure x := by intro _; rfl) :
    PE X (.ListComp elt [⟨tg, iter, ifs, 0⟩] sc pos) (tLC own fr wi g tt te) := by
  intro pins s σ H Q I h
  rw [eval_ListComp]
  refine wpAny_comprehension_free (use := none) rfl hs C.clos S.kind S.nms (thn (hi pins s σ H _ I h) fun xv s1 h1 => thn h1 fun itv s2 h2 => ?_)
  obtain ⟨it, fp, tn, J, H2, e, I2, T, st2, f2, hW⟩ := h2
  subst e
  refine comp_core (RR := fun acc A => compPost (model X.prog X.w) X.A X.xe none (EP X pins σ Q) acc A) hc S C hg hfr ht he I2 T st2 f2 hW fun s5 H4 ys us I5 hv hz fin => ?_
  obtain ⟨m5, hn5, _⟩ := id I5.loc
  have nD : H4 s2.heap.objs.size = none := (I5.pin (s2.heap.objs.size, accObj us) (List.mem_append_right _ (by simp))).2.1
  exact ⟨m5, hn5, fun h' hs' => ⟨.ref s2.heap.objs.size, upd H4 s2.heap.objs.size (.lst ys), I2.unblock f2 I5 hv hz hs', rfl, fin _ nD⟩⟩
theorem ps_setC {i : Nat} {y : Str} {py spos : Pos} {elt tg iter : Expr} {ifs : List Expr} {sc : Scope} {pos : Pos} {own : List Str} {fr : List (Str × Nat)} {cl : List (Str × Addr)} {wi : TI} {g : TG} {tt : TT} {te : TE} (hN : X.N.Nodup) (hy : X.N[i]? = some y)
    (hx : Loc X.env.scope y) (hc : X.calm = true) (hi : PI X tg iter wi) (S : CompSc sc) (C : Caps X sc cl fr)
    (hg : ∀ s H fp, PG (compCx X (own ++ fr.map (·.1)) sc cl s H fp) tg g) (hfr : ∀ σ, Fresh g (compSt own fr σ)) (ht : ∀ s H fp, PTs (compCx X (own ++ fr.map (·.1)) sc cl s H fp) ifs tt)
    (he : ∀ s H fp, PE (compCx X (own ++ fr.map (·.1)) sc cl s H fp) elt te) (hs : ∀ x, foldedSetIterable iter X.env x = pure x := by intro _; rfl)
    (hsw : swapsWith (.ListComp elt [⟨tg, iter, ifs, 0⟩] sc pos) (some (.Name y py)) spos.line X.env = pure true := by rfl) (hf : X.fn y = true ∨ X.env.scope.names.lookup y = some .local := by first | exact .inl rfl | exact .inr rfl | assumption) :
    PS X (.Assign [.Name y py] (.ListComp elt [⟨tg, iter, ifs, 0⟩] sc pos) spos) (tAsg (tLC own fr wi g tt te) (gName i)) := by
  intro pins s σ H D I h
  rw [exec_Assign_Name_used _ _ _ _ hsw]
  refine wpAny_bind (wpAny_standAt (wpAny_bind ?_))
  show wpAny _ X.A (do let _ ← comprehension (.ListComp elt [⟨tg, iter, ifs, 0⟩] sc pos) sc X.env _ (newList []) false (eval iter X.env) (some (assign (.Name y py) X.env))) _ _ s
  refine wpAny_bind (thn (wpAny_comprehension_free (use := some (assign (.Name y py) X.env)) (Q := fun _ s' => SP X pins D .next s') rfl hs C.clos S.kind S.nms
    (thn (hi pins s σ H _ I h) fun xv s1 h1 => thn h1 fun itv s2 h2 => ?_)) fun _ s' hq => wpAny_pure (wpAny_pure hq))
  obtain ⟨it, fp, tn, J, H2, e, I2, T, st2, f2, hW⟩ := h2
  subst e
  refine comp_core (RR := fun acc A => compPost (model X.prog X.w) X.A X.xe (some (assign (.Name y py) X.env)) (fun _ s' => SP X pins D .next s') acc A) hc S C hg hfr ht he I2 T st2 f2 hW fun s5 H4 ys us I5 hv hz fin => ?_
  obtain ⟨m5, hn5, _⟩ := id I5.loc
  have nD : H4 s2.heap.objs.size = none := (I5.pin (s2.heap.objs.size, accObj us) (List.mem_append_right _ (by simp))).2.1
  have nC : H4 (s2.heap.objs.size + 1) = none := I5.free
  have I6 : Inv X pins σ (upd H4 s2.heap.objs.size (.lst ys)) s5 := I2.unblock f2 I5 hv hz (Heap.SameBut.refl _ _)
  show wpAny _ X.A (assign (.Name y py) X.env (.ref s2.heap.objs.size)) _ _ s5
  refine wpAny_assign_Name (store_ok2 (v := .ref s2.heap.objs.size) I6 hN hy hx rfl (fun s7 I7 ⟨a, hsb, ha⟩ => ?_) hf)
  have Clt : s2.heap.objs.size < s2.heap.objs.size + 1 := Nat.lt_succ_self _
  have neL : s2.heap.objs.size + 1 ≠ X.env.locals := Nat.ne_of_gt (Nat.lt_trans I2.lt Clt)
  have neCell : ∀ x c, X.env.cells.lookup x = some c → c ≠ s2.heap.objs.size + 1 := fun x c e => by
    obtain ⟨v', q⟩ := I2.cell x c e
    exact Nat.ne_of_lt (Nat.lt_trans q.lt Clt)
  have neA : s2.heap.objs.size + 1 ≠ a := by
    rcases ha with rfl | ha
    · exact neL
    · exact Ne.symm (neCell _ _ ha)
  refine ⟨m5, hn5.sameBut hsb neA, fun h' hs' => ⟨_, _, ?_, fin _ nD⟩⟩
  exact I7.turned (it := s2.heap.objs.size + 1) (t' := s7.toks) (fun b o hb e => hs'.extBut b o hb e) (by rw [upd_ne (Nat.ne_of_gt Clt)]; exact nC) neL (.inr (Nat.le_trans I2.sz (Nat.le_of_lt Clt))) neCell fun p hp z => by
    have q := Heap.lt_size (I2.pin p hp).1
    rw [z] at q
    exact absurd (Nat.lt_trans Clt q) (Nat.lt_irrefl _)
end
end L2
namespace L2
open PySem PySem.Spec PyProof.Rows
section
variable {X : Cx} {tg : Expr}
end
section
variable {X : Cx}
theorem call_isinst : CallR X (.builtin "isinstance") (fun xs H Q => ∃ x T t b, xs = [x, .ty T] ∧ TyOf X.K H x t ∧ PySem.W.kitOne X.K t (.type T) = some b ∧ Q (.bl b) H) := by
  intro pins s σ H xs us Q I r h
  obtain ⟨x, T, t, b, rfl, ty, e, q⟩ := h
  obtain ⟨u, v, rfl, ru, rv⟩ := vals2 r
  cases (show v = Value.type T from rv)
  exact isinst_ok I ru ty e fun tk => ⟨.bl b, H, I.tok tk, rfl, q⟩
end
section
variable {X : Cx} {pins : List (Addr × Obj)} {σ σ' : St} {H H' : Hp} {s s' : Shared}
theorem Inv.track {a : Addr} {o : HO} (I0 : Inv X pins σ H s) (I : Inv X pins σ' H' s') (ha : s.heap.objs.size ≤ a) (hn : H' a = none) (new : ObjOk X.prog X.w (upd H' a o) s'.heap a o) : Inv X pins σ' (upd H' a o) s' := by
  have ne : ∀ b, b < s.heap.objs.size → b ≠ a := fun b hb z => by omega
  refine ⟨I.ok, I.os, I.bare, ⟨I.base.keep, I.base.slot, fun b u e n hx => ?_, I.base.there, fun b xs e => ?_, fun b u xs e => ?_, fun b ps e => ?_, I.base.tupo⟩, I.loc, I.cell, ?_, fun x c e => ?_, fun p hp => ?_, I.hok.track hn new, I.len⟩
  · rw [upd_ne (ne b (Nat.lt_of_lt_of_le (Heap.lt_size e) I0.sz))]
    exact I.base.free b u e n hx
  · have q := I.base.tups b xs e
    rw [upd_ne (ne_of_none q hn)]; exact q
  · have q := I.base.frzs b u xs e
    rw [upd_ne (ne_of_none q hn)]; exact q
  · obtain ⟨more, q⟩ := I.base.tbls b ps e
    exact ⟨more, by rw [upd_ne (ne_of_none q hn)]; exact q⟩
  · rw [upd_ne (ne _ I0.lt)]; exact I.free
  · obtain ⟨v, q⟩ := I0.cell x c e
    rw [upd_ne (ne _ q.lt)]; exact I.freeC x c e
  · obtain ⟨h1, h2, h3⟩ := I.pin p hp
    refine ⟨h1, ?_, h3⟩
    rw [upd_ne (ne _ (Heap.lt_size (I0.pin p hp).1))]; exact h2
theorem Inv.turnedN {t' : Nat} {h' : Heap} {ch : List Addr} (I : Inv X pins σ H s) (hf : ∀ b ∈ ch, FpOk X pins H b) (k : ∀ b o, b ∉ ch → s.heap.get? b = some o → h'.get? b = some o) : Inv X pins σ H { s with heap := h', toks := t' } := by
  have nch : ∀ b u, H b = some u → b ∉ ch := fun b u e z => by rw [(hf b z).1] at e; cases e
  refine I.step (g' := s.gens) (d' := s.drawn) (ch := ch) (fun b hb => ⟨(hf b hb).2.2.2.1, (hf b hb).2.1, (hf b hb).2.2.2.2.1, (hf b hb).2.2.2.2.2⟩) (fun b o _ _ hc e _ => k b o hc e) (fun b o _ _ hc e _ => ⟨o.slots, k b o hc e⟩) (fun _ _ _ _ n => n)
    (fun b o hc e => ⟨o, k b o hc e⟩) (fun _ _ e => e) (fun _ _ _ e => e) (fun b ps e => ⟨#[], by rw [e]; simp⟩) (fun b o xs e n => k b o (nch b _ n) e) (fun m hm => ?_) (fun b u e => ?_) I.bare
  · obtain ⟨o, es, ep, ho, r⟩ := hm
    exact ⟨o, es, ep, k _ o (fun z => (hf _ z).2.1 rfl) ho, r⟩
  · refine (I.hok b u e).stay (fun c v hc q => k c v ?_ q) (fun _ q => q) fun _ _ q => q
    rcases hc with z | z
    · rw [z]; exact nch b u e
    · exact nch c _ z
end
def Ite (K : PySem.W.Frag) (a : Addr) : It :=
  ⟨fun i H => ∃ xs x, SqL K H a xs ∧ xs[i]? = some x, fun i H x H' => ∃ p v, H p = none ∧ (∀ xs, SqL K H a xs → xs[i]? = some v) ∧ x = .ref p ∧ H' = upd H p (.tup [.int i, v]), fun i H => ∃ xs, SqL K H a xs ∧ xs.length = i⟩
theorem turn_enum {P : Program} {w : World} {K : PySem.W.Frag} {es : List Expr} {k : Nat} {tp : Pos} (a it e : Addr) (hae : a ≠ e) (hai : a ≠ it) (hei : e ≠ it) :
    Turn P w K (.Tuple es k tp) (Ite K a) [e, it] e (fun i h => (∃ old, IsEnum h e it i old) ∧ h.IsListIter it a i) where
  mem := by simp
  obj := fun i h st b hb => by
    rcases List.mem_cons.mp hb with rfl | hb
    · obtain ⟨⟨old, q⟩, _⟩ := st
      exact ⟨_, q, fun v z => by cases z⟩
    · have q : b = it := by simpa using hb
      subst q
      obtain ⟨_, o, q, c, d⟩ := st
      exact ⟨o, q, fun v z => by rw [d] at z; cases z⟩
  keep := fun i h h' st kk => ⟨let ⟨old, q⟩ := st.1; ⟨old, kk e (by simp) _ q⟩, st.2.at fun o q => kk it (by simp) o q⟩
  item := by
    intro X hP hw hK hc i pins s σ H E I hf st hg
    subst hP hw hK
    obtain ⟨xs, x, hq, hx⟩ := hg
    obtain ⟨its, rv, p, hz⟩ := I.list hq
    obtain ⟨u, hu, ru⟩ := rv.get hx
    obtain ⟨⟨old, he⟩, hit⟩ := st
    have hil : i < its.toArray.size := by
      have := (List.getElem?_eq_some_iff.mp hu).1
      simpa using this
    refine wpAny_pyNext_enum_itemD (Draws.list (show X.A.in1.handled = none from I.ok.hd hc) it a hai its.toArray) he ⟨hit, p.isList⟩ hil hei (by simp [hei, Ne.symm hae]) fun x' h' tk hP' ho st' hT hsz hk => ?_
    have ex : x' = u := by
      have q : its.toArray[i]? = some x' := hP'
      have q' : its[i]? = some x' := by simpa using q
      rw [hu] at q'
      exact (Option.some.inj q').symm
    subst ex
    refine ⟨_, rfl, wpAny_letOwnedTupleGo_enum ho fun h'' he'' hs'' => ?_⟩
    have I1 : Inv X pins σ H { s with heap := h'', toks := tk + 1 } := I.turnedN hf fun b o hb q => hs''.extBut b o (fun z => hb (by simp [z])) (hk b o (fun z => hb (by simp [z])) (fun z => hb (by simp [z])) q)
    have hTe : s.heap.objs.size ≠ e := Nat.ne_of_gt (Heap.lt_size he)
    have eT : h''.get? s.heap.objs.size = some { cls := .type "tuple", data := .seq #[.int i tk, x'] } := hs''.extBut _ _ hTe hT
    have nT : H s.heap.objs.size = none := I.hok.fresh (Nat.le_refl _)
    refine ⟨.ref s.heap.objs.size, upd H s.heap.objs.size (.tup [.int i, x]), I.track I1 (Nat.le_refl _) nT ⟨?_, [.int i tk, x'], .cons ⟨tk, rfl⟩ (.cons ru .nil), ⟨_, eT, rfl, _, rfl⟩⟩, rfl, ⟨_, x, nT, fun ys hy => by rw [I.list_inj hy hq]; exact hx, rfl, rfl⟩, ⟨⟨_, by simpa using he''⟩, ?_⟩, fun b hb => ?_⟩
    · show 2 ≤ sizeLine
      decide
    · obtain ⟨o, q, r⟩ := st'.1
      exact ⟨o, hs''.extBut _ _ (Ne.symm hei) q, r⟩
    · obtain ⟨o, q⟩ : ∃ o, s.heap.get? b = some o := by
        rcases List.mem_cons.mp hb with rfl | hb
        · exact ⟨_, he⟩
        · have q : b = it := by simpa using hb
          subst q
          obtain ⟨o, q, _⟩ := hit
          exact ⟨o, q⟩
      rw [upd_ne (Nat.ne_of_lt (Heap.lt_size q))]
      exact (hf b hb).1
  done := by
    intro X hP hw hK hc i pins s σ H E I hf st hg
    subst hP hw hK
    obtain ⟨xs, hq, hx⟩ := hg
    obtain ⟨its, rv, p, hz⟩ := I.list hq
    obtain ⟨⟨old, he⟩, hit⟩ := st
    have hl := rv.length
    have hi : i = its.toArray.size := by rw [List.size_toArray]; omega
    have hD := Draws.list (prog := X.prog) (w := X.w) (show X.A.in1.handled = none from I.ok.hd hc) it a hai its.toArray
    rw [hi] at hit
    exact wpAny_pyNext_enum_endD hD he ⟨hit, p.isList⟩ fun h' eb => ⟨rfl, I.turnedN hf fun b o hb q => eb b o (fun z => hb (by simp [z])) q⟩
  self := fun _ _ _ _ _ st h => let ⟨old, q⟩ := st.1; wpAny_pyIter_enum q h
section
variable {X : Cx}
def iEnum (K : PySem.W.Frag) (ta : TA) : TI := fun σ H R => ta σ H fun vs H1 => ∃ a, vs = [.ref a] ∧ (∃ xs, SqL K H1 a xs) ∧ R (Ite K a) H1
theorem pi_enum {es : List Expr} {k : Nat} {tp : Pos} {a : Expr} {ta : TA} {p pos : Pos} (hg : Gl X "enumerate") (hm : X.mg "enumerate" = none) (ha : PA X [a] ta) (hs : starEach [a] X.env = [(false, eval a X.env)] := by rfl) :
    PI X (.Tuple es k tp) (.Call (.Name "enumerate" p) [a] [] pos) (iEnum X.K ta) := by
  intro pins s σ H R I h
  refine Call_ (ld_blt I hg hm boot_enumerate (PyProof.Rows.callWith_type1 (thn (ha pos pins s σ H _ I h) fun us s1 ⟨vs, H1, I1, r1, q1⟩ => ?_) hs rfl))
  obtain ⟨l, e, ⟨xs, hq⟩, q⟩ := q1
  subst e
  obtain ⟨u, rfl, ru⟩ := vals1 r1
  cases ru
  obtain ⟨its, rv, pl, hz⟩ := I1.list hq
  have hlt : l < s1.heap.objs.size := by obtain ⟨_, e, _⟩ := pl.isList; exact Heap.lt_size e
  refine call_enumerate_list pl.isList fun h' he hit hsz hk => ?_
  refine wpAny_pyIter_enum he ?_
  have I2 : Inv X pins σ H1 { s1 with heap := h' } := I1.kept (t' := s1.toks) hk
  refine ⟨s1.heap.objs.size + 1, [s1.heap.objs.size + 1, s1.heap.objs.size], _, _, H1, rfl, I2, turn_enum l s1.heap.objs.size (s1.heap.objs.size + 1) (Nat.ne_of_lt (Nat.lt_succ_of_lt hlt)) (Nat.ne_of_lt hlt) (Nat.ne_of_gt (Nat.lt_succ_self _)), ⟨⟨_, he⟩, hit⟩, fun b hb => ?_, q⟩
  have hb' : s1.heap.objs.size ≤ b := by
    rcases List.mem_cons.mp hb with rfl | hb
    · exact Nat.le_succ _
    · have e : b = s1.heap.objs.size := by simpa using hb
      exact Nat.le_of_eq e.symm
  exact I1.fpOk hb' (I1.hok.fresh hb')
end
theorem for_enum {K : PySem.W.Frag} {a : Addr} {xs : List V} {g : TG} {tb : TS} {D : Ends} {σ : St} {H : Hp} (Pv : Nat → St → Hp → Prop) (h0 : Pv 0 σ H) (hl : ∀ i σ H, i ≤ xs.length → Pv i σ H → SqL K H a xs)
    (hs : ∀ i x σ H p, xs[i]? = some x → Pv i σ H → H p = none → g (.ref p) σ (upd H p (.tup [.int i, x])) fun σ2 H2 => tb { D with nx := Pv (i + 1), ct := Pv (i + 1), bk := D.nx } σ2 H2) (hd : ∀ σ H, Pv xs.length σ H → D.nx σ H) :
    ∃ W : Nat → Nat → St → Hp → Prop, (∃ m, W 0 m σ H) ∧ ∀ i m σ H, W i m σ H →
      ((Ite K a).stop i H ∧ D.nx σ H) ∨ ((Ite K a).go i H ∧ ∃ N : St → Hp → Prop, (∀ σ' H', N σ' H' → ∃ m', m' < m ∧ W (i + 1) m' σ' H') ∧ ∀ x H', (Ite K a).yld i H x H' → g x σ H' fun σ2 H2 => tb { D with nx := N, ct := N, bk := D.nx } σ2 H2) := by
  refine ⟨fun i m σ H => m = xs.length - i ∧ i ≤ xs.length ∧ Pv i σ H, ⟨xs.length, by simp, Nat.zero_le _, h0⟩, ?_⟩
  rintro i m σ H ⟨rfl, hi, p⟩
  have q := hl i σ H hi p
  by_cases hlt : i < xs.length
  · refine .inr ⟨⟨xs, xs[i], q, by simp [hlt]⟩, Pv (i + 1), fun σ' H' p' => ⟨xs.length - (i + 1), by omega, rfl, hlt, p'⟩, fun x H' y => ?_⟩
    obtain ⟨b, v, hb, hv, rfl, rfl⟩ := y
    exact hs i v σ H b (hv xs q) p hb
  · have e : i = xs.length := by omega
    subst e
    exact .inl ⟨⟨xs, q, rfl⟩, hd σ H p⟩
end L2
namespace L2
open PySem PySem.Spec PyProof.Rows
theorem relabel_kind {sc : Scope} {env : Env} {x : Str} {k : NameKind} (h : (relabel sc env).names.lookup x = some k) : ∃ y ∈ sc.names, y.2 = k ∨ y.2 = .free := by
  have hm := PySem.mem_of_lookup h
  obtain ⟨y, hy, e⟩ := List.mem_map.mp hm
  refine ⟨y, hy, ?_⟩
  obtain ⟨n, k0⟩ := y
  dsimp only at e
  split at e
  · rename_i hc
    rw [Bool.and_eq_true, Bool.and_eq_true] at hc
    exact .inr (beq_iff_eq.mp hc.1.1)
  · cases e
    exact .inl rfl
theorem caps0 {X : Cx} {sc : Scope} (h : ∀ y ∈ sc.names, y.2 ≠ .free ∧ y.2 ≠ .cell) : Caps X sc [] [] where
  clos := closureFor_none fun y hy => (h y hy).1
  sub := fun x c e => by cases e
  has := fun x e => by
    exfalso
    rcases e with e | e <;> obtain ⟨y, hy, z⟩ := relabel_kind e <;> rcases z with z | z
    · exact (h y hy).2 z
    · exact (h y hy).1 z
    · exact (h y hy).1 z
    · exact (h y hy).1 z
  cap := fun p hp => nomatch hp
theorem Same.up {H H' : Hp} {p : Addr} {o : HO} (e : Same H H') (h : H' p = none) : Same H (upd H' p o) := fun b u q => by
  rw [upd_ne (ne_of_none (e b u q) h)]
  exact e b u q
theorem Same.new {H : Hp} {p : Addr} {o : HO} (h : H p = none) : Same H (upd H p o) := (Same.refl H).up h
theorem Same.wr {H H' : Hp} {p : Addr} {o : HO} (e : Same H H') (h : H p = none) : Same H (upd H' p o) := fun b u q => by
  rw [upd_ne (ne_of_none q h)]
  exact e b u q
section
variable {X : Cx}
end
section
variable {X : Cx} {es : List Expr} {t : TA} {pos : Pos}
def tTupA (t : TA) : TE := fun σ H Q => t σ H fun xs H1 => xs.length ≤ sizeLine ∧ ∀ p H', H1 p = none → Same H1 H' → H' p = some (.tup xs) → Q (.ref p) H'
def tLstA (t : TA) : TE := fun σ H Q => t σ H fun xs H1 => xs.length ≤ sizeLine ∧ ∀ p H', H1 p = none → Same H1 H' → H' p = some (.lst xs) → Q (.ref p) H'
theorem pe_tupA {x1} (h : PA X es t) : PE X (.Tuple es x1 pos) (tTupA t) := by
  intro pins s σ H Q I hq
  refine wpAny_Tuple_spliced (thn (h pos pins s σ H _ I hq) fun us s1 ⟨xs, H1, I1, r, z, q⟩ => ⟨by rw [← r.length]; exact z, ?_⟩)
  have hf : H1 s1.heap.objs.size = none := I1.hok.fresh (Nat.le_refl _)
  refine ⟨.ref s1.heap.objs.size, upd H1 s1.heap.objs.size (.tup xs), I1.laid (t' := s1.toks) (fun b u e => Heap.get?_push_of_some _ e) (Nat.le_refl _) ?_, rfl, q _ _ hf (Same.new hf) upd_same⟩
  exact ⟨z, us, r, ⟨_, Heap.get?_push_size _ rfl, rfl, _, rfl⟩⟩
theorem pe_lstA (h : PA X es t) : PE X (.List es pos) (tLstA t) := by
  intro pins s σ H Q I hq
  refine wpAny_List_spliced (thn (h pos pins s σ H _ I hq) fun us s1 ⟨xs, H1, I1, r, z, q⟩ => ⟨by rw [← r.length]; exact z, ?_⟩)
  have hf : H1 s1.heap.objs.size = none := I1.hok.fresh (Nat.le_refl _)
  refine ⟨.ref s1.heap.objs.size, upd H1 s1.heap.objs.size (.lst xs), I1.laid (t' := s1.toks) (fun b u e => Heap.get?_push_of_some _ e) (Nat.le_refl _) ?_, rfl, q _ _ hf (Same.new hf) upd_same⟩
  exact ⟨z, us, 0, r, Heap.get?_push_size _ rfl⟩
theorem OpR.imp {f : Value → Value → Sem Value} {r r' : R2} (h : OpR X f r) (i : ∀ x y H Q, r' x y H Q → r x y H Q) : OpR X f r' := fun pins s σ H x y v u Q I rx ry q => h pins s σ H x y v u Q I rx ry (i x y H Q q)
def rCatA : R2 := fun x y H Q => ∃ l b xs zs, x = .ref l ∧ y = .ref b ∧ H l = some (.lst xs) ∧ H b = some (.lst zs) ∧ xs.length + zs.length ≤ sizeLine ∧ ∀ p H', H p = none → Same H H' → H' p = some (.lst (xs ++ zs)) → Q (.ref p) H'
theorem op_catA : OpR X (binaryOp .Add) rCatA := op_cat.imp fun _ _ _ _ ⟨l, b, xs, zs, h1, h2, h3, h4, h5, q⟩ => ⟨l, b, xs, zs, h1, h2, h3, h4, h5, fun p hp => q p _ hp (Same.new hp) upd_same⟩
end
end L2
namespace L2
open PySem PySem.Spec PyProof.Rows
def clo (env : Env) : List (Str × NameKind) → List (Str × Addr) → List (Str × Addr)
  | [], acc => acc
  | (n, k) :: r, acc => clo env r (if k == .free then (n, (env.cells.lookup n).getD 0) :: acc else acc)
theorem closure_clo {env : Env} {sc : Scope} (h : ∀ y ∈ sc.names, y.2 = .free → ∃ c, env.cells.lookup y.1 = some c) : closureFor sc env = pure (clo env sc.names []) := by
  have all : ∀ (names : List (Str × NameKind)) (acc : List (Str × Addr)), (∀ y ∈ names, y.2 = .free → ∃ c, env.cells.lookup y.1 = some c) →
      (forIn names acc fun x r => (match x with
        | (name, kind) => if (kind == NameKind.free) = true then do
            let a ← cellOf env name
            pure (ForInStep.yield ((name, a) :: r))
          else pure (ForInStep.yield r) : Sem (ForInStep (List (Str × Addr))))) = pure (clo env names acc) := by
    intro names
    induction names with
    | nil => intro acc _; rfl
    | cons x r ih =>
      intro acc hx
      obtain ⟨n, k⟩ := x
      rw [List.forIn_cons]
      cases hk : (k == NameKind.free) with
      | true =>
        obtain ⟨c, hc⟩ := hx (n, k) List.mem_cons_self (beq_iff_eq.mp hk)
        have e : cellOf env n = pure c := by unfold cellOf; rw [hc]
        dsimp only
        rw [if_pos hk, e]
        refine Eq.trans (by first | rfl | simp) ((ih ((n, c) :: acc) fun y hy => hx y (List.mem_cons_of_mem _ hy)).trans ?_)
        show _ = pure (clo env r (if (k == NameKind.free) = true then (n, (env.cells.lookup n).getD 0) :: acc else acc))
        rw [if_pos hk, show env.cells.lookup n = some c from hc]
        rfl
      | false =>
        dsimp only
        rw [if_neg (by rw [hk]; exact Bool.false_ne_true)]
        refine Eq.trans (by first | rfl | simp) ((ih acc fun y hy => hx y (List.mem_cons_of_mem _ hy)).trans ?_)
        show _ = pure (clo env r (if (k == NameKind.free) = true then (n, (env.cells.lookup n).getD 0) :: acc else acc))
        rw [if_neg (by rw [hk]; exact Bool.false_ne_true)]
  have e := all sc.names [] h
  show ((forIn sc.names [] fun x r => (match x with
        | (name, kind) => if (kind == NameKind.free) = true then do
            let a ← cellOf env name
            pure (ForInStep.yield ((name, a) :: r))
          else pure (ForInStep.yield r) : Sem (ForInStep (List (Str × Addr))))) >>= fun cs => pure cs) = _
  rw [e]
  rfl
theorem clo_sub {env : Env} : ∀ {names : List (Str × NameKind)} {acc : List (Str × Addr)}, (∀ y ∈ names, y.2 = .free → ∃ c, env.cells.lookup y.1 = some c) → (∀ x c, acc.lookup x = some c → env.cells.lookup x = some c) →
    ∀ x c, (clo env names acc).lookup x = some c → env.cells.lookup x = some c
  | [], _, _, h => h
  | (n, k) :: r, acc, hx, h => by
    refine clo_sub (names := r) (fun y hy => hx y (List.mem_cons_of_mem _ hy)) fun x c e => ?_
    cases hk : (k == NameKind.free) with
    | true =>
      rw [hk, if_pos rfl] at e
      obtain ⟨c', hc⟩ := hx (n, k) List.mem_cons_self (beq_iff_eq.mp hk)
      rw [List.lookup_cons] at e
      cases hxn : (x == n) with
      | true =>
        rw [hxn] at e
        have q := beq_iff_eq.mp hxn
        subst q
        have e' : (env.cells.lookup x).getD 0 = c := Option.some.inj e
        have hc' : env.cells.lookup x = some c' := hc
        rw [hc'] at e' ⊢
        exact congrArg some e'
      | false => rw [hxn] at e; exact h x c e
    | false => rw [hk, if_neg Bool.false_ne_true] at e; exact h x c e
theorem clo_has {env : Env} {x : Str} : ∀ {names : List (Str × NameKind)} {acc : List (Str × Addr)}, ((x, NameKind.free) ∈ names ∨ ∃ c, acc.lookup x = some c) → ∃ c, (clo env names acc).lookup x = some c
  | [], _, h => h.elim (fun z => nomatch z) id
  | (n, k) :: r, acc, h => by
    refine clo_has (names := r) ?_
    have put : ∀ c', ∃ c, ((n, c') :: acc).lookup x = some c ∨ (x ≠ n ∧ acc.lookup x = none) := fun c' => by
      rw [List.lookup_cons]
      cases hxn : (x == n) with
      | true => exact ⟨c', .inl rfl⟩
      | false =>
        cases ha : acc.lookup x with
        | some c => exact ⟨c, .inl rfl⟩
        | none => exact ⟨0, .inr ⟨fun z => by subst z; simp at hxn, rfl⟩⟩
    rcases h with h | ⟨c, h⟩
    · rcases List.mem_cons.mp h with q | q
      · cases q
        refine .inr ?_
        rw [if_pos (by rfl), List.lookup_cons]
        simp
      · exact .inl q
    · refine .inr ?_
      cases hk : (k == NameKind.free) with
      | true =>
        rw [if_pos (by rfl)]
        obtain ⟨c1, q | q⟩ := put ((env.cells.lookup n).getD 0)
        · exact ⟨c1, q⟩
        · rw [q.2] at h; cases h
      | false => rw [if_neg Bool.false_ne_true]; exact ⟨c, h⟩
theorem relabel_at {sc : Scope} {env : Env} {x : Str} {k : NameKind} (h : (relabel sc env).names.lookup x = some k) : ∃ y ∈ sc.names, y.1 = x ∧ (y.2 = k ∨ y.2 = .free) := by
  have hm := PySem.mem_of_lookup h
  obtain ⟨y, hy, e⟩ := List.mem_map.mp hm
  refine ⟨y, hy, ?_⟩
  obtain ⟨n, k0⟩ := y
  dsimp only at e
  split at e
  · rename_i hc
    rw [Bool.and_eq_true, Bool.and_eq_true] at hc
    cases e
    exact ⟨rfl, .inr (beq_iff_eq.mp hc.1.1)⟩
  · cases e
    exact ⟨rfl, .inl rfl⟩
theorem caps_of {X : Cx} {sc : Scope} {fr : List (Str × Nat)} (hX : ∀ x, X.env.kindOf x = some .cell → ∃ c, X.env.cells.lookup x = some c) (hcell : ∀ y ∈ sc.names, y.2 ≠ .cell)
    (hfree : ∀ y ∈ sc.names, y.2 = .free → X.env.kindOf y.1 = some .cell)
    (hcap : ∀ p ∈ fr, X.N[p.2]? = some p.1 ∧ X.env.kindOf p.1 = some .cell ∧ (relabel sc X.env).names.lookup p.1 = some .cell) : Caps X sc (clo X.env sc.names []) fr where
  clos := closure_clo fun y hy e => hX _ (hfree y hy e)
  sub := clo_sub (fun y hy e => hX _ (hfree y hy e)) fun x c e => by cases e
  has := fun x e => by
    refine clo_has (.inl ?_)
    rcases e with e | e <;> obtain ⟨y, hy, rfl, z⟩ := relabel_at e <;> rcases z with z | z
    · exact absurd z (hcell y hy)
    · rw [← z]; exact hy
    · rw [← z]; exact hy
    · rw [← z]; exact hy
  cap := fun p hp => by
    obtain ⟨h1, h2, h3⟩ := hcap p hp
    exact ⟨h1, by rw [h2]; decide, .inr (.inl h2), .inl h3⟩
theorem caps_def {X : Cx} {sc : Scope} {fr : List (Str × Nat)} (scX : Scope) (N : List Str) (h1 : X.env.scope = scX) (h2 : X.N = N) (hX : ∀ x, X.env.kindOf x = some .cell → ∃ c, X.env.cells.lookup x = some c)
    (hcell : ∀ y ∈ sc.names, y.2 ≠ .cell) (hfree : ∀ y ∈ sc.names, y.2 = .free → scX.names.lookup y.1 = some .cell)
    (hcap : ∀ p ∈ fr, N[p.2]? = some p.1 ∧ scX.names.lookup p.1 = some .cell ∧ (relabel sc { scope := scX, locals := 0, globals := 0, cells := [] }).names.lookup p.1 = some .cell) : Caps X sc (clo X.env sc.names []) fr := by
  refine caps_of hX hcell (fun y hy e => ?_) fun p hp => ?_
  · show X.env.scope.names.lookup y.1 = some .cell
    rw [h1]
    exact hfree y hy e
  · obtain ⟨a, b, c⟩ := hcap p hp
    refine ⟨by rw [h2]; exact a, ?_, ?_⟩
    · show X.env.scope.names.lookup p.1 = some .cell
      rw [h1]
      exact b
    · have e : relabel sc X.env = relabel sc { scope := scX, locals := 0, globals := 0, cells := [] } := by
        unfold relabel Env.kindOf
        rw [h1]
      rw [e]
      exact c
section
variable {X : Cx}
def rRepA : R2 := fun x y H Q => ∃ l k xs, x = .ref l ∧ y = .int k ∧ H l = some (.lst xs) ∧ -(2 ^ 63) ≤ k ∧ k < 2 ^ 63 ∧ xs.length * k.toNat ≤ sizeLine ∧ ∀ p H', H p = none → Same H H' → H' p = some (.lst (List.replicate k.toNat xs).flatten) → Q (.ref p) H'
theorem op_repA : OpR X (binaryOp .Mult) rRepA := op_rep.imp fun _ _ _ _ ⟨l, k, xs, h1, h2, h3, h4, h5, h6, q⟩ => ⟨l, k, xs, h1, h2, h3, h4, h5, h6, fun p hp => q p _ hp (Same.new hp) upd_same⟩
end
end L2
namespace L2
open PySem PySem.Spec PyProof.Rows
theorem lc_any {K : PySem.W.Frag} {a : Addr} {xs : List V} {own : List Str} {fr : List (Str × Nat)} {g : TG} {tt : TT} {te : TE} {σ : St} {H : Hp} {Q : VK} (hz : xs.length ≤ sizeLine) (Pv : Nat → List V → Hp → Prop) (h0 : Pv 0 [] H) (hl : ∀ i ys H, Pv i ys H → SqL K H a xs)
    (hs : ∀ i x ys H' (K1 : V → Hp → Prop) (K0 : Hp → Prop), xs[i]? = some x → Pv i ys H' → (∀ y H4, Pv (i + 1) (ys ++ [y]) H4 → K1 y H4) → (∀ H3, Pv (i + 1) ys H3 → K0 H3) →
      g x (compSt own fr σ) H' fun σ2 H2 => tt σ2 H2 fun b H3 => if b = true then te σ2 H3 K1 else K0 H3)
    (hd : ∀ H' p ys, Pv xs.length ys H' → ys.length ≤ xs.length → H' p = none → Q (.ref p) (upd H' p (.lst ys))) : LCb own fr g tt te σ Q (Itl K a) H := by
  refine ⟨fun i m ys H => m = xs.length - i ∧ i ≤ xs.length ∧ ys.length ≤ i ∧ Pv i ys H, ⟨xs.length, by simp, Nat.zero_le _, Nat.zero_le _, h0⟩, ?_⟩
  rintro i m ys H ⟨rfl, hi, hy, p⟩
  by_cases hlt : i < xs.length
  · refine .inr ⟨⟨xs, xs[i], hl _ _ H p, by simp [hlt]⟩, by omega, fun x H' y => ?_⟩
    obtain ⟨rfl, y⟩ := y
    have hc := y xs (hl _ _ _ p)
    refine hs i x ys H' _ _ hc p (fun y H4 p4 => ⟨xs.length - (i + 1), by omega, rfl, hlt, ?_, p4⟩) fun H3 p3 => ⟨xs.length - (i + 1), by omega, rfl, hlt, by omega, p3⟩
    rw [List.length_append, List.length_singleton]
    omega
  · have e : i = xs.length := by omega
    subst e
    exact .inl ⟨⟨xs, hl _ _ H p, Nat.le_refl _⟩, fun q hq => hd H q ys p hy hq⟩
theorem lc_range {lo : Int} {n : Nat} {own : List Str} {fr : List (Str × Nat)} {g : TG} {tt : TT} {te : TE} {σ : St} {H : Hp} {Q : VK} (hz : n ≤ sizeLine) (Pv : Nat → List V → Hp → Prop) (h0 : Pv 0 [] H)
    (hs : ∀ i ys H' (K1 : V → Hp → Prop) (K0 : Hp → Prop), i < n → Pv i ys H' → (∀ y H4, Pv (i + 1) (ys ++ [y]) H4 → K1 y H4) → (∀ H3, Pv (i + 1) ys H3 → K0 H3) →
      g (.int (lo + i)) (compSt own fr σ) H' fun σ2 H2 => tt σ2 H2 fun b H3 => if b = true then te σ2 H3 K1 else K0 H3)
    (hd : ∀ H' p ys, Pv n ys H' → ys.length ≤ n → H' p = none → Q (.ref p) (upd H' p (.lst ys))) : LCb own fr g tt te σ Q (Itr lo n) H := by
  refine ⟨fun i m ys H => m = n - i ∧ i ≤ n ∧ ys.length ≤ i ∧ Pv i ys H, ⟨n, by simp, Nat.zero_le _, Nat.zero_le _, h0⟩, ?_⟩
  rintro i m ys H ⟨rfl, hi, hy, p⟩
  by_cases hlt : i < n
  · refine .inr ⟨hlt, by omega, fun x H' y => ?_⟩
    obtain ⟨rfl, rfl⟩ := y
    refine hs i ys H' _ _ hlt p (fun y H4 p4 => ⟨n - (i + 1), by omega, rfl, hlt, ?_, p4⟩) fun H3 p3 => ⟨n - (i + 1), by omega, rfl, hlt, by omega, p3⟩
    rw [List.length_append, List.length_singleton]
    omega
  · have e : i = n := by omega
    subst e
    exact .inl ⟨Nat.le_refl _, fun q hq => hd H q ys p hy hq⟩
section
variable {X : Cx} {pins : List (Addr × Obj)} {σ : St} {H : Hp} {s : Shared}
end
section
variable {X : Cx} {K : PySem.W.Frag}
theorem ix_listK (h : X.K = K) : IxR X (rIxL K) := h ▸ ix_list
theorem ix_tupK (h : X.K = K) : IxR X (rIxT K) := h ▸ ix_tup
end
theorem SqL.same {K : PySem.W.Frag} {H H' : Hp} {a : Addr} {xs : List V} (h : SqL K H a xs) (s : Same H H') : SqL K H' a xs := by
  rcases h with (h | ⟨o, h⟩) | h
  · exact .inl (.inl (s _ _ h))
  · exact .inl (.inr ⟨o, s _ _ h⟩)
  · exact .inr h
end L2
namespace L2
open PySem PySem.Spec PyProof.Rows
section
variable {X : Cx}
theorem strs_of : ∀ {ys : List Str} {us : List Value}, Vals (ys.map V.str) us → StrsAre us ys
  | [], _, h => by cases h; exact .nil
  | y :: ys, _, h => by
    cases h with
    | cons r t =>
      obtain ⟨k, rfl⟩ := r
      exact .cons y k (strs_of t)
def rJoin (K : PySem.W.Frag) : V → List V → Hp → VK → Prop := fun x vs H Q => ∃ sep p ys, x = .str sep ∧ vs = [.ref p] ∧ SqL K H p (List.map V.str ys) ∧ (ys.map (·.length)).sum + ys.length * sep.length ≤ 16777216 ∧ Q (.str (Txt.join sep ys)) H
theorem mt_join : MtM X "str.join" (rJoin X.K) := by
  intro pins s σ H x vs v us Q I rx rv h
  obtain ⟨sep, p, ys, rfl, rfl, hq, hz, q⟩ := h
  obtain ⟨t, rfl⟩ := rx
  obtain ⟨u, rfl, ru⟩ := rv.one
  cases ru
  obtain ⟨its, r, pl, _⟩ := I.list hq
  exact join_list pl.isList (strs_of r) hz fun t' k => ⟨.str (Txt.join sep ys), H, I.tok _, ⟨_, rfl⟩, q⟩
end
mutual
inductive DV (K : PySem.W.Frag) (H : Hp) : V → PyData → Prop
  | non : DV K H .non .none
  | bl (b : Bool) : DV K H (.bl b) (.bool b)
  | int (i : Int) : DV K H (.int i) (.int i)
  | str (z : Str) : DV K H (.str z) (.str z)
  | lst {p : Addr} {xs : List V} {ds : List PyData} : SqL K H p xs → DVs K H xs ds → DV K H (.ref p) (.list ds)
  | tup {p : Addr} {xs : List V} {ds : List PyData} : SqT K H p xs → DVs K H xs ds → DV K H (.ref p) (.tuple ds)
inductive DVs (K : PySem.W.Frag) (H : Hp) : List V → List PyData → Prop
  | nil : DVs K H [] []
  | cons {x : V} {xs : List V} {d : PyData} {ds : List PyData} : DV K H x d → DVs K H xs ds → DVs K H (x :: xs) (d :: ds)
end
section
variable {X : Cx} {pins : List (Addr × Obj)} {σ : St} {H H' : Hp} {s : Shared} {K : PySem.W.Frag}
mutual
theorem DV.reads (I : Inv X pins σ H s) : ∀ {x : V} {d : PyData} {v : Value}, DV X.K H x d → RelV x v → ∃ as, Reads s.heap v d as
  | _, _, _, .non, r => by cases r; exact ⟨_, .none⟩
  | _, _, _, .bl b, r => by cases r; exact ⟨_, .bool b⟩
  | _, _, _, .int i, r => by obtain ⟨t, rfl⟩ := r; exact ⟨_, .int i t⟩
  | _, _, _, .str z, r => by obtain ⟨t, rfl⟩ := r; exact ⟨_, .str z t⟩
  | _, _, _, .lst h t, r => by
    cases r
    obtain ⟨its, rv, ⟨o, n, e1, e2, _, e3⟩, _⟩ := I.list h
    obtain ⟨as, ra⟩ := DVs.reads I t rv
    exact ⟨_, .list e1 e2 e3 (by simpa using ra)⟩
  | _, _, _, .tup h t, r => by
    cases r
    obtain ⟨its, rv, ⟨o, e1, e2, n, e3⟩, _⟩ := I.tuple h
    obtain ⟨as, ra⟩ := DVs.reads I t rv
    exact ⟨_, .tuple e1 e2 e3 (by simpa using ra)⟩
theorem DVs.reads (I : Inv X pins σ H s) : ∀ {xs : List V} {ds : List PyData} {vs : List Value}, DVs X.K H xs ds → Vals xs vs → ∃ as, ReadsAll s.heap vs ds as
  | _, _, _, .nil, r => by cases r; exact ⟨_, .nil⟩
  | _, _, _, .cons h t, r => by
    cases r with
    | cons r1 r2 =>
      obtain ⟨as, a⟩ := DV.reads I h r1
      obtain ⟨bs, b⟩ := DVs.reads I t r2
      exact ⟨_, .cons a b⟩
end
def rEqD (K : PySem.W.Frag) (u : Nat) (neg : Bool) : R2 := fun x y H Q => ∃ dx dy, DV K H x dx ∧ DV K H y dy ∧ dx.canLay0 = true ∧ dy.canLay0 = true ∧ min dx.depth dy.depth ≤ u ∧ Q (.bl (if neg then !PyData.eqv dx dy else PyData.eqv dx dy)) H
theorem op_eqD {u : Nat} (hu : X.A.units + u < cLine) : OpR X (compareOp .Eq) (rEqD X.K u false) := by
  intro pins s σ H x y v w Q I rx ry h
  obtain ⟨dx, dy, hx, hy, cx, cy, hd, q⟩ := h
  obtain ⟨as, ra⟩ := hx.reads I rx
  obtain ⟨bs, rb⟩ := hy.reads I ry
  exact SeqAt.compareEq_reads ra rb cx cy (by omega) ⟨.bl _, H, I, rfl, q⟩
theorem op_neD {u : Nat} (hu : X.A.units + u < cLine) : OpR X (compareOp .NotEq) (rEqD X.K u true) := by
  intro pins s σ H x y v w Q I rx ry h
  obtain ⟨dx, dy, hx, hy, cx, cy, hd, q⟩ := h
  obtain ⟨as, ra⟩ := hx.reads I rx
  obtain ⟨bs, rb⟩ := hy.reads I ry
  exact SeqAt.compareNe_reads ra rb cx cy (by omega) ⟨.bl _, H, I, rfl, q⟩
theorem lay_get : ∀ {ds : List PyData} {j : Nat} {d : PyData}, PyData.canLayAll0 ds = true → ds[j]? = some d → d.canLay0 = true
  | [], _, _, _, e => by cases e
  | d :: ds, 0, _, h, e => by
    cases e
    have h' : (d.canLay0 && PyData.canLayAll0 ds) = true := h
    rw [Bool.and_eq_true] at h'
    exact h'.1
  | d :: ds, j + 1, d', h, e => by
    have h' : (d.canLay0 && PyData.canLayAll0 ds) = true := h
    rw [Bool.and_eq_true] at h'
    exact lay_get h'.2 (by simpa using e)
end
end L2
namespace L2
open PySem PySem.Spec PyProof.Rows
section
variable {X : Cx}
end
theorem lc_enum {K : PySem.W.Frag} {a : Addr} {xs : List V} {own : List Str} {fr : List (Str × Nat)} {g : TG} {tt : TT} {te : TE} {σ : St} {H : Hp} {Q : VK} (hz : xs.length ≤ sizeLine) (Pv : Nat → List V → Hp → Prop) (h0 : Pv 0 [] H) (hl : ∀ i zs H, Pv i zs H → SqL K H a xs)
    (hs : ∀ i x zs H' p (K1 : V → Hp → Prop) (K0 : Hp → Prop), xs[i]? = some x → Pv i zs H' → H' p = none → (∀ v H4, Pv (i + 1) (zs ++ [v]) H4 → K1 v H4) → (∀ H3, Pv (i + 1) zs H3 → K0 H3) →
      g (.ref p) (compSt own fr σ) (upd H' p (.tup [.int i, x])) fun σ2 H2 => tt σ2 H2 fun b H3 => if b = true then te σ2 H3 K1 else K0 H3)
    (hd : ∀ H' p zs, Pv xs.length zs H' → zs.length ≤ xs.length → H' p = none → Q (.ref p) (upd H' p (.lst zs))) : LCb own fr g tt te σ Q (Ite K a) H := by
  refine ⟨fun i m zs H => m = xs.length - i ∧ i ≤ xs.length ∧ zs.length ≤ i ∧ Pv i zs H, ⟨xs.length, by simp, Nat.zero_le _, Nat.zero_le _, h0⟩, ?_⟩
  rintro i m zs H ⟨rfl, hi, hy, p⟩
  have q1 := hl _ _ H p
  by_cases hlt : i < xs.length
  · refine .inr ⟨⟨xs, xs[i], q1, by simp [hlt]⟩, by omega, fun v H' y => ?_⟩
    obtain ⟨r, x, hn, e1, rfl, rfl⟩ := y
    refine hs i x zs H r _ _ (e1 xs q1) p hn (fun v H4 p4 => ⟨xs.length - (i + 1), by omega, rfl, hlt, ?_, p4⟩) fun H3 p3 => ⟨xs.length - (i + 1), by omega, rfl, hlt, by omega, p3⟩
    rw [List.length_append, List.length_singleton]
    omega
  · have e : i = xs.length := by omega
    subst e
    exact .inl ⟨⟨xs, q1, rfl⟩, fun q hq => hd H q zs p hy hq⟩
section
variable {X : Cx} {K : PySem.W.Frag} {u : Nat}
theorem op_eqDK (h : X.K = K) (hu : X.A.units + u < cLine) : OpR X (compareOp .Eq) (rEqD K u false) := h ▸ op_eqD hu
end
theorem hu64 {A : Around} {k : Nat} (hr : Room k A) : A.units + 64 < cLine := hr.units
theorem hu61 {A : Around} {k : Nat} (hr : Room k A) : A.units + 3 + 61 < cLine := by have := hr.units; omega
section
variable {X : Cx}
end
end L2
namespace L2
open PySem PySem.Spec PyProof.Rows
section
variable {X : Cx}
end
end L2
namespace L2
open PySem PySem.Spec PyProof.Rows
section
variable {X : Cx} {tg : Expr}
end
end L2
namespace L2
open PySem PySem.Spec PyProof.Rows
section
variable {P : Program} {w : World} {A : Around} {E : Value → Shared → Prop} {s : Shared}
end
end L2
namespace L2
open PySem PySem.Spec PyProof.Rows
section
variable {X : Cx}
end
end L2
namespace L2
open PySem PySem.Spec PyProof.Rows
end L2
namespace L2
open PySem PySem.Spec PyProof.Rows
section
variable {X : Cx}
end
end L2
namespace L2
open PySem PySem.Spec PyProof.Rows
def strV : V → Str
  | .str z => z
  | .int i => toString i
  | _ => ""
section
variable {X : Cx}
theorem call_strV : CallR X (.type "str") (fun xs H Q => ∃ x, xs = [x] ∧ ((∃ z, x = .str z) ∨ ∃ i : Int, x = .int i ∧ i.natAbs.log2 < 1920) ∧ Q (.str (strV x)) H) := by
  intro pins s σ H xs us Q I r h
  obtain ⟨x, rfl, hx, q⟩ := h
  obtain ⟨u, rfl, ru⟩ := vals1 r
  rcases hx with ⟨z, rfl⟩ | ⟨i, rfl, hi⟩
  · obtain ⟨t, rfl⟩ := ru
    exact PySem.P.str_of_str ⟨.str z, H, I, ⟨t, rfl⟩, q⟩
  · obtain ⟨t, rfl⟩ := ru
    exact PySem.P.str_of_int hi ⟨.str _, H, I.tok _, ⟨_, rfl⟩, q⟩
end
section
variable {X : Cx}
end
end L2
set_option maxHeartbeats 4000000
namespace Srt
open PySem PySem.W PyProof.Rows
def Ok {α : Type} (n : Nat) (lt : Nat → Nat → Bool) (P : α → Prop) : KasT α → Prop
  | .ret a => P a
  | .ask i j k => i < n ∧ j < n ∧ Ok n lt P (k (lt i j))
section
variable {α β : Type} {n : Nat} {lt : Nat → Nat → Bool}
theorem Ok.mono {P R : α → Prop} (h : ∀ a, P a → R a) : ∀ {t : KasT α}, Ok n lt P t → Ok n lt R t
  | .ret _, q => h _ q
  | .ask _ _ _, q => ⟨q.1, q.2.1, Ok.mono h q.2.2⟩
theorem Ok.bind {R : β → Prop} {f : α → KasT β} : ∀ {t : KasT α}, Ok n lt (fun a => Ok n lt R (f a)) t → Ok n lt R (t.bind f)
  | .ret _, q => q
  | .ask _ _ k, q => ⟨q.1, q.2.1, Ok.bind (t := k _) q.2.2⟩
theorem Ok.wp {P : α → Prop} {cmp : Nat → Nat → (Bool → Shared → Prop) → Shared → Prop} {s : Shared} {Q : α → Shared → Prop} (hc : ∀ i j C, i < n → j < n → C (lt i j) s → cmp i j C s) (hq : ∀ a, P a → Q a s) :
    ∀ {t : KasT α}, Ok n lt P t → t.kasWp cmp Q s
  | .ret _, q => hq _ q
  | .ask i j k, q => hc i j _ q.1 q.2.1 (Ok.wp hc hq (t := k _) q.2.2)
end
structure Swo (lt : Nat → Nat → Bool) : Prop where
  irr : ∀ a, lt a a = false
  tr : ∀ a b c, lt a b = true → lt b c = true → lt a c = true
  nt : ∀ a b c, lt a c = true → lt a b = true ∨ lt b c = true
section
variable {n : Nat} {lt : Nat → Nat → Bool} (W : Swo lt)
include W
theorem Swo.le_of_lt {a b : Nat} (h : lt a b = true) : lt b a = false := by
  cases e : lt b a with
  | false => rfl
  | true => rw [← W.irr a, ← W.tr a b a h e]
theorem Swo.le_tr {a b c : Nat} (h1 : lt b a = false) (h2 : lt c b = false) : lt c a = false := by
  cases e : lt c a with
  | false => rfl
  | true => rcases W.nt c b a e with q | q
            · rw [q] at h2; cases h2
            · rw [q] at h1; cases h1
theorem Swo.lt_le {a b c : Nat} (h1 : lt a b = true) (h2 : lt c b = false) : lt a c = true := by
  rcases W.nt a c b h1 with q | q
  · exact q
  · rw [q] at h2; cases h2
end
abbrev g (p : Array Nat) (i : Nat) : Nat := p.getD i 0
def Up (lt : Nat → Nat → Bool) (p : Array Nat) (n : Nat) : Prop := ∀ i j, i ≤ j → j < n → lt (g p j) (g p i) = false
def Dn (lt : Nat → Nat → Bool) (p : Array Nat) (n : Nat) : Prop := ∀ i j, i ≤ j → j < n → lt (g p i) (g p j) = false
def Bd (n : Nat) (p : Array Nat) : Prop := p.size = n ∧ ∀ i, g p i < n
theorem g_of {p q : Array Nat} {i j : Nat} (h : p[i]? = q[j]?) : g p i = g q j := by
  unfold g
  rw [Array.getD_eq_getD_getElem?, Array.getD_eq_getD_getElem?, h]
theorem bd_perm {n : Nat} {p q : Array Nat} (hn : 0 < n) (h : q.Perm p) (b : Bd n p) : Bd n q := by
  refine ⟨by rw [h.size_eq]; exact b.1, fun i => ?_⟩
  unfold g
  rw [Array.getD_eq_getD_getElem?]
  cases e : q[i]? with
  | none => exact hn
  | some x =>
    have hx : x ∈ q := Array.mem_of_getElem? e
    have hx2 : x ∈ p := (h.mem_iff).mp hx
    obtain ⟨j, hj, ej⟩ := Array.mem_iff_getElem.mp hx2
    have := b.2 j
    unfold g at this
    rw [Array.getD_eq_getD_getElem?, Array.getElem?_eq_getElem hj, ej] at this
    exact this
section
variable {n : Nat} {lt : Nat → Nat → Bool} (W : Swo lt) (hn : 0 < n)
theorem up_more {p : Array Nat} {k : Nat} (W : Swo lt) (h0 : 1 ≤ k) (h : Up lt p k) (hk : lt (g p k) (g p (k - 1)) = false) : Up lt p (k + 1) := by
  intro i j hij hj
  by_cases e : j = k
  · subst e
    by_cases e2 : i = j
    · subst e2; exact W.irr _
    · exact W.le_tr (h i (j - 1) (by omega) (by omega)) hk
  · exact h i j hij (by omega)
theorem dn_more {p : Array Nat} {k : Nat} (W : Swo lt) (h0 : 1 ≤ k) (h : Dn lt p k) (hk : lt (g p (k - 1)) (g p k) = false) : Dn lt p (k + 1) := by
  intro i j hij hj
  by_cases e : j = k
  · subst e
    by_cases e2 : i = j
    · subst e2; exact W.irr _
    · exact W.le_tr hk (h i (j - 1) (by omega) (by omega))
  · exact h i j hij (by omega)
theorem asc_ok (W : Swo lt) {p : Array Nat} (b : Bd n p) : ∀ (f k : Nat), 1 ≤ k → Up lt p k → Ok n lt (fun m => k ≤ m ∧ m ≤ k + f ∧ Up lt p m ∧ (m < k + f → lt (g p m) (g p (m - 1)) = true)) (kas_asc p f k)
  | 0, k, _, h => ⟨Nat.le_refl _, Nat.le_refl _, h, fun z => absurd z (by simp)⟩
  | f + 1, k, h0, h => by
    refine ⟨b.2 _, b.2 _, ?_⟩
    cases e : lt (p.getD k 0) (p.getD (k - 1) 0) with
    | true =>
      show Ok n lt _ (if true = true then _ else _)
      rw [if_pos rfl]
      exact ⟨Nat.le_refl _, Nat.le_add_right _ _, h, fun _ => e⟩
    | false =>
      show Ok n lt _ (if false = true then _ else _)
      rw [if_neg (by decide)]
      exact (asc_ok W b f (k + 1) (by omega) (up_more W h0 h e)).mono fun m hm => ⟨by omega, by omega, hm.2.2.1, fun z => hm.2.2.2 (by omega)⟩
theorem rev_like {p : Array Nat} {i j : Nat} (W : Swo lt) (hj : j ≤ p.size) (he : ∀ k, i ≤ k → k < j → lt (g p k) (g p (j - 1)) = false ∧ lt (g p (j - 1)) (g p k) = false) (k : Nat) :
    lt (g (kas_rev p i j) k) (g p k) = false ∧ lt (g p k) (g (kas_rev p i j) k) = false := by
  have e := getElem?_mirror_all (i := i) hj k
  by_cases h : i ≤ k ∧ k < j
  · rw [if_pos h] at e
    have e' : g (kas_rev p i j) k = g p (i + j - 1 - k) := g_of e
    rw [e']
    have a := he (i + j - 1 - k) (by omega) (by omega)
    have c := he k h.1 h.2
    exact ⟨W.le_tr c.2 a.1, W.le_tr a.2 c.1⟩
  · rw [if_neg h] at e
    have e' : g (kas_rev p i j) k = g p k := g_of e
    rw [e']
    exact ⟨W.irr _, W.irr _⟩
theorem dn_like {p q : Array Nat} {k : Nat} (W : Swo lt) (hl : ∀ i, lt (g q i) (g p i) = false ∧ lt (g p i) (g q i) = false) (h : Dn lt p k) : Dn lt q k := fun i j hij hj =>
  W.le_tr (W.le_tr (hl j).2 (h i j hij hj)) (hl i).1
theorem rev_up {p : Array Nat} {k : Nat} (hk : k ≤ p.size) (h : Dn lt p k) : Up lt (kas_rev p 0 k) k := by
  intro i j hij hj
  have e1 := getElem?_mirror_all (i := 0) hk i
  have e2 := getElem?_mirror_all (i := 0) hk j
  rw [if_pos ⟨Nat.zero_le _, by omega⟩] at e1 e2
  have e1' : g (kas_rev p 0 k) i = g p (0 + k - 1 - i) := g_of e1
  have e2' : g (kas_rev p 0 k) j = g p (0 + k - 1 - j) := g_of e2
  rw [e1', e2']
  exact h _ _ (by omega) (by omega)
theorem rev_perm (p : Array Nat) (i j : Nat) : (kas_rev p i j).Perm p := mirror_perm p i j _
def Like (lt : Nat → Nat → Bool) (p : Array Nat) (k q : Nat) : Prop := q + 1 ≤ k ∧ ∀ m, k - (q + 1) ≤ m → m < k → lt (g p m) (g p (k - 1)) = false ∧ lt (g p (k - 1)) (g p m) = false
theorem like0 {p : Array Nat} {k : Nat} (W : Swo lt) (h : 1 ≤ k) : Like lt p k 0 := ⟨by omega, fun m h1 h2 => by
  have : m = k - 1 := by omega
  subst this
  exact ⟨W.irr _, W.irr _⟩⟩
theorem desc_ok (W : Swo lt) (hn : 0 < n) : ∀ (f : Nat) (p : Array Nat) (k q : Nat), Bd n p → 1 ≤ k → k + f ≤ n → Dn lt p k → Like lt p k q →
    Ok n lt (fun r => r.1.Perm p ∧ k ≤ r.2.1 ∧ r.2.1 ≤ k + f ∧ Dn lt r.1 r.2.1 ∧ Like lt r.1 r.2.1 r.2.2) (kas_desc f p k q)
  | 0, p, k, q, _, _, _, hd, hl => ⟨.refl _, Nat.le_refl _, Nat.le_refl _, hd, hl⟩
  | f + 1, p, k, q, b, h0, hf, hd, hl => by
    refine ⟨b.2 _, b.2 _, ?_⟩
    cases e : lt (p.getD k 0) (p.getD (k - 1) 0) with
    | true =>
      show Ok n lt _ (if true = true then _ else _)
      rw [if_pos rfl]
      by_cases hq : q > 0
      · rw [if_pos hq]
        have hk : k ≤ p.size := by rw [b.1]; omega
        have lk := rev_like W hk hl.2
        have pm := rev_perm p (k - (q + 1)) k
        have ek : g (kas_rev p (k - (q + 1)) k) k = g p k := g_of (by
          have := getElem?_mirror_all (i := k - (q + 1)) hk k
          rw [if_neg (by omega)] at this
          exact this)
        have d1 : Dn lt (kas_rev p (k - (q + 1)) k) (k + 1) := dn_more W h0 (dn_like W lk hd) (by
          rw [ek]
          exact W.le_tr (W.le_of_lt e) (lk (k - 1)).1)
        exact (desc_ok W hn f _ (k + 1) 0 (bd_perm hn pm b) (by omega) (by omega) d1 (like0 W (by omega))).mono fun r hr => ⟨hr.1.trans pm, by omega, by omega, hr.2.2.2⟩
      · rw [if_neg hq]
        exact (desc_ok W hn f p (k + 1) 0 b (by omega) (by omega) (dn_more W h0 hd (W.le_of_lt e)) (like0 W (by omega))).mono fun r hr => ⟨hr.1, by omega, by omega, hr.2.2.2⟩
    | false =>
      show Ok n lt _ (if false = true then _ else _)
      rw [if_neg (by decide)]
      refine ⟨b.2 _, b.2 _, ?_⟩
      cases e2 : lt (p.getD (k - 1) 0) (p.getD k 0) with
      | true =>
        show Ok n lt _ (if true = true then _ else _)
        rw [if_pos rfl]
        exact ⟨.refl _, Nat.le_refl _, Nat.le_add_right _ _, hd, hl⟩
      | false =>
        show Ok n lt _ (if false = true then _ else _)
        rw [if_neg (by decide)]
        refine (desc_ok W hn f p (k + 1) (q + 1) b (by omega) (by omega) (dn_more W h0 hd e2) ⟨by have := hl.1; omega, fun m h1 h2 => ?_⟩).mono fun r hr => ⟨hr.1, by omega, by omega, hr.2.2.2⟩
        show lt (g p m) (g p k) = false ∧ lt (g p k) (g p m) = false
        by_cases em : m = k
        · subst em; exact ⟨W.irr _, W.irr _⟩
        · have := hl.2 m (by omega) (by omega)
          exact ⟨W.le_tr e2 this.1, W.le_tr this.2 e⟩
theorem tail3_ok (W : Swo lt) (hn : 0 < n) {p : Array Nat} {k : Nat} (b : Bd n p) (h1 : 1 ≤ k) (hk : k ≤ n) (hd : Dn lt p k) : Ok n lt (fun r => 1 ≤ r.1 ∧ r.1 ≤ n ∧ r.2.Perm p ∧ Up lt r.2 r.1) (kas_tail3 k n p) := by
  unfold kas_tail3
  have pm := rev_perm p 0 k
  refine Ok.bind ((asc_ok W (bd_perm hn pm b) (n - k) k h1 (rev_up (by rw [b.1]; exact hk) hd)).mono fun m hm => ?_)
  exact ⟨by omega, by omega, pm, hm.2.2.1⟩
theorem descPart_ok (W : Swo lt) (hn : 0 < n) {p : Array Nat} {k : Nat} (b : Bd n p) (h1 : 1 ≤ k) (hk : k + 1 ≤ n) (hd : Dn lt p (k + 1)) : Ok n lt (fun r => 1 ≤ r.1 ∧ r.1 ≤ n ∧ r.2.Perm p ∧ Up lt r.2 r.1) (kas_descPart k n p) := by
  unfold kas_descPart
  refine Ok.bind ((desc_ok W hn (n - (k + 1)) p (k + 1) 0 b (by omega) (by omega) hd (like0 W (by omega))).mono fun r hr => ?_)
  obtain ⟨pm, a1, a2, dn, lk⟩ := hr
  have br := bd_perm hn pm b
  split
  · have hk' : r.2.1 ≤ r.1.size := by rw [br.1]; omega
    have pm2 := rev_perm r.1 (r.2.1 - (r.2.2 + 1)) r.2.1
    exact (tail3_ok W hn (bd_perm hn pm2 br) (by omega) (by omega) (dn_like W (rev_like W hk' lk.2) dn)).mono fun x hx => ⟨hx.1, hx.2.1, (hx.2.2.1.trans pm2).trans pm, hx.2.2.2⟩
  · exact (tail3_ok W hn br (by omega) (by omega) dn).mono fun x hx => ⟨hx.1, hx.2.1, hx.2.2.1.trans pm, hx.2.2.2⟩
theorem dn_of_like {p : Array Nat} {k : Nat} (W : Swo lt) (h : Up lt p k) (h0 : lt (g p 0) (g p (k - 1)) = false) : Dn lt p k := fun i j hij hj => by
  have a := h 0 i (by omega) (by omega)
  have c := h j (k - 1) (by omega) (by omega)
  exact W.le_tr (W.le_tr c h0) a
theorem count_ok (W : Swo lt) (hn : 0 < n) {p : Array Nat} (b : Bd n p) : Ok n lt (fun r => 1 ≤ r.1 ∧ r.1 ≤ n ∧ r.2.Perm p ∧ Up lt r.2 r.1) (kas_count n p) := by
  unfold kas_count
  have u1 : Up lt p 1 := fun i j hij hj => by
    have : i = j := by omega
    subst this
    exact W.irr _
  refine Ok.bind ((asc_ok W b (n - 1) 1 (by omega) u1).mono fun k hk => ?_)
  obtain ⟨h1, h2, up, h3⟩ := hk
  by_cases e : (k == n) = true
  · rw [if_pos e]
    exact ⟨h1, by omega, .refl _, up⟩
  · rw [if_neg e]
    have hne : k ≠ n := fun z => e (by rw [z]; simp)
    have hlt := h3 (by omega)
    by_cases hk1 : k > 1
    · rw [if_pos hk1]
      refine ⟨b.2 _, b.2 _, ?_⟩
      cases e2 : lt (p.getD 0 0) (p.getD (k - 1) 0) with
      | true =>
        show Ok n lt _ (if true = true then _ else _)
        rw [if_pos rfl]
        exact ⟨h1, by show k ≤ n; omega, .refl _, up⟩
      | false =>
        show Ok n lt _ (if false = true then _ else _)
        rw [if_neg (by decide)]
        have hks : k ≤ p.size := by rw [b.1]; omega
        have dn := dn_of_like W up e2
        have pm := rev_perm p 0 k
        have lk := rev_like (i := 0) W hks fun m _ hm => ⟨dn m (k - 1) (by omega) (by omega) |> fun z => z, up m (k - 1) (by omega) (by omega)⟩
        have ek : g (kas_rev p 0 k) k = g p k := g_of (by
          have := getElem?_mirror_all (i := 0) hks k
          rw [if_neg (by omega)] at this
          exact this)
        have d1 : Dn lt (kas_rev p 0 k) (k + 1) := dn_more W h1 (dn_like W lk dn) (by
          rw [ek]
          exact W.le_tr (W.le_of_lt hlt) (lk (k - 1)).1)
        exact (descPart_ok W hn (bd_perm hn pm b) h1 (by omega) d1).mono fun r hr => ⟨hr.1, hr.2.1, hr.2.2.1.trans pm, hr.2.2.2⟩
    · rw [if_neg hk1]
      have : k = 1 := by omega
      subst this
      have d1 : Dn lt p 1 := fun i j hij hj => by
        have : i = j := by omega
        subst this
        exact W.irr _
      exact descPart_ok W hn b h1 (by omega) (dn_more W h1 d1 (W.le_of_lt hlt))
theorem place_ok (W : Swo lt) {p : Array Nat} {k : Nat} (b : Bd n p) (up : Up lt p k) : ∀ (f l r : Nat), l ≤ r → r ≤ k → r - l ≤ f → (∀ i, i < l → lt (g p k) (g p i) = false) → (∀ i, r ≤ i → i < k → lt (g p k) (g p i) = true) →
    Ok n lt (fun m => m ≤ k ∧ (∀ i, i < m → lt (g p k) (g p i) = false) ∧ ∀ i, m ≤ i → i < k → lt (g p k) (g p i) = true) (kas_place p k f l r)
  | 0, l, r, h1, h2, h3, hl, hr => ⟨by omega, hl, fun i hi hk => hr i (by omega) hk⟩
  | f + 1, l, r, h1, h2, h3, hl, hr => by
    unfold kas_place
    by_cases e : l ≥ r
    · rw [if_pos e]
      exact ⟨by omega, hl, fun i hi hk => hr i (by omega) hk⟩
    · rw [if_neg e]
      refine ⟨b.2 _, b.2 _, ?_⟩
      cases e2 : lt (p.getD k 0) (p.getD ((l + r) / 2) 0) with
      | true =>
        show Ok n lt _ (if true = true then _ else _)
        rw [if_pos rfl]
        exact place_ok W b up f l ((l + r) / 2) (by omega) (by omega) (by omega) hl fun i hi hk => W.lt_le e2 (up _ i hi hk)
      | false =>
        show Ok n lt _ (if false = true then _ else _)
        rw [if_neg (by decide)]
        exact place_ok W b up f ((l + r) / 2 + 1) r (by omega) h2 (by omega) (fun i hi => W.le_tr (up i ((l + r) / 2) (by omega) (by omega)) e2) hr
theorem bin_ok (W : Swo lt) (hn : 0 < n) : ∀ (f : Nat) (p : Array Nat) (k : Nat), Bd n p → k + f = n → Up lt p k → Ok n lt (fun q => q.Perm p ∧ Up lt q n) (kas_bin f p k)
  | 0, p, k, _, hk, up => ⟨.refl _, by rw [← hk]; exact up⟩
  | f + 1, p, k, b, hk, up => by
    unfold kas_bin
    refine Ok.bind ((place_ok W b up k 0 k (Nat.zero_le _) (Nat.le_refl _) (by omega) (fun i hi => absurd hi (by omega)) fun i h1 h2 => absurd h2 (by omega)).mono fun l hl => ?_)
    obtain ⟨l1, l2, l3⟩ := hl
    have pm := bubble_perm p k (k - l)
    have hs : k < p.size := by rw [b.1]; omega
    have at' : ∀ i, g (bubble p k (k - l)) i = if i = l then g p k else if l < i ∧ i ≤ k then g p (i - 1) else g p i := fun i => by
      have e := getElem?_bubble hs (k - l) (by omega) i
      rw [show k - (k - l) = l by omega] at e
      by_cases h1 : i = l
      · rw [if_pos h1] at e ⊢; exact g_of e
      · rw [if_neg h1] at e ⊢
        by_cases h2 : l < i ∧ i ≤ k
        · rw [if_pos h2] at e ⊢; exact g_of e
        · rw [if_neg h2] at e ⊢; exact g_of e
    have up2 : Up lt (bubble p k (k - l)) (k + 1) := by
      intro i j hij hj
      rw [at' i, at' j]
      by_cases i1 : i = l
      · rw [if_pos i1]
        by_cases j1 : j = l
        · rw [if_pos j1]; exact W.irr _
        · rw [if_neg j1, if_pos ⟨by omega, by omega⟩]
          exact W.le_of_lt (l3 (j - 1) (by omega) (by omega))
      · rw [if_neg i1]
        by_cases i2 : l < i ∧ i ≤ k
        · rw [if_pos i2, if_neg (by omega), if_pos ⟨by omega, by omega⟩]
          exact up _ _ (by omega) (by omega)
        · rw [if_neg i2]
          by_cases j1 : j = l
          · rw [if_pos j1]; exact l2 i (by omega)
          · rw [if_neg j1]
            by_cases j2 : l < j ∧ j ≤ k
            · rw [if_pos j2]; exact up _ _ (by omega) (by omega)
            · rw [if_neg j2]; exact up _ _ (by omega) (by omega)
    exact (bin_ok W hn f _ (k + 1) (bd_perm hn pm b) (by omega) up2).mono fun q hq => ⟨hq.1.trans pm, hq.2⟩
theorem sort_ok (W : Swo lt) (hn : 0 < n) : Ok n lt (fun q => q.Perm (List.toArray (List.range n)) ∧ Up lt q n) (kas_sort n) := by
  unfold kas_sort
  have b : Bd n (List.toArray (List.range n)) := by
    refine ⟨by simp, fun i => ?_⟩
    unfold g
    rw [Array.getD_eq_getD_getElem?]
    by_cases h : i < n
    · simp [h]
    · simp [h, hn]
  refine Ok.bind ((count_ok W hn b).mono fun r hr => ?_)
  obtain ⟨h1, h2, pm, up⟩ := hr
  split
  · rename_i hlt
    have e : max r.1 1 = r.1 := by omega
    rw [e]
    exact (bin_ok W hn _ _ _ (bd_perm hn pm b) (by omega) up).mono fun q hq => ⟨hq.1.trans pm, hq.2⟩
  · have e : r.1 = n := by omega
    exact ⟨pm, by rw [← e]; exact up⟩
end
end Srt
set_option maxHeartbeats 4000000
namespace Tim
open PySem PySem.W PyProof.Rows Srt
abbrev S (κ : SortKind) (it : Array Keyed) (p : Array Nat) (pd : Array (Nat × Nat × Nat)) (m : Nat) : SortSt := SortSt.mk' κ (p.map (kas_item it)) pd m none
def Ans (prog : Program) (w : World) (A : Around) (s : Shared) (κ : SortKind) (it : Array Keyed) (n : Nat) (lt : Nat → Nat → Bool) : Prop :=
  ∀ i j (C : Bool → Shared → Prop), i < n → j < n → C (lt i j) s → kas_cmp prog w A κ it i j C s
def In (n : Nat) (p : Array Nat) : Prop := ∀ i, i < p.size → g p i < n
section
variable {prog : Program} {w : World} {A : Around} {E : Value → Shared → Prop} {s : Shared} {κ : SortKind} {it : Array Keyed} {n : Nat} {lt : Nat → Nat → Bool} {p : Array Nat} {pd : Array (Nat × Nat × Nat)} {mg : Nat}
theorem lt_ok (hq : Ans prog w A s κ it n lt) {i j : Nat} {st : SortSt} {Q : Option Bool → SortSt → Prop} (hk : kindOf st = κ) (hi : i < n) (hj : j < n) (h : Q (some (lt i j)) st) : wpS (model prog w) A E s (lt' (kas_item it i) (kas_item it j)) Q st := by
  rw [lt'_eq]
  refine wpS_bind (wpS_get ?_)
  rw [hk]
  refine wpS_bind (wpS_lift (wpAny_attempt (wpAny_mono (hq i j (fun b s' => s' = s ∧ b = lt i j) hi hj ⟨rfl, rfl⟩) (fun c s' hc => ?_) fun _ _ hF => hF.elim)))
  obtain ⟨rfl, rfl⟩ := hc
  exact ⟨rfl, wpS_pure h⟩
theorem map_at {i : Nat} (hi : i < p.size) : (p.map (kas_item it))[i]? = some (kas_item it (g p i)) := by
  have e : g p i = p[i] := by unfold g; simp [Array.getD, hi]
  rw [e]
  simp [hi]
theorem elem_ok {i : Nat} {st : SortSt} {Q : Keyed → SortSt → Prop} (hi : i < p.size) (h : Q (kas_item it (g p i)) st) : wpS (model prog w) A E s (elem' (p.map (kas_item it)) i) Q st := by
  rw [elem'_eq, map_at hi]
  exact wpS_pure h
theorem ltAt_ok (hq : Ans prog w A s κ it n lt) (hb : In n p) {i j : Nat} {Q : Option Bool → SortSt → Prop} (hi : i < p.size) (hj : j < p.size) (h : Q (some (lt (g p i) (g p j))) (S κ it p pd mg)) : wpS (model prog w) A E s (ltAt' i j) Q (S κ it p pd mg) := by
  rw [ltAt'_eq]
  refine wpS_bind (wpS_get ?_)
  exact wpS_bind (elem_ok hi (wpS_bind (elem_ok hj (lt_ok hq rfl (hb i hi) (hb j hj) h))))
end
def UpL (lt : Nat → Nat → Bool) (lo : Nat) (p : Array Nat) (k : Nat) : Prop := ∀ i j, lo ≤ i → i ≤ j → j < k → lt (g p j) (g p i) = false
section
variable {lt : Nat → Nat → Bool} {lo : Nat} {p : Array Nat}
theorem up1 (W : Swo lt) : UpL lt lo p (lo + 1) := fun i j h1 h2 h3 => by
  have : i = j := by omega
  subst this; exact W.irr _
theorem upL_more {k : Nat} (W : Swo lt) (h0 : lo + 1 ≤ k) (h : UpL lt lo p k) (hk : lt (g p k) (g p (k - 1)) = false) : UpL lt lo p (k + 1) := by
  intro i j h1 hij hj
  by_cases e : j = k
  · subst e
    by_cases e2 : i = j
    · subst e2; exact W.irr _
    · exact W.le_tr (h i (j - 1) h1 (by omega) (by omega)) hk
  · exact h i j h1 hij (by omega)
end
section
variable {prog : Program} {w : World} {A : Around} {E : Value → Shared → Prop} {s : Shared} {κ : SortKind} {it : Array Keyed} {n : Nat} {lt : Nat → Nat → Bool} {p : Array Nat} {pd : Array (Nat × Nat × Nat)} {mg : Nat} {lo nrem : Nat}
theorem asc_loop (W : Swo lt) (hq : Ans prog w A s κ it n lt) (hb : In n p) {a : Nat} {Q : AscSt → SortSt → Prop} {f : Nat → AscSt → StateT SortSt Sem (ForInStep AscSt)} (hf : ∀ x (k : Nat), f x (none, k) = (do
      let r ← ltAt' (lo + k) (lo + k - 1)
      match r with
      | some b => if b = true then pure (ForInStep.done (none, k)) else pure (ForInStep.yield (none, k + 1))
      | _ => pure (ForInStep.done (some none, k)))) (ha : 1 ≤ a) (han : a ≤ nrem) (hz : lo + nrem ≤ p.size) (hu : UpL lt lo p (lo + a))
    (h : ∀ k, a ≤ k → k ≤ nrem → UpL lt lo p (lo + k) → (k < nrem → lt (g p (lo + k)) (g p (lo + k - 1)) = true) → Q (none, k) (S κ it p pd mg)) :
    wpS (model prog w) A E s (forIn [a:nrem] ((none, a) : AscSt) f) Q (S κ it p pd mg) := by
  refine wpS_forRange (I := fun x c st' => st' = S κ it p pd mg ∧ c = (none, x) ∧ UpL lt lo p (lo + x)) ?step ?fin ⟨rfl, rfl, hu⟩
  case fin =>
    rintro c st' ⟨rfl, rfl, hs'⟩
    rw [show max a nrem = nrem by omega] at hs' ⊢
    exact h nrem han (Nat.le_refl _) hs' fun z => absurd z (Nat.lt_irrefl _)
  case step =>
    rintro x c st' hax hxn ⟨rfl, rfl, hs'⟩
    rw [hf]
    refine wpS_bind (ltAt_ok hq hb (by omega) (by omega) ?_)
    cases e : lt (g p (lo + x)) (g p (lo + x - 1)) with
    | true =>
      dsimp only
      rw [if_pos rfl]
      exact wpS_pure (h x hax (by omega) hs' fun _ => e)
    | false =>
      dsimp only
      rw [if_neg (by decide)]
      exact wpS_pure ⟨rfl, rfl, upL_more (k := lo + x) W (by omega) hs' e⟩
theorem wp_if {α : Type} {c : Prop} [Decidable c] {m1 m2 : StateT SortSt Sem α} {Q : α → SortSt → Prop} {st : SortSt} (h1 : c → wpS (model prog w) A E s m1 Q st) (h2 : ¬ c → wpS (model prog w) A E s m2 Q st) : wpS (model prog w) A E s (if c then m1 else m2) Q st := by
  by_cases h : c
  · rw [if_pos h]; exact h1 h
  · rw [if_neg h]; exact h2 h
end
end Tim
set_option maxHeartbeats 4000000
namespace Tim
open PySem PySem.W PyProof.Rows Srt
section
variable {prog : Program} {w : World} {A : Around} {E : Value → Shared → Prop} {s : Shared} {κ : SortKind} {it : Array Keyed} {n : Nat} {lt : Nat → Nat → Bool} {p : Array Nat} {pd : Array (Nat × Nat × Nat)} {mg : Nat}
theorem minRun_le : ∀ (f n r : Nat), r ≤ 1 → minRun' f n r ≤ n + r
  | 0, n, r, _ => Nat.le_refl _
  | f + 1, n, r, hr => by
    rw [minRun'_succ]
    split
    · exact Nat.le_refl _
    · have := minRun_le f (n / 2) (max r (n % 2)) (by omega)
      omega
theorem count_asc (W : Swo lt) (hq : Ans prog w A s κ it n lt) (hb : In n p) {nrem : Nat} {Q : Option Nat → SortSt → Prop} (h1 : 1 ≤ nrem) (hz : 0 + nrem ≤ p.size) (hu : UpL lt 0 p (0 + nrem)) (h : Q (some nrem) (S κ it p pd mg)) : wpS (model prog w) A E s (countRun' 0 nrem) Q (S κ it p pd mg) := by
  rw [countRun'_eq]
  refine wpS_bind (asc_loop W hq hb (fun x k => rfl) (Nat.le_refl 1) h1 hz (up1 W) fun k k1 k2 up hlt => ?_)
  dsimp only
  have hk : k = nrem := by
    by_cases e : k = nrem
    · exact e
    · have := hlt (by omega)
      rw [hu (0 + k - 1) (0 + k) (by omega) (by omega) (by omega)] at this
      cases this
  rw [if_pos (by simpa using hk), hk]
  exact wpS_pure h
theorem runs_asc (W : Swo lt) (hq : Ans prog w A s κ it n lt) (hb : In n p) (hz : 2 ≤ p.size) (hu : UpL lt 0 p (0 + p.size)) {Q : Unit → SortSt → Prop} (h : ∀ pd m, Q () (S κ it p pd m)) :
    wpS (model prog w) A E s sortRuns' Q (S κ it p #[] 7) := by
  rw [sortRuns'_eq]
  refine wpS_bind (wpS_get ?_)
  have hs : (arrOf (S κ it p #[] 7)).size = p.size := Array.size_map ..
  dsimp only
  rw [hs]
  refine wpS_bind (wpS_mono (wpS_forRange (I := fun x c st' => (x = 0 ∧ c = (none, 0) ∧ st' = S κ it p #[] 7) ∨ (c = (none, p.size) ∧ st' = S κ it p #[(0, p.size, 0)] 7))
    (Q := fun c st' => c = (none, p.size) ∧ st' = S κ it p #[(0, p.size, 0)] 7) ?s0 ?f0 (.inl ⟨rfl, rfl, rfl⟩)) ?p0)
  case f0 =>
    rintro c st' (⟨hx, _, _⟩ | hh)
    · omega
    · exact hh
  case s0 =>
    rintro x c st' _ hx (⟨rfl, rfl, rfl⟩ | ⟨rfl, rfl⟩)
    · dsimp only
      refine wp_if (fun hge => absurd hge (by omega)) fun hlt => ?_
      refine wpS_bind (count_asc W hq hb (by omega) (by omega) (by rw [Nat.sub_zero]; exact hu) ?_)
      dsimp only
      refine wp_if (fun hlt2 => absurd hlt2 (by have := minRun_le p.size p.size 0 (by decide); omega)) fun hge2 => ?_
      refine wpS_bind (wpS_get ?_)
      split
      · rename_i hc
        have hc : (none : Option (Nat × Nat × Nat)) = _ := hc
        cases hc
      · refine wpS_bind (wpS_modify (wpS_pure (.inr ⟨?_, ?_⟩)))
        · rw [Nat.sub_zero, Nat.zero_add]
        · rw [Nat.sub_zero]; rfl
    · dsimp only
      refine wp_if (fun hge => wpS_pure ⟨rfl, rfl⟩) fun hlt => absurd hlt (by omega)
  case p0 =>
    rintro c st' ⟨rfl, rfl⟩
    dsimp only
    refine wpS_bind (wpS_mono (wpS_forRange (I := fun x c st' => c = (none, ()) ∧ st' = S κ it p #[(0, p.size, 0)] 7) (Q := fun c st' => c = (none, ()) ∧ st' = S κ it p #[(0, p.size, 0)] 7) ?s1 (fun c st' z => z) ⟨rfl, rfl⟩) ?p1)
    case s1 =>
      rintro y c st' _ hy ⟨rfl, rfl⟩
      refine wpS_bind (wpS_get ?_)
      refine wp_if (fun hle => wpS_pure ⟨rfl, rfl⟩) fun hgt => absurd (show (1 : Nat) ≤ 1 from Nat.le_refl 1) hgt
    case p1 =>
      rintro c st' ⟨rfl, rfl⟩
      exact wpS_pure (h _ _)
end
end Tim
namespace L2
open PySem PySem.Spec PyProof.Rows
section
variable {H : Hp}
end
theorem tup_ne {H : Hp} {a b : Addr} {xs : List V} {o : HO} (ha : H a = some (.tup xs)) (hb : H b = some o) (ho : ∀ ys, o ≠ .tup ys) : a ≠ b := fun e => by
  subst e
  rw [ha] at hb
  exact ho xs (Option.some.inj hb).symm
mutual
def noB : PyData → Bool
  | .none => true
  | .bool _ => false
  | .int _ => true
  | .str _ => true
  | .list xs => noBs xs
  | .tuple xs => noBs xs
  | .dict _ => false
def noBs : List PyData → Bool
  | [] => true
  | x :: xs => noB x && noBs xs
end
mutual
theorem eqv_iff : ∀ (a b : PyData), noB a = true → noB b = true → (PyData.eqv a b = true ↔ a = b)
  | .list xs, b, ha, hb => by
    cases b with
    | list ys =>
      have := eqvs_iff xs ys (by simpa [noB] using ha) (by simpa [noB] using hb)
      simp only [PyData.eqv, this, PyData.list.injEq]
    | _ => simp [PyData.eqv]
  | .tuple xs, b, ha, hb => by
    cases b with
    | tuple ys =>
      have := eqvs_iff xs ys (by simpa [noB] using ha) (by simpa [noB] using hb)
      simp only [PyData.eqv, this, PyData.tuple.injEq]
    | _ => simp [PyData.eqv]
  | .dict _, _, ha, _ => by simp [noB] at ha
  | .bool _, _, ha, _ => by simp [noB] at ha
  | .none, b, _, hb => by cases b <;> simp_all [PyData.eqv, noB]
  | .int i, b, _, hb => by cases b <;> simp_all [PyData.eqv, noB]
  | .str i, b, _, hb => by cases b <;> simp_all [PyData.eqv, noB]
theorem eqvs_iff : ∀ (xs ys : List PyData), noBs xs = true → noBs ys = true → (PyData.eqvAll xs ys = true ↔ xs = ys)
  | [], ys, _, _ => by cases ys <;> simp [PyData.eqvAll]
  | x :: xs, ys, ha, hb => by
    cases ys with
    | nil => simp [PyData.eqvAll]
    | cons y ys =>
      rw [noBs, Bool.and_eq_true] at ha hb
      have h1 := eqv_iff x y ha.1 hb.1
      have h2 := eqvs_iff xs ys ha.2 hb.2
      simp only [PyData.eqvAll, Bool.and_eq_true, h1, h2, List.cons.injEq]
end
theorem noBs_all : ∀ {xs : List PyData}, (∀ x ∈ xs, noB x = true) → noBs xs = true
  | [], _ => rfl
  | x :: xs, h => by
    rw [noBs, h x List.mem_cons_self, noBs_all fun y hy => h y (List.mem_cons_of_mem _ hy)]
    rfl
theorem lays_all : ∀ {xs : List PyData}, (∀ x ∈ xs, x.canLay0 = true) → PyData.canLayAll0 xs = true
  | [], _ => rfl
  | x :: xs, h => by
    show (x.canLay0 && PyData.canLayAll0 xs) = true
    rw [h x List.mem_cons_self, lays_all fun y hy => h y (List.mem_cons_of_mem _ hy)]
    rfl
theorem nd_add {α : Type} {l : List α} {x : α} (h : l.Nodup) (hx : x ∉ l) : (l ++ [x]).Nodup :=
  List.nodup_append.mpr ⟨h, List.nodup_cons.mpr ⟨fun z => (List.not_mem_nil z).elim, List.nodup_nil⟩, fun a ha b hb e => hx (by rw [List.mem_singleton.mp hb] at e; rw [← e]; exact ha)⟩
end L2
set_option maxHeartbeats 4000000
namespace L2
open PySem PySem.Spec PyProof.Rows
mutual
def sk : PyData → PyData → Bool
  | .none, .none => true
  | .bool _, .bool _ => true
  | .int _, .int _ => true
  | .str _, .str _ => true
  | .tuple xs, .tuple ys => sks xs ys
  | _, _ => false
def sks : List PyData → List PyData → Bool
  | [], _ => true
  | _ :: _, [] => true
  | x :: xs, y :: ys => sk x y && sks xs ys
end
mutual
def ltD : PyData → PyData → Bool
  | .bool a, .bool b => !a && b
  | .int i, .int j => decide (i < j)
  | .str x, .str y => decide (x.cps.toList < y.cps.toList)
  | .tuple xs, .tuple ys => ltDs xs ys
  | _, _ => false
def ltDs : List PyData → List PyData → Bool
  | [], [] => false
  | [], _ :: _ => true
  | _ :: _, [] => false
  | x :: xs, y :: ys => if PyData.eqv x y = true then ltDs xs ys else ltD x y
end
mutual
theorem sk_eq : ∀ (a b : PyData), sk a b = true → (PyData.eqv a b = true ↔ a = b)
  | .tuple xs, b, h => by
    cases b with
    | tuple ys => simp only [PyData.eqv, PyData.tuple.injEq]; exact sks_eq xs ys (by simpa [sk] using h)
    | _ => simp [sk] at h
  | .none, b, h => by cases b <;> simp_all [sk, PyData.eqv]
  | .bool _, b, h => by cases b <;> simp_all [sk, PyData.eqv]
  | .int _, b, h => by cases b <;> simp_all [sk, PyData.eqv]
  | .str _, b, h => by cases b <;> simp_all [sk, PyData.eqv]
  | .list _, b, h => by cases b <;> simp [sk] at h
  | .dict _, b, h => by cases b <;> simp [sk] at h
theorem sks_eq : ∀ (xs ys : List PyData), sks xs ys = true → (PyData.eqvAll xs ys = true ↔ xs = ys)
  | [], ys, _ => by cases ys <;> simp [PyData.eqvAll]
  | x :: xs, [], _ => by simp [PyData.eqvAll]
  | x :: xs, y :: ys, h => by
    rw [sks, Bool.and_eq_true] at h
    simp only [PyData.eqvAll, Bool.and_eq_true, sk_eq x y h.1, sks_eq xs ys h.2, List.cons.injEq]
end
theorem str_ext {x y : Str} (h : x.cps.toList = y.cps.toList) : x = y := by
  obtain ⟨a⟩ := x
  obtain ⟨b⟩ := y
  exact congrArg Str.mk (Array.ext' h)
mutual
theorem ltD_irr : ∀ a : PyData, ltD a a = false
  | .tuple xs => by rw [ltD]; exact ltDs_irr xs
  | .none => rfl
  | .bool b => by cases b <;> rfl
  | .int i => by simp [ltD]
  | .str x => by simp [ltD, List.lt_irrefl]
  | .list _ => rfl
  | .dict _ => rfl
theorem ltDs_irr : ∀ xs : List PyData, ltDs xs xs = false
  | [] => rfl
  | x :: xs => by
    rw [ltDs, ltDs_irr xs, ltD_irr x]
    split <;> rfl
end
mutual
theorem ltD_tot : ∀ (a b : PyData), sk a b = true → ltD a b = false → ltD b a = false → a = b
  | .tuple xs, b, h, h1, h2 => by
    cases b with
    | tuple ys => exact congrArg PyData.tuple (ltDs_tot xs ys (by simpa [sk] using h) (by simpa [ltD] using h1) (by simpa [ltD] using h2))
    | _ => simp [sk] at h
  | .none, b, h, _, _ => by cases b <;> simp_all [sk]
  | .bool a, b, h, h1, h2 => by
    cases b with
    | bool c => cases a <;> cases c <;> simp_all [ltD]
    | _ => simp [sk] at h
  | .int i, b, h, h1, h2 => by
    cases b with
    | int j => simp only [ltD, decide_eq_false_iff_not] at h1 h2; exact congrArg _ (by omega)
    | _ => simp [sk] at h
  | .str x, b, h, h1, h2 => by
    cases b with
    | str y =>
      simp only [ltD, decide_eq_false_iff_not] at h1 h2
      exact congrArg _ (str_ext (List.le_antisymm (List.not_lt.mp h2) (List.not_lt.mp h1)))
    | _ => simp [sk] at h
  | .list _, b, h, _, _ => by cases b <;> simp [sk] at h
  | .dict _, b, h, _, _ => by cases b <;> simp [sk] at h
theorem ltDs_tot : ∀ (xs ys : List PyData), sks xs ys = true → ltDs xs ys = false → ltDs ys xs = false → xs = ys
  | [], [], _, _, _ => rfl
  | [], _ :: _, _, h, _ => by simp [ltDs] at h
  | _ :: _, [], _, _, h => by simp [ltDs] at h
  | x :: xs, y :: ys, h, h1, h2 => by
    rw [sks, Bool.and_eq_true] at h
    by_cases e : x = y
    · subst e
      have ex : PyData.eqv x x = true := (sk_eq x x h.1).mpr rfl
      rw [ltDs, if_pos ex] at h1 h2
      rw [ltDs_tot xs ys h.2 h1 h2]
    · have e1 : ¬ PyData.eqv x y = true := fun z => e ((sk_eq x y h.1).mp z)
      have hs : sk y x = true := sk_symm x y h.1
      have e2 : ¬ PyData.eqv y x = true := fun z => e ((sk_eq y x hs).mp z).symm
      rw [ltDs, if_neg e1] at h1
      rw [ltDs, if_neg e2] at h2
      exact absurd (ltD_tot x y h.1 h1 h2) e
theorem sk_symm : ∀ (a b : PyData), sk a b = true → sk b a = true
  | .tuple xs, b, h => by
    cases b with
    | tuple ys => rw [sk]; exact sks_symm xs ys (by simpa [sk] using h)
    | _ => simp [sk] at h
  | .none, b, h => by cases b <;> simp_all [sk]
  | .bool _, b, h => by cases b <;> simp_all [sk]
  | .int _, b, h => by cases b <;> simp_all [sk]
  | .str _, b, h => by cases b <;> simp_all [sk]
  | .list _, b, h => by cases b <;> simp [sk] at h
  | .dict _, b, h => by cases b <;> simp [sk] at h
theorem sks_symm : ∀ (xs ys : List PyData), sks xs ys = true → sks ys xs = true
  | [], [], _ => rfl
  | [], _ :: _, _ => rfl
  | _ :: _, [], _ => rfl
  | x :: xs, y :: ys, h => by
    rw [sks, Bool.and_eq_true] at h ⊢
    exact ⟨sk_symm x y h.1, sks_symm xs ys h.2⟩
end
mutual
theorem ltD_tr : ∀ (a b c : PyData), sk a b = true → sk b c = true → sk a c = true → ltD a b = true → ltD b c = true → ltD a c = true
  | .tuple xs, b, c, h1, h2, h3, l1, l2 => by
    cases b with
    | tuple ys =>
      cases c with
      | tuple zs => rw [ltD]; exact ltDs_tr xs ys zs (by simpa [sk] using h1) (by simpa [sk] using h2) (by simpa [sk] using h3) (by simpa [ltD] using l1) (by simpa [ltD] using l2)
      | _ => simp [sk] at h3
    | _ => simp [sk] at h1
  | .none, b, c, _, _, _, l1, _ => by cases b <;> simp [ltD] at l1
  | .bool a, b, c, h1, h2, h3, l1, l2 => by
    cases b with
    | bool y =>
      cases c with
      | bool z => cases a <;> cases y <;> cases z <;> simp_all [ltD]
      | _ => simp [sk] at h3
    | _ => simp [sk] at h1
  | .int i, b, c, h1, h2, h3, l1, l2 => by
    cases b with
    | int y =>
      cases c with
      | int z => simp only [ltD, decide_eq_true_eq] at *; omega
      | _ => simp [sk] at h3
    | _ => simp [sk] at h1
  | .str i, b, c, h1, h2, h3, l1, l2 => by
    cases b with
    | str y =>
      cases c with
      | str z => simp only [ltD, decide_eq_true_eq] at *; exact List.lt_trans l1 l2
      | _ => simp [sk] at h3
    | _ => simp [sk] at h1
  | .list _, b, c, _, _, _, l1, _ => by cases b <;> simp [ltD] at l1
  | .dict _, b, c, _, _, _, l1, _ => by cases b <;> simp [ltD] at l1
theorem ltDs_tr : ∀ (xs ys zs : List PyData), sks xs ys = true → sks ys zs = true → sks xs zs = true → ltDs xs ys = true → ltDs ys zs = true → ltDs xs zs = true
  | _, _, [], _, _, _, _, l2 => by
    rename_i ys _ _ _ _
    cases ys <;> simp [ltDs] at l2
  | [], _, _ :: _, _, _, _, _, _ => rfl
  | x :: xs, [], _ :: _, _, _, _, l1, _ => by simp [ltDs] at l1
  | x :: xs, y :: ys, z :: zs, h1, h2, h3, l1, l2 => by
    rw [sks, Bool.and_eq_true] at h1 h2 h3
    by_cases e1 : x = y
    · subst e1
      have q1 : PyData.eqv x x = true := (sk_eq x x h1.1).mpr rfl
      rw [ltDs, if_pos q1] at l1
      by_cases e2 : x = z
      · subst e2
        rw [ltDs, if_pos q1] at l2 ⊢
        exact ltDs_tr xs ys zs h1.2 h2.2 h3.2 l1 l2
      · have q2 : ¬ PyData.eqv x z = true := fun w => e2 ((sk_eq x z h3.1).mp w)
        rw [ltDs, if_neg q2] at l2 ⊢
        exact l2
    · have q1 : ¬ PyData.eqv x y = true := fun w => e1 ((sk_eq x y h1.1).mp w)
      rw [ltDs, if_neg q1] at l1
      by_cases e2 : y = z
      · subst e2
        rw [ltDs, if_neg q1]
        exact l1
      · have q2 : ¬ PyData.eqv y z = true := fun w => e2 ((sk_eq y z h2.1).mp w)
        rw [ltDs, if_neg q2] at l2
        have l3 := ltD_tr x y z h1.1 h2.1 h3.1 l1 l2
        have q3 : ¬ PyData.eqv x z = true := fun w => by
          have := (sk_eq x z h3.1).mp w
          subst this
          rw [ltD_irr] at l3
          cases l3
        rw [ltDs, if_neg q3]
        exact l3
end
mutual
theorem ltD_nt : ∀ (a b c : PyData), sk a b = true → sk b c = true → sk a c = true → ltD a c = true → ltD a b = true ∨ ltD b c = true
  | .tuple xs, b, c, h1, h2, h3, l => by
    cases b with
    | tuple ys =>
      cases c with
      | tuple zs => rw [ltD, ltD]; exact ltDs_nt xs ys zs (by simpa [sk] using h1) (by simpa [sk] using h2) (by simpa [sk] using h3) (by simpa [ltD] using l)
      | _ => simp [sk] at h3
    | _ => simp [sk] at h1
  | .none, b, c, _, _, _, l => by cases c <;> simp [ltD] at l
  | .bool a, b, c, h1, h2, h3, l => by
    cases b with
    | bool y =>
      cases c with
      | bool z => cases a <;> cases y <;> cases z <;> simp_all [ltD]
      | _ => simp [sk] at h3
    | _ => simp [sk] at h1
  | .int i, b, c, h1, h2, h3, l => by
    cases b with
    | int y =>
      cases c with
      | int z => simp only [ltD, decide_eq_true_eq] at *; omega
      | _ => simp [sk] at h3
    | _ => simp [sk] at h1
  | .str i, b, c, h1, h2, h3, l => by
    cases b with
    | str y =>
      cases c with
      | str z =>
        simp only [ltD, decide_eq_true_eq] at *
        by_cases hab : i.cps.toList < y.cps.toList
        · exact .inl hab
        · exact .inr (List.lt_of_le_of_lt (List.not_lt.mp hab) l)
      | _ => simp [sk] at h3
    | _ => simp [sk] at h1
  | .list _, b, c, _, _, _, l => by cases c <;> simp [ltD] at l
  | .dict _, b, c, _, _, _, l => by cases c <;> simp [ltD] at l
theorem ltDs_nt : ∀ (xs ys zs : List PyData), sks xs ys = true → sks ys zs = true → sks xs zs = true → ltDs xs zs = true → ltDs xs ys = true ∨ ltDs ys zs = true
  | xs, _, [], _, _, _, l => by cases xs <;> simp [ltDs] at l
  | [], [], _ :: _, _, _, _, _ => .inr rfl
  | [], _ :: _, _ :: _, _, _, _, _ => .inl rfl
  | x :: xs, [], _ :: _, _, _, _, _ => .inr rfl
  | x :: xs, y :: ys, z :: zs, h1, h2, h3, l => by
    rw [sks, Bool.and_eq_true] at h1 h2 h3
    by_cases e3 : x = z
    · subst e3
      have q3 : PyData.eqv x x = true := (sk_eq x x h3.1).mpr rfl
      rw [ltDs, if_pos q3] at l
      by_cases e1 : x = y
      · subst e1
        rw [ltDs, if_pos q3, ltDs, if_pos q3]
        exact ltDs_nt xs ys zs h1.2 h2.2 h3.2 l
      · have q1 : ¬ PyData.eqv x y = true := fun w => e1 ((sk_eq x y h1.1).mp w)
        have q2 : ¬ PyData.eqv y x = true := fun w => e1 ((sk_eq y x h2.1).mp w).symm
        rw [ltDs, if_neg q1, ltDs, if_neg q2]
        cases p1 : ltD x y with
        | true => exact .inl rfl
        | false =>
          cases p2 : ltD y x with
          | true => exact .inr rfl
          | false => exact absurd (ltD_tot x y h1.1 p1 p2) e1
    · have q3 : ¬ PyData.eqv x z = true := fun w => e3 ((sk_eq x z h3.1).mp w)
      rw [ltDs, if_neg q3] at l
      rcases ltD_nt x y z h1.1 h2.1 h3.1 l with p | p
      · left
        have q1 : ¬ PyData.eqv x y = true := fun w => by
          have := (sk_eq x y h1.1).mp w
          subst this
          rw [ltD_irr] at p
          cases p
        rw [ltDs, if_neg q1]
        exact p
      · right
        have q2 : ¬ PyData.eqv y z = true := fun w => by
          have := (sk_eq y z h2.1).mp w
          subst this
          rw [ltD_irr] at p
          cases p
        rw [ltDs, if_neg q2]
        exact p
end
end L2
set_option maxHeartbeats 4000000
namespace L2
open PySem PySem.Spec PyProof.Rows
def LtAt (A : Around) (s : Shared) (x y : Value) (b : Bool) : Prop := ∀ (prog : Program) (w : World) (E : Value → Shared → Prop) (Q : Value → Shared → Prop), Q (.bool b) s → wpAny (model prog w) A (richCompare .Lt x y) Q E s
open SeqAt in
theorem tuple_ltAt (l b : Addr) (us vs : Array Value) (n n2 : Nat) (dd dd2 : Option Addr) (sl sl2 : Array (Option Value)) (e : Nat → Bool) (c : Bool) :
    Meets (Builtin.«tuple.__lt__» ⟨[.ref l, .ref b], []⟩)
      (fun A R s => s.heap.get? l = some { cls := .type "tuple", dict := dd, data := .seq us n, slots := sl } ∧ s.heap.get? b = some { cls := .type "tuple", dict := dd2, data := .seq vs n2, slots := sl2 } ∧
        (∀ j (h1 : j < us.size) (h2 : j < vs.size), EqAt A.in1 s us[j] vs[j] (e j)) ∧
        (∀ i (h1 : i < us.size) (h2 : i < vs.size), (∀ j, j < i → e j = true) → e i = false → LtAt A.in1 s us[i] vs[i] c) ∧
        ((∀ j, j < min us.size vs.size → e j = true) → c = decide (us.size < vs.size)) ∧ R (.ok (.ret (.bool c))) s) :=
  .of_wp fun prog w A R s h => by
    obtain ⟨hp, g, d, tk, os⟩ := s
    obtain ⟨hl, hb, he, hlt, hall, h⟩ := h
    have f2 := AutoSeq1.sub_tuple_tuple
    have hZ : (us.toList.zip vs.toList).length = min us.size vs.size := by simp
    wp_walk using wpAny_loadPart' hl, wpAny_loadPart' hb, wpAny_forIn_list _ (fun rest b s' => b.1 = none ∧ s' = ⟨hp, g, d, tk, os⟩ ∧ ∃ i, rest = (us.toList.zip vs.toList).drop i ∧ ∀ j, j < i → e j = true) _
    case turn =>
      rintro ⟨y, x⟩ rest b s' ⟨hb', rfl, i, hz, hi⟩
      have hlt' : i < (us.toList.zip vs.toList).length := by
        rcases Nat.lt_or_ge i (us.toList.zip vs.toList).length with h' | h'
        · exact h'
        · rw [List.drop_of_length_le h'] at hz; cases hz
      have h1 : i < us.size := by omega
      have h2 : i < vs.size := by omega
      rw [List.drop_eq_getElem_cons hlt'] at hz
      injection hz with hyx hrest
      have hy : y = us[i] := by have := congrArg Prod.fst hyx; simpa using this
      have hx : x = vs[i] := by have := congrArg Prod.snd hyx; simpa using this
      subst hy hx
      refine wpAny_bind (he i h1 h2 prog w _ _ ?_)
      cases hy : e i with
      | true =>
        wp_walk
        exact ⟨rfl, rfl, i + 1, hrest, fun j hj => by
          by_cases z : j = i
          · rw [z]; exact hy
          · exact hi j (by omega)⟩
      | false =>
        have q := hlt i h1 h2 hi hy
        dsimp only
        rw [if_pos (by rfl)]
        refine wpAny_bind (wpAny_rule (wpAny_bind (q prog w _ _ ?_)))
        exact wpAny_bind (wpAny_pure (wpAny_pure (wpAny_pure ⟨_, rfl, h⟩)))
    case fin =>
      rintro ⟨b1, b2⟩ s' ⟨hb', rfl, i, hz, hi⟩
      simp only at hb'
      subst hb'
      have hge : min us.size vs.size ≤ i := by
        rcases Nat.lt_or_ge i (us.toList.zip vs.toList).length with h' | h'
        · rw [List.drop_eq_getElem_cons h'] at hz; cases hz
        · omega
      have := hall fun j hj => hi j (by omega)
      wp_walk
      exact ⟨_, rfl, by rw [this] at h; simpa [Builtin.Tuple.tupleCompareSizes] using h⟩
    case h =>
      exact ⟨rfl, rfl, 0, rfl, fun j hj => absurd hj (Nat.not_lt_zero _)⟩
theorem LtAt.tuples {A : Around} {s : Shared} {l b : Addr} {us vs : Array Value} {e : Nat → Bool} {c : Bool} (hl : s.heap.IsTuple l us) (hb : s.heap.IsTuple b vs) (hu : A.units < cLine)
    (he : ∀ j (h1 : j < us.size) (h2 : j < vs.size), SeqAt.EqAt A.in1 s us[j] vs[j] (e j)) (hlt : ∀ i (h1 : i < us.size) (h2 : i < vs.size), (∀ j, j < i → e j = true) → e i = false → LtAt A.in1 s us[i] vs[i] c)
    (hall : (∀ j, j < min us.size vs.size → e j = true) → c = decide (us.size < vs.size)) : LtAt A s (.ref l) (.ref b) c := fun prog w E Q h => by
  obtain ⟨⟨cls, dd, data, sl⟩, ho, hc, n, hd⟩ := id hl
  obtain ⟨⟨cls2, dd2, data2, sl2⟩, ho2, hc2, n2, hd2⟩ := id hb
  simp only at hc hd hc2 hd2
  subst hc hd hc2 hd2
  exact richCompare_meets_room (op := .Lt) ⟨_, ho, rfl⟩ ⟨_, ho2, rfl⟩ F.slot_tuple_lt F.entry_tuple_lt (F.args_tuple_lt_2 _ _) (tuple_ltAt l b us vs n n2 dd dd2 sl sl2 e c)
    ⟨ho, ho2, he, hlt, hall, show Value.bool c ≠ Value.notImplemented ∧ Q (.bool c) s from ⟨(fun x => nomatch x), h⟩⟩ hu
theorem LtAt.ints {A : Around} {s : Shared} (i j : Int) (t u : Tok) : LtAt A s (.int i t) (.int j u) (decide (i < j)) := fun prog w E Q h => PyProof.Rows.lt_int h
theorem LtAt.strs {A : Around} {s : Shared} (i j : Str) (t u : Tok) : LtAt A s (.str i t) (.str j u) (decide (i.cps.toList < j.cps.toList)) := fun prog w E Q h => PyProof.Rows.lt_str h
theorem LtAt.bools {A : Around} {s : Shared} (i j : Bool) : LtAt A s (.bool i) (.bool j) (!i && j) := fun prog w E Q h => by
  refine PyProof.Rows.lt_bool ?_
  cases i <;> cases j <;> exact h
open SeqAt in
theorem ltDs_at : ∀ (xs ys : List PyData) (i : Nat), i < xs.length → i < ys.length → (∀ j, j < i → pairEq xs ys j = true) → pairEq xs ys i = false → ltDs xs ys = ltD (xs.getD i .none) (ys.getD i .none)
  | x :: xs, y :: ys, 0, _, _, _, h => by
    have h' : PyData.eqv x y = false := h
    rw [ltDs, if_neg (by rw [h']; decide)]
    rfl
  | x :: xs, y :: ys, i + 1, h1, h2, hj, h => by
    have h' : PyData.eqv x y = true := hj 0 (by omega)
    rw [ltDs, if_pos h']
    exact ltDs_at xs ys i (by simpa using h1) (by simpa using h2) (fun j hlt => hj (j + 1) (by omega)) h
  | [], _, _, h1, _, _, _ => absurd h1 (Nat.not_lt_zero _)
  | _ :: _, [], _, _, h2, _, _ => absurd h2 (Nat.not_lt_zero _)
open SeqAt in
theorem ltDs_all : ∀ (xs ys : List PyData), (∀ j, j < min xs.length ys.length → pairEq xs ys j = true) → ltDs xs ys = decide (xs.length < ys.length)
  | [], [], _ => rfl
  | [], _ :: _, _ => by simp [ltDs]
  | _ :: _, [], _ => by simp [ltDs]
  | x :: xs, y :: ys, h => by
    have h' : PyData.eqv x y = true := h 0 (by simp)
    rw [ltDs, if_pos h', ltDs_all xs ys fun j hj => h (j + 1) (by simp only [List.length_cons]; omega)]
    simp
theorem sks_at : ∀ (xs ys : List PyData) (i : Nat), i < xs.length → i < ys.length → sks xs ys = true → sk (xs.getD i .none) (ys.getD i .none) = true
  | x :: xs, y :: ys, 0, _, _, h => by rw [sks, Bool.and_eq_true] at h; exact h.1
  | x :: xs, y :: ys, i + 1, h1, h2, h => by
    rw [sks, Bool.and_eq_true] at h
    exact sks_at xs ys i (by simpa using h1) (by simpa using h2) h.2
  | [], _, _, h1, _, _ => absurd h1 (Nat.not_lt_zero _)
  | _ :: _, [], _, _, h2, _ => absurd h2 (Nat.not_lt_zero _)
theorem depth_at : ∀ (xs : List PyData) (i : Nat), i < xs.length → (xs.getD i .none).depth ≤ PyData.depthAll xs
  | x :: xs, 0, _ => by show x.depth ≤ max x.depth _; omega
  | x :: xs, i + 1, h => by
    have := depth_at xs i (by simpa using h)
    show (xs.getD i .none).depth ≤ max x.depth (PyData.depthAll xs)
    omega
  | [], _, h => absurd h (Nat.not_lt_zero _)
theorem reads_at {h : Heap} : ∀ {vs : List Value} {ds : List PyData} {as : List Addr} {i : Nat} (hi : i < vs.length), ReadsAll h vs ds as → ∃ bs, Reads h vs[i] (ds.getD i .none) bs
  | _, _, _, 0, _, .cons r _ => ⟨_, r⟩
  | _, _, _, i + 1, hi, .cons _ t => reads_at (i := i) (by simpa using hi) t
theorem lays_at {ds : List PyData} {i : Nat} (h : PyData.canLayAll0 ds = true) (hi : i < ds.length) : (ds.getD i .none).canLay0 = true :=
  lay_get (j := i) h (by rw [List.getD_eq_getElem?_getD, List.getElem?_eq_getElem hi]; rfl)
open SeqAt in
theorem lt_reads : ∀ (n : Nat) (da db : PyData) (A : Around) (s : Shared) (a b : Value) (as bs : List Addr), da.depth ≤ n → Reads s.heap a da as → Reads s.heap b db bs → da.canLay0 = true → db.canLay0 = true → sk da db = true → da ≠ .none →
    A.units + n < cLine → LtAt A s a b (ltD da db)
  | n, .int i, db, A, s, a, b, as, bs, _, ra, rb, _, _, hk, _, _ => by
    cases db <;> simp [sk] at hk
    cases ra; cases rb
    exact LtAt.ints _ _ _ _
  | n, .str i, db, A, s, a, b, as, bs, _, ra, rb, _, _, hk, _, _ => by
    cases db <;> simp [sk] at hk
    cases ra; cases rb
    exact LtAt.strs _ _ _ _
  | n, .bool i, db, A, s, a, b, as, bs, _, ra, rb, _, _, hk, _, _ => by
    cases db <;> simp [sk] at hk
    cases ra; cases rb
    exact LtAt.bools _ _
  | n, .none, db, A, s, a, b, as, bs, _, _, _, _, _, _, hn, _ => absurd rfl hn
  | n, .list _, db, A, s, a, b, as, bs, _, _, _, _, _, hk, _, _ => by cases db <;> simp [sk] at hk
  | n, .dict _, db, A, s, a, b, as, bs, _, _, _, _, _, hk, _, _ => by cases db <;> simp [sk] at hk
  | 0, .tuple xs, db, A, s, a, b, as, bs, hd, _, _, _, _, _, _, _ => by
    have : PyData.depthAll xs + 1 ≤ 0 := hd
    omega
  | n + 1, .tuple xs, db, A, s, a, b, as, bs, hd, ra, rb, ca, cb, hk, _, hu => by
    cases db with
    | tuple ys =>
      have hks : sks xs ys = true := by simpa [sk] using hk
      have hd' : PyData.depthAll xs ≤ n := by
        have : PyData.depthAll xs + 1 ≤ n + 1 := hd
        omega
      cases ra with
      | tuple h1 h2 h3 h4 =>
        cases rb with
        | tuple k1 k2 k3 k4 =>
          rename_i l o us m b' o' vs m'
          have lx := ReadsAll.length _ _ _ h4
          have ly := ReadsAll.length _ _ _ k4
          rw [Array.length_toList] at lx ly
          have e : ltD (.tuple xs) (.tuple ys) = ltDs xs ys := by rw [ltD]
          rw [e]
          have eq' : ∀ j (g1 : j < us.size) (g2 : j < vs.size), EqAt A.in1 s us[j] vs[j] (pairEq xs ys j) := fun j g1 g2 => by
            obtain ⟨p1, r1⟩ := reads_at (i := j) (by rw [Array.length_toList]; exact g1) h4
            obtain ⟨p2, r2⟩ := reads_at (i := j) (by rw [Array.length_toList]; exact g2) k4
            have dj := depth_at xs j (by omega)
            have := eqAt_reads (xs.getD j .none) (ys.getD j .none) A.in1 s _ _ _ _ r1 r2 (lays_at ca (by omega)) (lays_at cb (by omega)) (by show A.units + 1 + _ < cLine; omega)
            simp only [Array.getElem_toList] at this
            exact this
          refine LtAt.tuples ⟨_, h1, h2, _, h3⟩ ⟨_, k1, k2, _, k3⟩ (by omega) eq' (fun i g1 g2 hj hf => ?_) fun hj => ?_
          · obtain ⟨p1, r1⟩ := reads_at (i := i) (by rw [Array.length_toList]; exact g1) h4
            obtain ⟨p2, r2⟩ := reads_at (i := i) (by rw [Array.length_toList]; exact g2) k4
            rw [ltDs_at xs ys i (by omega) (by omega) hj hf]
            have ski := sks_at xs ys i (by omega) (by omega) hks
            have := lt_reads n (xs.getD i .none) (ys.getD i .none) A.in1 s _ _ _ _ (Nat.le_trans (depth_at xs i (by omega)) hd') r1 r2 (lays_at ca (by omega)) (lays_at cb (by omega)) ski (fun z => by
              have hf' : PyData.eqv (xs.getD i .none) (ys.getD i .none) = false := hf
              rw [z] at ski hf'
              cases e2 : ys.getD i .none <;> rw [e2] at ski hf' <;> simp [sk, PyData.eqv] at ski hf') (by show A.units + 1 + _ < cLine; omega)
            simpa using this
          · rw [ltDs_all xs ys fun j h => hj j (by omega), lx, ly]
    | _ => simp [sk] at hk
end L2
set_option maxHeartbeats 4000000
namespace L2
open PySem PySem.Spec PySem.W PyProof.Rows
section
variable {prog : Program} {w : World} {A : Around} {E : Value → Shared → Prop} {s : Shared}
def Ext (h h' : Heap) : Prop := ∀ b o, h.get? b = some o → h'.get? b = some o
theorem Ext.trans {h h' h'' : Heap} (a : Ext h h') (b : Ext h' h'') : Ext h h'' := fun c o e => b c o (a c o e)
theorem Ext.push (h : Heap) (o : Obj) : Ext h (h.push o) := fun _ _ e => Heap.get?_push_of_some _ e
theorem Ext.upd {h h' : Heap} {a : Addr} {f : Obj → Obj} (x : Ext h h') (ha : h.objs.size ≤ a) : Ext h (h'.update a f) := fun b o e => by
  rw [Heap.get?_update_ne _ _ _ _ (Nat.ne_of_lt (Nat.lt_of_lt_of_le (Heap.lt_size e) ha))]
  exact x b o e
def Answers (prog : Program) (w : World) (A : Around) (s : Shared) (ks : List Value) (lt : Nat → Nat → Bool) : Prop :=
  ∃ κ, (∀ (Q : SortKind → Shared → Prop), Q κ s → wpAny (model prog w) A (keyKind' ks.toArray) Q (fun _ _ => False) s) ∧ ∀ i j C, i < ks.length → j < ks.length → C (lt i j) s → kas_ask prog w A κ ks i j C s
def Arr (n : Nat) (lt : Nat → Nat → Bool) (p : Array Nat) : Prop := p.Perm (List.toArray (List.range n)) ∧ Srt.Up lt p n
theorem arr_small {n : Nat} {lt : Nat → Nat → Bool} (W : Srt.Swo lt) (h : n < 2) : Arr n lt (List.toArray (List.range n)) := by
  refine ⟨.refl _, fun i j hij hj => ?_⟩
  have : i = j := by omega
  subst this
  exact W.irr _
def Few (lt : Nat → Nat → Bool) (n : Nat) : Prop := n < 64 ∨ ∀ i j, i ≤ j → j < n → lt j i = false
theorem sort_run {vs ks : List Value} {lt : Nat → Nat → Bool} (W : Srt.Swo lt) (hl : ks.length = vs.length) (h64 : Few lt vs.length) (h2 : ¬ vs.length < 2) {κ : SortKind} (hq : ∀ i j C, i < ks.length → j < ks.length → C (lt i j) s → kas_ask prog w A κ ks i j C s) {R : SortSt → Shared → Prop}
    (hR : ∀ st p, Arr vs.length lt p → (arrOf st).map (·.2) = List.toArray (p.toList.map fun i => vs.getD i Value.none) → failedOf st = none → R st s) :
    wpAny (model prog w) A ((sortRuns').run (SortSt.mk' κ (ks.toArray.zip vs.toArray) #[] 7 none)) (fun r s' => R r.2 s') E s := by
  rcases h64 with h64 | up
  · refine kat_run (G := fun p s' => s' = s ∧ Arr vs.length lt p) hl (by omega) h64 (fun p st s' _ a2 a3 a4 => ?_) ?_
    · obtain ⟨rfl, ar⟩ := a4
      exact hR st p ar (kat_snds hl a2) a3
    · exact (Srt.sort_ok W (by omega)).wp (fun i j C h1 h2' c => hq i j C (by omega) (by omega) c) fun p hp => ⟨rfl, hp⟩
  have hz : (List.toArray (List.range vs.length)).size = vs.length := by simp
  have hq' : Tim.Ans prog w A s κ (ks.toArray.zip vs.toArray) vs.length lt := fun i j C h1 h2 c => by
    have := hq i j C (by omega) (by omega) c
    rw [kat_ask_eq hl] at this
    exact this
  have gi : ∀ i, i < vs.length → Srt.g (List.toArray (List.range vs.length)) i = i := fun i hi => by
    unfold Srt.g
    rw [Array.getD_eq_getD_getElem?]
    simp [hi]
  have hin : Tim.In vs.length (List.toArray (List.range vs.length)) := fun i hi => by
    rw [hz] at hi
    rw [gi i hi]; exact hi
  have run := Tim.runs_asc (E := E) (Q := fun _ st => R st s) W hq' hin (by rw [hz]; omega) (fun i j _ hij hj => by rw [hz] at hj; rw [gi i (by omega), gi j (by omega)]; exact up i j hij (by omega)) fun pd m => ?_
  · have est : SortSt.mk' κ (ks.toArray.zip vs.toArray) #[] 7 none = Tim.S κ (ks.toArray.zip vs.toArray) (List.toArray (List.range vs.length)) #[] 7 := by
      have e := kas_range (ks.toArray.zip vs.toArray)
      rw [show (ks.toArray.zip vs.toArray).size = vs.length by simp [hl]] at e
      rw [Tim.S, e]
    rw [est]
    refine wpAny_mono run (fun r s' h => ?_) fun _ _ e => e
    rw [h.1]
    exact h.2
  · exact hR _ _ ⟨.refl _, fun i j hij hj => by rw [gi i (by omega), gi j hj]; exact up i j hij hj⟩ (kat_snds hl rfl) rfl
theorem list_sort_at {a : Addr} {vs : List Value} {n : Nat} {P : PySem.Fin → Shared → Prop} {lt : Nat → Nat → Bool} (W : Srt.Swo lt) (ho : s.heap.get? a = some (seqObj "list" vs.toArray n)) (hz2 : vs.length ≤ 2000) (h64 : Few lt vs.length) {h0 : Heap} (ha0 : h0.objs.size ≤ a) (x0 : Ext h0 s.heap)
    (hans : ∀ h', Ext h0 h' → 2 ≤ vs.length → Answers prog w A { s with heap := h' } vs lt)
    (h : ∀ h' p c, Ext h0 h' → Arr vs.length lt p → h'.get? a = some (seqObj "list" (List.toArray (p.toList.map fun i => vs.getD i Value.none)) c) → P (.done (.ret .none)) { s with heap := h' }) :
    wpAny (model prog w) A (Builtin.«list.sort» ⟨[.ref a], []⟩) P E s := by
  obtain ⟨c1, o1⟩ : ∃ c1, (s.heap.update a (Obj.mapSeq fun _ => #[])).get? a = some (seqObj "list" #[] c1) := ⟨_, get?_update_seq ho (fun _ => #[])⟩
  have x1 : Ext h0 (((s.heap.update a (Obj.mapSeq fun _ => #[])).push (seqObj "tuple" vs.toArray 0)).push (seqObj "list" #[] 0)) := (((x0.upd ha0).trans (.push _ _)).trans (.push _ _))
  have o3 : (((s.heap.update a (Obj.mapSeq fun _ => #[])).push (seqObj "tuple" vs.toArray 0)).push (seqObj "list" #[] 0)).get? a = some (seqObj "list" #[] c1) := Heap.get?_push_of_some _ (Heap.get?_push_of_some _ o1)
  have zl : vs.length ≤ sizeLine := by rw [sizeLine_eq]; omega
  have last : ∀ p, Arr vs.length lt p → ∀ (out : Array Value), out = List.toArray (p.toList.map fun i => vs.getD i Value.none) → out.size ≤ sizeLine + 1 ∧ P (.done (.ret .none)) { s with heap := (((s.heap.update a (Obj.mapSeq fun _ => #[])).push (seqObj "tuple" vs.toArray 0)).push (seqObj "list" #[] 0)).update a (Obj.mapSeq fun _ => out) } := fun p ar out eo => by
    obtain ⟨c2, o2⟩ : ∃ c2, ((((s.heap.update a (Obj.mapSeq fun _ => #[])).push (seqObj "tuple" vs.toArray 0)).push (seqObj "list" #[] 0)).update a (Obj.mapSeq fun _ => out)).get? a = some (seqObj "list" out c2) := ⟨_, get?_update_seq o3 (fun _ => out)⟩
    refine ⟨?_, h _ p c2 (x1.upd ha0) ar (by rw [← eo]; exact o2)⟩
    rw [eo, List.size_toArray, List.length_map, Array.length_toList, ar.1.size_eq]
    simp
    omega
  rw [list_sort_plain]
  refine wpAny_bind (listItems_at ho rfl (wpAny_bind (listUpdate_at ho rfl (wpAny_bind (seqEpoch_at o1 rfl (wpAny_bind (wpAny_newTuple (wpAny_bind (wpAny_newList (wpAny_holding ?_) (Nat.zero_le _))) zl)))) (by rw [List.size_toArray]; exact zl) (Nat.zero_le _))))
  show wpAny (model prog w) A _ P E { s with heap := ((s.heap.update a (Obj.mapSeq fun _ => #[])).push (seqObj "tuple" vs.toArray 0)).push (seqObj "list" #[] 0) }
  dsimp only
  by_cases h2 : vs.toArray.size < 2
  · rw [if_pos h2, if_pos h2]
    have h2' : vs.length < 2 := by simpa using h2
    have l := last _ (arr_small W h2') (vs.toArray) (by
      apply Array.toList_inj.mp
      simp only [List.toList_toArray]
      apply List.ext_getElem?
      intro i
      by_cases hi : i < vs.length
      · simp [hi]
      · simp [hi])
    refine wpAny_bind (wpAny_pure ?_)
    rw [StateT.run_pure]
    refine wpAny_bind (wpAny_pure ?_)
    dsimp only
    have e1 : (arrOf (SortSt.mk' general' (vs.toArray.zip vs.toArray) #[] 7 none)).map (·.2) = vs.toArray := by
      apply Array.toList_inj.mp
      show ((vs.toArray.zip vs.toArray).map (·.2)).toList = vs
      rw [Array.toList_map, Array.toList_zip]
      exact List.map_snd_zip (Nat.le_refl _)
    rw [e1]
    refine wpAny_bind (seqEpoch_at o3 rfl (wpAny_bind (listUpdate_at o3 rfl ?_ (Nat.zero_le _) l.1)))
    simp only [bne_self_eq_false, Bool.false_eq_true, if_false]
    exact wpAny_pure l.2
  · rw [if_neg h2, if_neg h2]
    have h2' : ¬ vs.length < 2 := by simpa using h2
    obtain ⟨κ, hk, hq⟩ := hans _ x1 (by omega)
    refine wpAny_bind (wpAny_mono (hk (fun k s' => k = κ ∧ s' = { s with heap := ((s.heap.update a (Obj.mapSeq fun _ => #[])).push (seqObj "tuple" vs.toArray 0)).push (seqObj "list" #[] 0) }) ⟨rfl, rfl⟩) ?_ fun _ _ z => z.elim)
    rintro k s' ⟨rfl, rfl⟩
    refine wpAny_bind (wpAny_mono (sort_run (E := E) (R := fun st s' => s' = { s with heap := ((s.heap.update a (Obj.mapSeq fun _ => #[])).push (seqObj "tuple" vs.toArray 0)).push (seqObj "list" #[] 0) } ∧ ∃ p, Arr vs.length lt p ∧ (arrOf st).map (·.2) = List.toArray (p.toList.map fun i => vs.getD i Value.none) ∧ failedOf st = none) W rfl h64 h2' hq fun st p a1 a2 a3 => ⟨rfl, p, a1, a2, a3⟩) ?_ fun _ _ z => z)
    rintro ⟨⟨⟩, st⟩ s' ⟨rfl, p, ar, eo, hf⟩
    have l := last p ar _ eo
    dsimp only
    refine wpAny_bind (seqEpoch_at o3 rfl (wpAny_bind (listUpdate_at o3 rfl ?_ (Nat.zero_le _) l.1)))
    rw [hf]
    simp only [bne_self_eq_false, Bool.false_eq_true, if_false]
    exact wpAny_pure l.2
theorem sorted_at {l : Addr} {vs : List Value} {Q : Value → Shared → Prop} {lt : Nat → Nat → Bool} (W : Srt.Swo lt) (hl : s.heap.IsList l vs.toArray) (hz2 : vs.length ≤ 2000) (h64 : Few lt vs.length)
    (hans : ∀ h', Ext s.heap h' → 2 ≤ vs.length → Answers prog w A.in1.in1 { s with heap := h' } vs lt)
    (h : ∀ h' a p c, Ext s.heap h' → s.heap.objs.size ≤ a → Arr vs.length lt p → h'.get? a = some (seqObj "list" (List.toArray (p.toList.map fun i => vs.getD i Value.none)) c) → Q (.ref a) { s with heap := h' }) :
    wpAny (model prog w) A (call (.builtin "sorted") [.ref l]) Q E s := by
  have zl : vs.length ≤ sizeLine := by rw [sizeLine_eq]; omega
  refine Calls.call_function_entry kind_sorted plain_sorted entry_sorted (args_sorted1 _) ?_
  unfold Builtin.«sorted»
  refine wpAny_bind (m := checkCount "sorted" 1 1 _) (wpAny_pure (wpAny_bind (collect_list hl (wpAny_bind (wpAny_newList ?_ zl)) zl)))
  have hsz : ((s.heap.push (seqObj "list" #[] 0)).update s.heap.objs.size (Obj.mapSeq (· ++ vs.toArray))).objs.size = s.heap.objs.size + 1 := (Heap.size_update _ _ _).trans (size_push' _ _)
  have x1 : Ext s.heap (((s.heap.push (seqObj "list" #[] 0)).update s.heap.objs.size (Obj.mapSeq (· ++ vs.toArray))).push (seqObj "list" vs.toArray 0)) := ((Ext.push _ _).upd (Nat.le_refl _)).trans (.push _ _)
  have o1 : (((s.heap.push (seqObj "list" #[] 0)).update s.heap.objs.size (Obj.mapSeq (· ++ vs.toArray))).push (seqObj "list" vs.toArray 0)).get? (s.heap.objs.size + 1) = some (seqObj "list" vs.toArray 0) := hsz ▸ Heap.get?_push_size _ rfl
  show wpAny (model prog w) _ _ _ _ { s with heap := ((s.heap.push (seqObj "list" #[] 0)).update s.heap.objs.size (Obj.mapSeq (· ++ vs.toArray))).push (seqObj "list" vs.toArray 0) }
  rw [hsz]
  refine wpAny_bind (wpAny_holding (wpAny_call_entry slot_list_sort ⟨_, o1, rfl⟩ entry_list_sort (list_sort_at W o1 hz2 h64 (h0 := s.heap) (Nat.le_succ _) x1 hans fun h' p c x ar e => ?_) (args_list_sort _)))
  exact ⟨_, rfl, wpAny_pure ⟨_, rfl, h h' _ p c x (Nat.le_succ _) ar e⟩⟩
end
end L2
set_option maxHeartbeats 4000000
namespace L2
open PySem PySem.Spec PySem.W PyProof.Rows
def isK : Nat → PyData → Prop
  | 0, .int _ => True
  | 1, .str _ => True
  | 2, .tuple (.int _ :: _) => True
  | 3, .tuple (.str _ :: _) => True
  | 4, .tuple (.tuple _ :: _) => True
  | _, _ => False
theorem isK_big (t : Nat) (d : PyData) : ¬ isK (t + 5) d := by
  intro h
  cases d with
  | tuple xs =>
    cases xs with
    | nil => exact h
    | cons x xs => cases x <;> exact h
  | _ => exact h
section
variable {prog : Program} {w : World} {A : Around} {s : Shared}
theorem oneLt_of {x y : Value} {c : Bool} (h : LtAt A s x y c) {Q : Bool → Shared → Prop} {E : Value → Shared → Prop} (q : Q c s) : wpAny (model prog w) A (oneLt' false x y) Q E s :=
  kat_one x y (h prog w E _ q)
theorem katlex {b fin : Bool} {Q : Bool → Shared → Prop} : ∀ (us vs : List Value) (xs ys : List PyData) (as bs : List Addr) (i : Nat), ReadsAll s.heap us xs as → ReadsAll s.heap vs ys bs → PyData.canLayAll0 xs = true → PyData.canLayAll0 ys = true → sks xs ys = true →
    PyData.depthAll xs ≤ 60 → A.units + 60 < cLine → (i = 0 → b = true → (∃ p q r r', xs = .int p :: r ∧ ys = .int q :: r') ∨ ∃ p q r r', xs = .str p :: r ∧ ys = .str q :: r') → fin = decide (us.length < vs.length) → Q (ltDs xs ys) s → KatLex prog w A b fin Q (us.zip vs) i s
  | [], vs, _, ys, _, _, i, .nil, rb, _, _, _, _, _, _, hf, q => by
    have ly := SeqAt.ReadsAll.length _ _ _ rb
    show Q fin s
    rw [hf]
    cases ys with
    | nil => rw [List.length_nil] at ly ⊢; rw [ly]; exact q
    | cons y ys => rw [ly]; exact q
  | u :: us, [], xs, _, _, _, i, ra, .nil, _, _, _, _, _, _, hf, q => by
    cases ra
    show Q fin s
    rw [hf]
    exact q
  | u :: us, v :: vs, _, _, _, _, i, .cons (d := x) (ds := xs) r1 t1, .cons (d := y) (ds := ys) r2 t2, ca, cb, hk, hd, hu, h0, hf, q => by
    have ca' : (x.canLay0 && PyData.canLayAll0 xs) = true := ca
    have cb' : (y.canLay0 && PyData.canLayAll0 ys) = true := cb
    rw [Bool.and_eq_true] at ca' cb'
    rw [sks, Bool.and_eq_true] at hk
    have hdx : x.depth ≤ 60 ∧ PyData.depthAll xs ≤ 60 := by
      have : max x.depth (PyData.depthAll xs) ≤ 60 := hd
      omega
    have eq' := SeqAt.eqAt_reads x y A s u v _ _ r1 r2 ca'.1 cb'.1 (by omega)
    refine kat_cons (eq' prog w _ _ ?_)
    cases e : PyData.eqv x y with
    | true =>
      rw [ltDs, if_pos e] at q
      refine kat_yes (katlex us vs xs ys _ _ (i + 1) t1 t2 ca'.2 cb'.2 hk.2 hdx.2 hu (fun z => by omega) ?_ q)
      rw [hf]
      simp
    | false =>
      rw [ltDs, if_neg (by rw [e]; decide)] at q
      refine kat_no ?_
      by_cases hb : (b && i == 0) = true
      · rw [hb]
        rw [Bool.and_eq_true] at hb
        rcases h0 (by simpa using hb.2) hb.1 with ⟨p, p', r, r', e1, e2⟩ | ⟨p, p', r, r', e1, e2⟩
        · cases e1; cases e2
          cases r1; cases r2
          exact oneLt_int q
        · cases e1; cases e2
          cases r1; cases r2
          exact oneLt_str q
      · rw [Bool.not_eq_true] at hb
        rw [hb]
        exact oneLt_of (lt_reads 60 x y A s u v _ _ hdx.1 r1 r2 ca'.1 cb'.1 hk.1 (fun z => by
          subst z
          have := hk.1
          cases y <;> simp [sk, PyData.eqv] at this e) hu) q
theorem firsts_of {s : Shared} : ∀ {vs : List Value} {ds : List PyData} {as : List Addr}, ReadsAll s.heap vs ds as → (∀ d ∈ ds, ∃ f r, d = .tuple (f :: r)) → ∃ fs, KatTups s.heap vs fs ∧ fs.length = vs.length ∧ ∀ v ∈ fs, ∃ f r bs, PyData.tuple (f :: r) ∈ ds ∧ Reads s.heap v f bs
  | [], _, _, .nil, _ => ⟨[], trivial, rfl, fun _ z => nomatch z⟩
  | v :: vs, _, _, .cons (d := d) (ds := ds) r t, h => by
    obtain ⟨fs, k1, k2, k3⟩ := firsts_of t fun x hx => h x (List.mem_cons_of_mem _ hx)
    obtain ⟨f, r', e⟩ := h d List.mem_cons_self
    subst e
    cases r with
    | tuple h1 h2 h3 h4 =>
      rename_i a o us n
      cases e : us.toList with
      | nil => rw [e] at h4; cases h4
      | cons u ut =>
        rw [e] at h4
        cases h4 with
        | cons q1 q2 =>
          refine ⟨u :: fs, KatTups.cons h1 h2 h3 (by rw [← Array.getElem?_toList, e]; rfl) k1, by rw [List.length_cons, List.length_cons, k2], fun v hv => ?_⟩
          rcases List.mem_cons.mp hv with rfl | hv
          · exact ⟨f, r', _, List.mem_cons_self, q1⟩
          · obtain ⟨f', r'', bs, m, q⟩ := k3 v hv
            exact ⟨f', r'', bs, List.mem_cons_of_mem _ m, q⟩
def keyAt (ds : List PyData) (i : Nat) : PyData := ds.getD i (ds.headD .none)
theorem keyAt_mem {ds : List PyData} (h : ds ≠ []) (i : Nat) : keyAt ds i ∈ ds := by
  unfold keyAt
  rw [List.getD_eq_getElem?_getD]
  cases e : ds[i]? with
  | some x => exact List.mem_of_getElem? e
  | none =>
    cases ds with
    | nil => exact absurd rfl h
    | cons a b => exact List.mem_cons_self
def ltK (ds : List PyData) (i j : Nat) : Bool := ltD (keyAt ds i) (keyAt ds j)
theorem swo_of {ds : List PyData} (h : ∀ a ∈ ds, ∀ b ∈ ds, sk a b = true) : Srt.Swo (ltK ds) := by
  by_cases e : ds = []
  · subst e
    exact ⟨fun _ => rfl, fun _ _ _ z => (by cases z), fun _ _ _ z => (by cases z)⟩
  · have m := keyAt_mem e
    exact ⟨fun _ => ltD_irr _, fun a b c => ltD_tr _ _ _ (h _ (m a) _ (m b)) (h _ (m b) _ (m c)) (h _ (m a) _ (m c)), fun a b c => ltD_nt _ _ _ (h _ (m a) _ (m b)) (h _ (m b) _ (m c)) (h _ (m a) _ (m c))⟩
structure KeysAre (ds : List PyData) (t : Nat) : Prop where
  lay : PyData.canLayAll0 ds = true
  kind : ∀ d ∈ ds, isK t d
  one : ∀ a ∈ ds, ∀ b ∈ ds, sk a b = true
  deep : ∀ d ∈ ds, d.depth ≤ 60
theorem answers_of {ks : List Value} {ds : List PyData} {as : List Addr} {t : Nat} (r : ReadsAll s.heap ks ds as) (K : KeysAre ds t) (h2 : 2 ≤ ks.length) (hu : A.units + 60 < cLine) : Answers prog w A s ks (ltK ds) := by
  have hl := SeqAt.ReadsAll.length _ _ _ r
  have look : ∀ i, i < ks.length → ∃ bs, Reads s.heap (ks.getD i Value.none) (keyAt ds i) bs ∧ keyAt ds i ∈ ds := fun i hi => by
    obtain ⟨bs, q⟩ := reads_at hi r
    have e1 : ks.getD i Value.none = ks[i] := by simp [hi]
    have e2 : keyAt ds i = ds.getD i .none := by
      have hi' : i < ds.length := by omega
      unfold keyAt
      rw [List.getD_eq_getElem?_getD, List.getD_eq_getElem?_getD, List.getElem?_eq_getElem hi']
      rfl
    refine ⟨bs, by rw [e1, e2]; exact q, keyAt_mem (fun z => ?_) i⟩
    rw [z, List.length_nil] at hl
    omega
  have memo : ∀ v ∈ ks, ∃ d bs, d ∈ ds ∧ Reads s.heap v d bs := fun v hv => by
    obtain ⟨i, hi, e⟩ := List.mem_iff_getElem.mp hv
    obtain ⟨bs, q, m⟩ := look i hi
    exact ⟨_, bs, m, by rw [← e]; simpa [hi] using q⟩
  have lays : ∀ d ∈ ds, d.canLay0 = true := fun d hd => by
    obtain ⟨i, hi, e⟩ := List.mem_iff_getElem.mp hd
    exact lay_get (j := i) K.lay (by rw [List.getElem?_eq_getElem hi, e])
  have tups : (∀ d ∈ ds, ∃ f r, d = .tuple (f :: r)) → (T : Value) → (∀ v f bs r, Reads s.heap v f bs → PyData.tuple (f :: r) ∈ ds → Looks (model prog w) s.heap (typeOf v) T) → (T == T) = true →
      ((T != Value.type "tuple") = true → ∀ d ∈ ds, ∀ d' ∈ ds, (∃ p q r r', d = .tuple (.int p :: r) ∧ d' = .tuple (.int q :: r')) ∨ ∃ p q r r', d = .tuple (.str p :: r) ∧ d' = .tuple (.str q :: r')) → Answers prog w A s ks (ltK ds) := fun h1 T h2' h3 h4 => by
    obtain ⟨fs, k1, k2, k3⟩ := firsts_of r h1
    refine ⟨tuples' (T != Value.type "tuple"), fun Q q => kat_kind k1 (by omega) (fun v hv => ?_) h3 q, fun i j C hi hj c => ?_⟩
    · obtain ⟨f, r', bs, m, q⟩ := k3 v hv
      exact h2' v f bs r' q m
    · obtain ⟨b1, q1, m1⟩ := look i hi
      obtain ⟨b2, q2, m2⟩ := look j hj
      unfold ltK at c
      obtain ⟨f1, r1, e1⟩ := h1 _ m1
      obtain ⟨f2, r2, e2⟩ := h1 _ m2
      have d1 := K.deep _ m1
      have kk := K.one _ m1 _ m2
      have lay1 := lays _ m1
      have lay2 := lays _ m2
      have hb := fun z => h4 z _ m1 _ m2
      rw [e1] at q1 d1 kk lay1 hb c
      rw [e2] at q2 kk lay2 hb c
      unfold kas_ask
      cases ev1 : ks.getD i Value.none <;> rw [ev1] at q1 <;> try (cases q1; done)
      cases ev2 : ks.getD j Value.none <;> rw [ev2] at q2 <;> try (cases q2; done)
      cases q1 with
      | tuple x1 x2 x3 x4 =>
        cases q2 with
        | tuple y1 y2 y3 y4 =>
          refine kat_lt x1 x3 y1 y3 (katlex _ _ _ _ _ _ 0 x4 y4 lay1 lay2 (by simpa [sk] using kk) ?_ hu (fun _ z => ?_) (by simp) (by rw [ltD] at c; exact c))
          · have : PyData.depthAll (f1 :: r1) + 1 ≤ 60 := d1
            omega
          · rcases hb z with ⟨p, q, r, r', g1, g2⟩ | ⟨p, q, r, r', g1, g2⟩
            · exact .inl ⟨p, q, r, r', PyData.tuple.inj g1, PyData.tuple.inj g2⟩
            · exact .inr ⟨p, q, r, r', PyData.tuple.inj g1, PyData.tuple.inj g2⟩
  match t, K.kind with
  | 0, hk =>
    refine ⟨oneType', fun Q q => kas_kind (T := Value.type "int") h2 (fun v hv => ?_) rfl rfl q, fun i j C hi hj c => ?_⟩
    · obtain ⟨d, bs, m, q⟩ := memo v hv
      have := hk d m
      cases d <;> simp only [isK] at this
      cases q
      exact Looks.of_pure rfl
    · obtain ⟨b1, q1, m1⟩ := look i hi
      obtain ⟨b2, q2, m2⟩ := look j hj
      unfold ltK at c
      unfold kas_ask
      have t1 := hk _ m1
      have t2 := hk _ m2
      cases e1 : keyAt ds i <;> rw [e1] at t1 <;> simp only [isK] at t1
      cases e2 : keyAt ds j <;> rw [e2] at t2 <;> simp only [isK] at t2
      rw [e1] at q1 c
      rw [e2] at q2 c
      cases ev1 : ks.getD i Value.none <;> rw [ev1] at q1 <;> try (cases q1; done)
      cases ev2 : ks.getD j Value.none <;> rw [ev2] at q2 <;> try (cases q2; done)
      cases q1; cases q2
      rw [keyLt'_oneType]
      exact oneLt_int c
  | 1, hk =>
    refine ⟨oneType', fun Q q => kas_kind (T := Value.type "str") h2 (fun v hv => ?_) rfl rfl q, fun i j C hi hj c => ?_⟩
    · obtain ⟨d, bs, m, q⟩ := memo v hv
      have := hk d m
      cases d <;> simp only [isK] at this
      cases q
      exact Looks.of_pure rfl
    · obtain ⟨b1, q1, m1⟩ := look i hi
      obtain ⟨b2, q2, m2⟩ := look j hj
      unfold ltK at c
      unfold kas_ask
      have t1 := hk _ m1
      have t2 := hk _ m2
      cases e1 : keyAt ds i <;> rw [e1] at t1 <;> simp only [isK] at t1
      cases e2 : keyAt ds j <;> rw [e2] at t2 <;> simp only [isK] at t2
      rw [e1] at q1 c
      rw [e2] at q2 c
      cases ev1 : ks.getD i Value.none <;> rw [ev1] at q1 <;> try (cases q1; done)
      cases ev2 : ks.getD j Value.none <;> rw [ev2] at q2 <;> try (cases q2; done)
      cases q1; cases q2
      rw [keyLt'_oneType]
      exact oneLt_str c
  | 2, hk =>
    have sh : ∀ d ∈ ds, ∃ p r, d = .tuple (.int p :: r) := fun d hd => by
      have := hk d hd
      unfold isK at this
      split at this <;> first | cases this | skip
      all_goals first | exact ⟨_, _, rfl⟩ | omega | (rename_i h _; cases h) | (exfalso; simp_all)
    refine tups (fun d hd => let ⟨p, r, e⟩ := sh d hd; ⟨_, r, e⟩) (Value.type "int") (fun v f bs r' q m => ?_) rfl fun _ d hd d' hd' => ?_
    · obtain ⟨p, r2, e⟩ := sh _ m
      cases e
      cases q
      exact Looks.of_pure rfl
    · obtain ⟨p, r1, e1⟩ := sh d hd
      obtain ⟨q, r2, e2⟩ := sh d' hd'
      exact .inl ⟨p, q, r1, r2, e1, e2⟩
  | 3, hk =>
    have sh : ∀ d ∈ ds, ∃ p r, d = .tuple (.str p :: r) := fun d hd => by
      have := hk d hd
      unfold isK at this
      split at this <;> first | cases this | skip
      all_goals first | exact ⟨_, _, rfl⟩ | omega | (rename_i h _; cases h) | (exfalso; simp_all)
    refine tups (fun d hd => let ⟨p, r, e⟩ := sh d hd; ⟨_, r, e⟩) (Value.type "str") (fun v f bs r' q m => ?_) rfl fun _ d hd d' hd' => ?_
    · obtain ⟨p, r2, e⟩ := sh _ m
      cases e
      cases q
      exact Looks.of_pure rfl
    · obtain ⟨p, r1, e1⟩ := sh d hd
      obtain ⟨q, r2, e2⟩ := sh d' hd'
      exact .inr ⟨p, q, r1, r2, e1, e2⟩
  | 4, hk =>
    have sh : ∀ d ∈ ds, ∃ p r, d = .tuple (.tuple p :: r) := fun d hd => by
      have := hk d hd
      unfold isK at this
      split at this <;> first | cases this | skip
      all_goals first | exact ⟨_, _, rfl⟩ | omega | (rename_i h _; cases h) | (exfalso; simp_all)
    refine tups (fun d hd => let ⟨p, r, e⟩ := sh d hd; ⟨_, r, e⟩) (Value.type "tuple") (fun v f bs r' q m => ?_) rfl fun z => absurd z (by decide)
    obtain ⟨p, r2, e⟩ := sh _ m
    cases e
    cases q with
    | tuple h1 h2 h3 h4 =>
      have := (Looks.ld (M := model prog w) (part := none) h1)
      rw [← h2]
      exact (Looks.ld h1).andThen .now
  | t + 5, hk =>
    exfalso
    obtain ⟨bs, q, m⟩ := look 0 (by omega)
    exact isK_big t _ (hk _ m)
end
end L2
set_option maxHeartbeats 4000000
namespace L2
open PySem PySem.Spec PySem.W PyProof.Rows
def SortIx (ds : List PyData) (ix : List Nat) : Prop := ix.Perm (List.range ds.length) ∧ (ix.map (keyAt ds)).Pairwise fun a b => ltD b a = false
theorem sortIx_of {ds : List PyData} {p : Array Nat} (h : Arr ds.length (ltK ds) p) : SortIx ds p.toList := by
  have hs : p.size = ds.length := by rw [h.1.size_eq]; simp
  refine ⟨by simpa using h.1.toList, ?_⟩
  rw [List.pairwise_iff_getElem]
  intro i j hi hj hij
  rw [List.length_map, Array.length_toList] at hi hj
  have := h.2 i j (by omega) (by omega)
  unfold ltK Srt.g at this
  rw [List.getElem_map, List.getElem_map]
  simpa [Array.getD, hi, hj] using this
theorem vals_getD {ys : List V} {us : List Value} (r : Vals ys us) (ix : List Nat) (h : ∀ i ∈ ix, i < ys.length) : Vals (ix.map fun i => ys.getD i .non) (ix.map fun i => us.getD i Value.none) := by
  induction ix with
  | nil => exact .nil
  | cons i ix ih =>
    have hi := h i List.mem_cons_self
    obtain ⟨u, hu, ru⟩ := r.get (i := i) (x := ys[i]) (List.getElem?_eq_getElem hi)
    refine .cons ?_ (ih fun j hj => h j (List.mem_cons_of_mem _ hj))
    show RelV (ys.getD i .non) (us.getD i Value.none)
    rw [List.getD_eq_getElem?_getD, List.getD_eq_getElem?_getD, hu, List.getElem?_eq_getElem hi]
    exact ru
def rSortD (K : PySem.W.Frag) : List V → Hp → VK → Prop := fun xs H Q => ∃ p ys ds t, xs = [.ref p] ∧ SqL K H p ys ∧ DVs K H ys ds ∧ KeysAre ds t ∧ ys.length < 64 ∧
  ∀ q H' ix, H q = none → Same H H' → SortIx ds ix → H' q = some (.lst (ix.map fun i => ys.getD i .non)) → Q (.ref q) H'
theorem dvs_length {K : PySem.W.Frag} {H : Hp} : ∀ {xs : List V} {ds : List PyData}, DVs K H xs ds → xs.length = ds.length
  | _, _, .nil => rfl
  | _, _, .cons _ t => by rw [List.length_cons, List.length_cons, dvs_length t]
mutual
theorem reads_ext {h h' : Heap} (x : Ext h h') : ∀ {v : Value} {d : PyData} {as : List Addr}, Reads h v d as → Reads h' v d as
  | _, _, _, .none => .none
  | _, _, _, .bool b => .bool b
  | _, _, _, .int i t => .int i t
  | _, _, _, .str z t => .str z t
  | _, _, _, .list h1 h2 h3 h4 => .list (x _ _ h1) h2 h3 (readsA_ext x h4)
  | _, _, _, .tuple h1 h2 h3 h4 => .tuple (x _ _ h1) h2 h3 (readsA_ext x h4)
  | _, _, _, .dict h1 h2 h3 h4 h5 => .dict (x _ _ h1) h2 h3 (readsA_ext x h4) (readsA_ext x h5)
theorem readsA_ext {h h' : Heap} (x : Ext h h') : ∀ {v : List Value} {d : List PyData} {as : List Addr}, ReadsAll h v d as → ReadsAll h' v d as
  | _, _, _, .nil => .nil
  | _, _, _, .cons a b => .cons (reads_ext x a) (readsA_ext x b)
end
section
variable {X : Cx}
theorem call_sortedD (hu : X.A.units + 3 + 61 < cLine) : CallR X (.builtin "sorted") (rSortD X.K) := by
  intro pins s σ H xs us Q I r h
  obtain ⟨p, ys, ds, t, rfl, hq, hd, hk, h64, q⟩ := h
  obtain ⟨u, rfl, ru⟩ := vals1 r
  cases ru
  obtain ⟨its, rv, pl, hz⟩ := I.list hq
  have hl := rv.length
  have hdl := dvs_length hd
  obtain ⟨as, ra⟩ := hd.reads I rv
  refine sorted_at (vs := its) (lt := ltK ds) (swo_of hk.one) pl.isList (by omega) (.inl (by omega)) (fun h' x h2 => ?_) fun h' a pm c x ha ar e => ?_
  · exact answers_of (readsA_ext x ra) hk h2 (by show X.A.units + 1 + 1 + 60 < cLine; omega)
  · have hix : ∀ i ∈ pm.toList, i < ys.length := fun i hi => by
      have := (ar.1.toList.mem_iff).mp hi
      simp at this
      omega
    refine ⟨.ref a, upd H a (.lst (pm.toList.map fun i => ys.getD i .non)), I.laid x ha ⟨?_, _, c, vals_getD rv _ hix, e⟩, rfl, q a _ pm.toList (I.hok.fresh ha) (Same.new (I.hok.fresh ha)) (sortIx_of (by rw [← hdl, hl]; exact ar)) upd_same⟩
    rw [List.length_map, Array.length_toList, ar.1.size_eq]
    simp
    omega
end
end L2
set_option maxHeartbeats 4000000
namespace L2
open PySem PySem.Spec PySem.W PyProof.Rows
section
variable {P : Program} {w : World} {A : Around} {E : Value → Shared → Prop} {s : Shared}
def IsTwo (P : Program) (w : World) (h : Heap) (ks ls : List Key) (a : Addr) : Prop := ∃ o c d n, h.get? a = some o ∧ o.cls = .type "tuple" ∧ o.data = .seq #[.ref c, .ref d] n ∧ (tupleKind (mixKind P w)).is h ks c ∧ (tupleKind (mixKind P w)).is h ls d
def GIs (P : Program) (w : World) (h : Heap) : KD → Value → Prop
  | .non, v => v = .none
  | .int i, v => ∃ t, v = .int i t
  | .tup ks, v => ∃ a, v = .ref a ∧ (tupleKind (mixKind P w)).is h ks a
  | .two ks ls, v => ∃ a, v = .ref a ∧ IsTwo P w h ks ls a
def gDraws (P : Program) (w : World) : KD → Nat
  | .non => 1
  | .int _ => 1
  | .tup ks => (tupleKind (mixKind P w)).draws ks
  | .two ks ls => (tupleKind (mixKind P w)).draws ks + (tupleKind (mixKind P w)).draws ls + 1
theorem two_inj {h : Heap} {a : Addr} {ks ls ks' ls' : List Key} (x : IsTwo P w h ks ls a) (y : IsTwo P w h ks' ls' a) : ks = ks' ∧ ls = ls' := by
  obtain ⟨o, c, d, n, h1, h2, h3, h4, h5⟩ := x
  obtain ⟨o', c', d', n', k1, k2, k3, k4, k5⟩ := y
  rw [h1] at k1
  cases k1
  rw [h3] at k3
  injection k3 with e _
  have e1 : c = c' := by have := congrArg (fun z : Array Value => z[0]?) e; simpa using this
  have e2 : d = d' := by have := congrArg (fun z : Array Value => z[1]?) e; simpa using this
  subst e1 e2
  exact ⟨(tupleKind (mixKind P w)).inj h4 k4, (tupleKind (mixKind P w)).inj h5 k5⟩
theorem two_tup {h : Heap} {a : Addr} {ks ls js : List Key} (x : IsTwo P w h ks ls a) (y : (tupleKind (mixKind P w)).is h js a) : False := by
  obtain ⟨o, c, d, n, h1, h2, h3, h4, h5⟩ := x
  obtain ⟨o', its, n', k1, k2, k3, k4⟩ := y
  rw [h1] at k1
  cases k1
  rw [h3] at k3
  injection k3 with e _
  subst e
  have := k4.byValue (.ref c) (by simp)
  cases this
theorem items_conv {P' : Program} {w' : World} {ks : List Key} {vs : List Value} (x : ItemsAre (mixKind P w) ks vs) : ItemsAre (mixKind P' w') ks vs := by
  induction x with
  | nil => exact .nil
  | cons h _ ih => exact .cons h ih
theorem flat_conv {P' : Program} {w' : World} {h : Heap} {ks : List Key} {a : Addr} (x : (tupleKind (mixKind P w)).is h ks a) : (tupleKind (mixKind P' w')).is h ks a := by
  obtain ⟨o, its, n, h1, h2, h3, h4⟩ := x
  exact ⟨o, its, n, h1, h2, h3, items_conv h4⟩
theorem flat_eqAt {ks ls : List Key} {a b : Addr} (hu : A.units < cLine) (x : (tupleKind (mixKind P w)).is s.heap ks a) (y : (tupleKind (mixKind P w)).is s.heap ls b) : SeqAt.EqAt A s (.ref a) (.ref b) (decide (ks = ls)) := fun P' w' E Q q => (tupleKind (mixKind P' w')).eqBool hu (flat_conv x) (flat_conv y) q
theorem IsTwo.tuple {h : Heap} {ks ls : List Key} {a : Addr} (x : IsTwo P w h ks ls a) : ∃ c d, h.IsTuple a #[.ref c, .ref d] ∧ (tupleKind (mixKind P w)).is h ks c ∧ (tupleKind (mixKind P w)).is h ls d := by
  obtain ⟨o, c, d, n, h1, h2, h3, h4, h5⟩ := x
  exact ⟨c, d, ⟨o, h1, h2, n, h3⟩, h4, h5⟩
theorem flat_tuple {h : Heap} {ks : List Key} {a : Addr} (x : (tupleKind (mixKind P w)).is h ks a) : ∃ its, h.IsTuple a its ∧ ItemsAre (mixKind P w) ks its.toList := by
  obtain ⟨o, its, n, h1, h2, h3, h4⟩ := x
  exact ⟨its, ⟨o, h1, h2, n, h3⟩, h4⟩
theorem two_eqAt {ks ls ks' ls' : List Key} {a b : Addr} (hu : A.units + 1 < cLine) (x : IsTwo P w s.heap ks ls a) (y : IsTwo P w s.heap ks' ls' b) : SeqAt.EqAt A s (.ref a) (.ref b) (decide (KD.two ks ls = KD.two ks' ls')) := by
  by_cases hab : a = b
  · subst hab
    obtain ⟨rfl, rfl⟩ := two_inj x y
    rw [decide_eq_true rfl]
    exact SeqAt.EqAt.same _
  · obtain ⟨c, d, t1, h1, h2⟩ := x.tuple
    obtain ⟨c', d', t2, k1, k2⟩ := y.tuple
    have e : decide (KD.two ks ls = KD.two ks' ls') = ((List.range (min (#[Value.ref c, .ref d] : Array Value).size (#[Value.ref c', .ref d'] : Array Value).size)).all (fun j => if j = 0 then decide (ks = ks') else decide (ls = ls')) && (#[Value.ref c, .ref d] : Array Value).size == (#[Value.ref c', .ref d'] : Array Value).size) := by
      show _ = ((if 0 = 0 then decide (ks = ks') else decide (ls = ls')) && ((if 1 = 0 then decide (ks = ks') else decide (ls = ls')) && true) && true)
      rw [if_pos rfl, if_neg (by decide), Bool.and_true, Bool.and_true, Bool.eq_iff_iff]
      simp
    rw [e]
    refine SeqAt.EqAt.of_refs hab (SeqAt.RcAt.tuples t1 t2 (by omega) fun j j1 j2 => ?_)
    match j, j1, j2 with
    | 0, _, _ => exact flat_eqAt (show A.in1.units < cLine from hu) h1 k1
    | 1, _, _ => exact flat_eqAt (show A.in1.units < cLine from hu) h2 k2
theorem all_no {n m : Nat} (h : 0 < m) : ((List.range (min m n)).all (fun _ => false) && m == n) = false := by
  by_cases e : m = n
  · subst e
    rw [Nat.min_self]
    cases m with
    | zero => omega
    | succ m => rw [List.range_succ_eq_map]; rfl
  · rw [show (m == n) = false from beq_eq_false_iff_ne.mpr e, Bool.and_false]
theorem all_no' {n m : Nat} (h : 0 < m) : ((List.range (min n m)).all (fun _ => false) && n == m) = false := by
  by_cases e : n = m
  · subst e
    rw [Nat.min_self]
    cases n with
    | zero => omega
    | succ m => rw [List.range_succ_eq_map]; rfl
  · rw [show (n == m) = false from beq_eq_false_iff_ne.mpr e, Bool.and_false]
theorem item_shape {ks : List Key} {vs : List Value} (x : ItemsAre (mixKind P w) ks vs) : ∀ (j : Nat) v, vs[j]? = some v → (∃ i t, v = .int i t) ∨ ∃ z t, v = .str z t := by
  induction x with
  | nil => intro j v e; cases e
  | cons h _ ih =>
    intro j v e
    cases j with
    | zero =>
      cases e
      rcases keyIs_shape (show keyIs _ _ = true from h) with ⟨i, t, _, e⟩ | ⟨z, t, _, e⟩
      · exact .inl ⟨i, t, e⟩
      · exact .inr ⟨z, t, e⟩
    | succ j => exact ih j v (by simpa using e)
theorem twoTup_eqAt {ks ls js : List Key} {a b : Addr} (hu : A.units + 1 < cLine) (x : IsTwo P w s.heap ks ls a) (y : (tupleKind (mixKind P w)).is s.heap js b) : SeqAt.EqAt A s (.ref a) (.ref b) false := by
  have hab : a ≠ b := fun z => by subst z; exact two_tup x y
  obtain ⟨c, d, t1, h1, h2⟩ := x.tuple
  obtain ⟨its, t2, k1⟩ := flat_tuple y
  have e : false = ((List.range (min (#[Value.ref c, .ref d] : Array Value).size its.size)).all (fun _ => false) && (#[Value.ref c, .ref d] : Array Value).size == its.size) := (all_no (m := 2) (by decide)).symm
  rw [e]
  refine SeqAt.EqAt.of_refs hab (SeqAt.RcAt.tuples t1 t2 (by omega) fun j j1 j2 => ?_)
  obtain ⟨i1, q1, _⟩ := flat_tuple h1
  obtain ⟨i2, q2, _⟩ := flat_tuple h2
  have hv := item_shape k1 j its[j] (by rw [Array.getElem?_toList, Array.getElem?_eq_getElem j2])
  have hin : A.in1.units < cLine := hu
  match j, j1, j2, hv with
  | 0, _, _, hv =>
    rcases hv with ⟨i, t, e⟩ | ⟨z, t, e⟩
    · rw [e]; exact SeqAt.EqAt.tuple_int i t q1 hin
    · rw [e]; exact SeqAt.EqAt.tuple_str z t q1 hin
  | 1, _, _, hv =>
    rcases hv with ⟨i, t, e⟩ | ⟨z, t, e⟩
    · rw [e]; exact SeqAt.EqAt.tuple_int i t q2 hin
    · rw [e]; exact SeqAt.EqAt.tuple_str z t q2 hin
theorem tupTwo_eqAt {ks ls js : List Key} {a b : Addr} (hu : A.units + 1 < cLine) (y : (tupleKind (mixKind P w)).is s.heap js a) (x : IsTwo P w s.heap ks ls b) : SeqAt.EqAt A s (.ref a) (.ref b) false := by
  have hab : a ≠ b := fun z => by subst z; exact two_tup x y
  obtain ⟨c, d, t1, h1, h2⟩ := x.tuple
  obtain ⟨its, t2, k1⟩ := flat_tuple y
  have e : false = ((List.range (min its.size (#[Value.ref c, .ref d] : Array Value).size)).all (fun _ => false) && its.size == (#[Value.ref c, .ref d] : Array Value).size) := (all_no' (m := 2) (by decide)).symm
  rw [e]
  refine SeqAt.EqAt.of_refs hab (SeqAt.RcAt.tuples t2 t1 (by omega) fun j j2 j1 => ?_)
  obtain ⟨i1, q1, _⟩ := flat_tuple h1
  obtain ⟨i2, q2, _⟩ := flat_tuple h2
  have hv := item_shape k1 j its[j] (by rw [Array.getElem?_toList, Array.getElem?_eq_getElem j2])
  have hin : A.in1.units < cLine := hu
  match j, j1, j2, hv with
  | 0, _, _, hv =>
    rcases hv with ⟨i, t, e⟩ | ⟨z, t, e⟩
    · rw [e]; exact SeqAt.EqAt.int_tuple i t q1 hin
    · rw [e]; exact SeqAt.EqAt.str_tuple z t q1 hin
  | 1, _, _, hv =>
    rcases hv with ⟨i, t, e⟩ | ⟨z, t, e⟩
    · rw [e]; exact SeqAt.EqAt.int_tuple i t q2 hin
    · rw [e]; exact SeqAt.EqAt.str_tuple z t q2 hin
theorem two_hash {ks ls : List Key} {a : Addr} {Q : Int → Shared → Prop} (hu : A.units + 1 < cLine) (hk : IsTwo P w s.heap ks ls a) (h : Q (gHash P w (.two ks ls)) { s with toks := s.toks + ((tupleKind (mixKind P w)).draws ks + (tupleKind (mixKind P w)).draws ls + 1) }) : wpAny (model P w) A (pyHash (.ref a)) Q E s := by
  obtain ⟨o, c, d, n, ho, hc, hd, h1, h2⟩ := hk
  have hT : s.TypeIs (.ref a) "tuple" := ⟨o, ho, hc⟩
  unfold pyHash
  unfold pyHashByItsType
  refine wpAny_bind (wpAny_cRoomFor_or (.inr (by omega)) ?_)
  refine wpAny_bind (wpAny_specialOf hT F.slot_tuple_hash.lookup ?_)
  show wpAny _ _ (if (some (Value.builtin "tuple.__hash__") == some Value.none) = true then _ else _) Q E s
  rw [if_neg (by rw [beq_builtin_none]; exact Bool.false_ne_true)]
  refine wpAny_bind (wpAny_specialOf hT F.slot_tuple_hash.lookup ?_)
  show wpAny _ _ (callSpecialIfBoundUnlessNone? (.ref a) "__hash__" _ >>= _) Q E s
  refine wpAny_bind (wpAny_callSpecialIfBoundUnlessNone?_slot hT F.slot_tuple_hash (wpAny_call_entry F.slot_tuple_hash hT F.entry_tuple_hash ?_ (F.args_tuple_hash_1 _)))
  show wpAny _ _ (Builtin.Tuple.tupleItemsOf (.ref a) >>= _) _ _ s
  refine wpAny_bind (wpAny_tupleItemsOf ho hd ?_)
  refine wpAny_bind ?_
  rw [← Array.forIn_toList]
  refine wpAny_forIn_list _
    (fun rest (b : Array Int) s' => (rest = [.ref c, .ref d] ∧ b.toList = [] ∧ s' = s) ∨ (rest = [.ref d] ∧ b.toList = [(tupleKind (mixKind P w)).hash ks] ∧ s' = { s with toks := s.toks + (tupleKind (mixKind P w)).draws ks }) ∨ (rest = [] ∧ b.toList = [(tupleKind (mixKind P w)).hash ks, (tupleKind (mixKind P w)).hash ls] ∧ s' = { s with toks := s.toks + (tupleKind (mixKind P w)).draws ks + (tupleKind (mixKind P w)).draws ls }))
    _ ?_ ?_ _ _ (.inl ⟨rfl, rfl, rfl⟩)
  · rintro x rest b s' (⟨e, hb, rfl⟩ | ⟨e, hb, rfl⟩ | ⟨e, hb, rfl⟩)
    · cases e
      refine wpAny_bind ((tupleKind (mixKind P w)).pyHash (show _ < cLine by first | exact hu | (show A.units + 1 < cLine; exact hu)) h1 ?_)
      first
        | exact wpAny_pure (.inr (.inl ⟨rfl, by simp [hb], rfl⟩))
        | exact wpAny_bind (wpAny_pure (wpAny_pure (.inr (.inl ⟨rfl, by simp [hb], rfl⟩))))
    · cases e
      refine wpAny_bind ((tupleKind (mixKind P w)).pyHash (s := { s with toks := s.toks + (tupleKind (mixKind P w)).draws ks }) (show _ < cLine by first | exact hu | (show A.units + 1 < cLine; exact hu)) h2 ?_)
      first
        | exact wpAny_pure (.inr (.inr ⟨rfl, by simp [hb], rfl⟩))
        | exact wpAny_bind (wpAny_pure (wpAny_pure (.inr (.inr ⟨rfl, by simp [hb], rfl⟩))))
    · cases e
  · rintro b s' (⟨e, hb, rfl⟩ | ⟨e, hb, rfl⟩ | ⟨e, hb, rfl⟩)
    · cases e
    · cases e
    · show wpAny _ _ (retInt (Builtin.Tuple.tupleHashOf b.toList)) _ _ _
      rw [hb]
      refine wpAny_ret_mkInt ?_
      show wpAny _ _ (if (decide (-(2 : Int) ^ 63 ≤ Builtin.Tuple.tupleHashOf [(tupleKind (mixKind P w)).hash ks, (tupleKind (mixKind P w)).hash ls]) && decide (Builtin.Tuple.tupleHashOf [(tupleKind (mixKind P w)).hash ks, (tupleKind (mixKind P w)).hash ls] < 2 ^ 63)) = true then _ else _) Q E _
      have h : Q (reduceHash (Builtin.Tuple.tupleHashOf [(tupleKind (mixKind P w)).hash ks, (tupleKind (mixKind P w)).hash ls])) { s with toks := s.toks + ((tupleKind (mixKind P w)).draws ks + (tupleKind (mixKind P w)).draws ls + 1) } := h
      unfold reduceHash at h
      by_cases hr : (decide (-(2 : Int) ^ 63 ≤ Builtin.Tuple.tupleHashOf [(tupleKind (mixKind P w)).hash ks, (tupleKind (mixKind P w)).hash ls]) && decide (Builtin.Tuple.tupleHashOf [(tupleKind (mixKind P w)).hash ks, (tupleKind (mixKind P w)).hash ls] < 2 ^ 63)) = true
      · rw [if_pos hr]
        rw [if_pos hr] at h
        exact wpAny_pure (by simpa [Nat.add_assoc] using h)
      · rw [if_neg hr]
        rw [if_neg hr] at h
        exact wpAny_bind (wpAny_rule (wpAny_pure (by simpa [Nat.add_assoc] using h)))
theorem quiet_flat {ks : List Key} {a : Addr} {m : Nat} {Q : Bool → Shared → Prop} (hk : (tupleKind (mixKind P w)).is s.heap ks a) (h : Q true s) : wpAny (model P w) A (eqIsQuiet (m + 1) (.ref a)) Q E s := by
  obtain ⟨o, items, n, ho, hc, hd, hi⟩ := hk
  have hT : s.TypeIs (.ref a) "tuple" := ⟨o, ho, hc⟩
  unfold eqIsQuiet
  refine wpAny_bind (wpAny_specialOf hT F.slot_tuple_eq.lookup ?_)
  show wpAny _ _ (isInstance (.ref a) (.type "tuple") >>= _) _ _ s
  refine wpAny_bind (wpAny_isInstance hT isSubtype_tuple_tuple ?_)
  simp only [Bool.not_true, Bool.false_eq_true, if_false]
  refine wpAny_bind (wpAny_seqItems ho hd ?_)
  refine wpAny_bind ?_
  show wpAny _ _ (forIn items _ _) _ _ s
  rw [← Array.forIn_toList]
  refine wpAny_forIn_list _ (fun rest r s' => r.1 = none ∧ s' = s ∧ ∀ v ∈ rest, carriedByValue v = true) _ ?_ ?_ _ _ ⟨rfl, rfl, hi.byValue⟩
  · rintro v rest r s' ⟨hr, rfl, hall⟩
    rw [eqIsQuiet_byValue _ (hall v List.mem_cons_self)]
    refine wpAny_bind (wpAny_pure ?_)
    simp only [Bool.not_true, Bool.false_eq_true, if_false]
    exact wpAny_pure ⟨rfl, rfl, fun u hu' => hall u (List.mem_cons_of_mem _ hu')⟩
  · rintro ⟨r1, r2⟩ s' ⟨hr, rfl, _⟩
    simp only at hr
    subst hr
    exact wpAny_pure h
theorem two_quiet {ks ls : List Key} {a : Addr} {Q : Bool → Shared → Prop} (hk : IsTwo P w s.heap ks ls a) (h : Q true s) : wpAny (model P w) A (eqIsQuiet 8 (.ref a)) Q E s := by
  obtain ⟨o, c, d, n, ho, hc, hd, h1, h2⟩ := hk
  have hT : s.TypeIs (.ref a) "tuple" := ⟨o, ho, hc⟩
  unfold eqIsQuiet
  refine wpAny_bind (wpAny_specialOf hT F.slot_tuple_eq.lookup ?_)
  show wpAny _ _ (isInstance (.ref a) (.type "tuple") >>= _) _ _ s
  refine wpAny_bind (wpAny_isInstance hT isSubtype_tuple_tuple ?_)
  simp only [Bool.not_true, Bool.false_eq_true, if_false]
  refine wpAny_bind (wpAny_seqItems ho hd ?_)
  refine wpAny_bind ?_
  show wpAny _ _ (forIn (#[.ref c, .ref d] : Array Value) _ _) _ _ s
  rw [← Array.forIn_toList]
  refine wpAny_forIn_list _ (fun rest r s' => r.1 = none ∧ s' = s ∧ ∀ v ∈ rest, v = .ref c ∨ v = .ref d) _ ?_ ?_ _ _ ⟨rfl, rfl, fun v hv => by simpa using hv⟩
  · rintro v rest r s' ⟨hr, rfl, hall⟩
    have hq : ∀ {Q' : Bool → Shared → Prop}, Q' true s' → wpAny (model P w) A (eqIsQuiet 7 v) Q' E s' := fun q => by
      rcases hall v List.mem_cons_self with rfl | rfl
      · exact quiet_flat (m := 6) h1 q
      · exact quiet_flat (m := 6) h2 q
    refine wpAny_bind (hq ?_)
    simp only [Bool.not_true, Bool.false_eq_true, if_false]
    exact wpAny_pure ⟨rfl, rfl, fun u hu' => hall u (List.mem_cons_of_mem _ hu')⟩
  · rintro ⟨r1, r2⟩ s' ⟨hr, rfl, _⟩
    simp only at hr
    subst hr
    exact wpAny_pure h
theorem GIs.inj {h : Heap} {x y : KD} {v : Value} (a : GIs P w h x v) (b : GIs P w h y v) : x = y := by
  cases x with
  | non =>
    cases a
    cases y with
    | non => rfl
    | int j => obtain ⟨_, e⟩ := b; cases e
    | tup ks => obtain ⟨_, e, _⟩ := b; cases e
    | two ks ls => obtain ⟨_, e, _⟩ := b; cases e
  | int i =>
    obtain ⟨t, rfl⟩ := a
    cases y with
    | non => cases b
    | int j => obtain ⟨_, e⟩ := b; cases e; rfl
    | tup ks => obtain ⟨_, e, _⟩ := b; cases e
    | two ks ls => obtain ⟨_, e, _⟩ := b; cases e
  | tup ks =>
    obtain ⟨p, rfl, q⟩ := a
    cases y with
    | non => cases b
    | int j => obtain ⟨_, e⟩ := b; cases e
    | tup ks' =>
      obtain ⟨_, e, q'⟩ := b
      cases e
      exact congrArg KD.tup ((tupleKind (mixKind P w)).inj q q')
    | two ks' ls' =>
      obtain ⟨_, e, q'⟩ := b
      cases e
      exact (two_tup q' q).elim
  | two ks ls =>
    obtain ⟨p, rfl, q⟩ := a
    cases y with
    | non => cases b
    | int j => obtain ⟨_, e⟩ := b; cases e
    | tup ks' =>
      obtain ⟨_, e, q'⟩ := b
      cases e
      exact (two_tup q q').elim
    | two ks' ls' =>
      obtain ⟨_, e, q'⟩ := b
      cases e
      obtain ⟨rfl, rfl⟩ := two_inj q q'
      rfl
theorem GIs.ext {h h' : Heap} {k : KD} {v : Value} (a : GIs P w h k v) (x : ∀ b o, h.get? b = some o → o.cls = .type "tuple" → h'.get? b = some o) : GIs P w h' k v := by
  cases k with
  | non => exact a
  | int i => exact a
  | tup ks =>
    obtain ⟨p, e, o, its, n, h1, h2, h3, h4⟩ := a
    exact ⟨p, e, o, its, n, x _ _ h1 h2, h2, h3, h4⟩
  | two ks ls =>
    obtain ⟨p, e, o, c, d, n, h1, h2, h3, ⟨o1, i1, n1, k1, k2, k3⟩, ⟨o2, i2, n2, l1, l2, l3⟩⟩ := a
    exact ⟨p, e, o, c, d, n, x _ _ h1 h2, h2, h3, ⟨o1, i1, n1, x _ _ k1 k2, k2, k3⟩, ⟨o2, i2, n2, x _ _ l1 l2, l2, l3⟩⟩
theorem hash_none {Q : Int → Shared → Prop} (h : Q 4238894112 { s with toks := s.toks + 1 }) : wpAny (model P w) A (pyHash .none) Q E s := by
  unfold pyHash
  have hT : s.TypeIs Value.none "NoneType" := rfl
  have hv : [Value.none].any Value.onHeap = false := rfl
  unfold pyHashByItsType
  refine wpAny_bind ?_
  rw [cRoomFor, if_neg (by rw [hv]; exact Bool.false_ne_true)]
  refine wpAny_pure (wpAny_bind (wpAny_specialOf hT F.slot_NoneType_hash.lookup ?_))
  show wpAny _ _ (if (some (Value.builtin "NoneType.__hash__") == some Value.none) = true then _ else _) Q E s
  rw [if_neg (by rw [beq_builtin_none]; exact Bool.false_ne_true)]
  refine wpAny_bind (wpAny_specialOf hT F.slot_NoneType_hash.lookup ?_)
  show wpAny _ _ (callSpecialIfBoundUnlessNone? .none "__hash__" _ >>= _) Q E s
  refine wpAny_bind (wpAny_callSpecialIfBoundUnlessNone?_slot hT F.slot_NoneType_hash (wpAny_call_entry F.slot_NoneType_hash hT F.entry_NoneType_hash (show wpAny _ _ (do ret (← mkInt 4238894112)) _ _ s from wpAny_ret_mkInt ?_) (F.args_NoneType_hash_1 _)))
  show wpAny _ _ (if (decide (-(2 : Int) ^ 63 ≤ 4238894112) && decide ((4238894112 : Int) < 2 ^ 63)) = true then _ else _) Q E _
  rw [if_pos (by decide)]
  exact wpAny_pure h
theorem GIs.hash {k : KD} {v : Value} (hu : A.units + 1 < cLine) (a : GIs P w s.heap k v) {Q : Int → Shared → Prop} (h : Q (gHash P w k) { s with toks := s.toks + gDraws P w k }) : wpAny (model P w) A (pyHash v) Q E s := by
  cases k with
  | non => cases a; exact hash_none h
  | int i => obtain ⟨t, rfl⟩ := a; exact wpAny_pyHash_int h
  | tup ks => obtain ⟨p, rfl, q⟩ := a; exact (tupleKind (mixKind P w)).pyHash (show A.units < cLine by omega) q h
  | two ks ls => obtain ⟨p, rfl, q⟩ := a; exact two_hash hu q h
theorem GIs.tuple {h : Heap} {ks : List Key} {v : Value} (a : GIs P w h (.tup ks) v) : ∃ p its, v = .ref p ∧ h.IsTuple p its := by
  obtain ⟨p, e, o, its, n, h1, h2, h3, _⟩ := a
  exact ⟨p, its, e, o, h1, h2, n, h3⟩
theorem GIs.tuple2 {h : Heap} {ks ls : List Key} {v : Value} (a : GIs P w h (.two ks ls) v) : ∃ p its, v = .ref p ∧ h.IsTuple p its := by
  obtain ⟨p, e, q⟩ := a
  obtain ⟨c, d, t, _⟩ := q.tuple
  exact ⟨p, _, e, t⟩
theorem GIs.eq {x y : KD} {u v : Value} (hu1 : A.units + 1 < cLine) (a : GIs P w s.heap x u) (b : GIs P w s.heap y v) {Q : Bool → Shared → Prop} (h : Q (decide (x = y)) s) : wpAny (model P w) A (eqBool u v) Q E s := by
  have ne : ∀ {z z' : KD}, z ≠ z' → decide (z = z') = false := fun q => decide_eq_false q
  have hu : A.units < cLine := by omega
  cases x with
  | non =>
    cases a
    cases y with
    | non => cases b; exact SeqAt.EqAt.same _ _ _ _ _ h
    | int j =>
      obtain ⟨t, rfl⟩ := b
      rw [ne (by intro z; cases z)] at h
      exact SeqAt.EqAt.none_int _ _ _ _ _ _ h
    | tup ks =>
      obtain ⟨p, its, rfl, q⟩ := b.tuple
      rw [ne (by intro z; cases z)] at h
      exact SeqAt.EqAt.none_tuple q hu _ _ _ _ h
    | two ks ls =>
      obtain ⟨p, its, rfl, q⟩ := b.tuple2
      rw [ne (by intro z; cases z)] at h
      exact SeqAt.EqAt.none_tuple q hu _ _ _ _ h
  | int i =>
    obtain ⟨t, rfl⟩ := a
    cases y with
    | non =>
      cases b
      rw [ne (by intro z; cases z)] at h
      exact SeqAt.EqAt.int_none _ _ _ _ _ _ h
    | int j =>
      obtain ⟨t, rfl⟩ := b
      refine SeqAt.EqAt.int_int _ _ _ _ _ _ _ _ ?_
      rw [show (i == j) = decide (KD.int i = KD.int j) from by by_cases z : i = j <;> simp [z]]
      exact h
    | tup ks =>
      obtain ⟨p, its, rfl, q⟩ := b.tuple
      rw [ne (by intro z; cases z)] at h
      exact SeqAt.EqAt.int_tuple _ _ q hu _ _ _ _ h
    | two ks ls =>
      obtain ⟨p, its, rfl, q⟩ := b.tuple2
      rw [ne (by intro z; cases z)] at h
      exact SeqAt.EqAt.int_tuple _ _ q hu _ _ _ _ h
  | tup ks =>
    cases y with
    | non =>
      cases b
      obtain ⟨p, its, rfl, q⟩ := a.tuple
      rw [ne (by intro z; cases z)] at h
      exact SeqAt.EqAt.tuple_none q hu _ _ _ _ h
    | int j =>
      obtain ⟨t, rfl⟩ := b
      obtain ⟨p, its, rfl, q⟩ := a.tuple
      rw [ne (by intro z; cases z)] at h
      exact SeqAt.EqAt.tuple_int _ _ q hu _ _ _ _ h
    | tup ks' =>
      obtain ⟨p, rfl, q⟩ := a
      obtain ⟨p', rfl, q'⟩ := b
      refine (tupleKind (mixKind P w)).eqBool hu q q' ?_
      rw [show decide (ks = ks') = decide (KD.tup ks = KD.tup ks') from by by_cases z : ks = ks' <;> simp [z]]
      exact h
    | two ks' ls' =>
      obtain ⟨p, rfl, q⟩ := a
      obtain ⟨p', rfl, q'⟩ := b
      rw [ne (by intro z; cases z)] at h
      exact tupTwo_eqAt hu1 q q' _ _ _ _ h
  | two ks ls =>
    cases y with
    | non =>
      cases b
      obtain ⟨p, its, rfl, q⟩ := a.tuple2
      rw [ne (by intro z; cases z)] at h
      exact SeqAt.EqAt.tuple_none q hu _ _ _ _ h
    | int j =>
      obtain ⟨t, rfl⟩ := b
      obtain ⟨p, its, rfl, q⟩ := a.tuple2
      rw [ne (by intro z; cases z)] at h
      exact SeqAt.EqAt.tuple_int _ _ q hu _ _ _ _ h
    | tup ks' =>
      obtain ⟨p, rfl, q⟩ := a
      obtain ⟨p', rfl, q'⟩ := b
      rw [ne (by intro z; cases z)] at h
      exact twoTup_eqAt hu1 q q' _ _ _ _ h
    | two ks' ls' =>
      obtain ⟨p, rfl, q⟩ := a
      obtain ⟨p', rfl, q'⟩ := b
      exact two_eqAt hu1 q q' _ _ _ _ h
theorem GIs.quiet {k : KD} {v : Value} (a : GIs P w s.heap k v) {Q : Bool → Shared → Prop} (h : Q true s) : wpAny (model P w) A (eqIsQuiet 8 v) Q E s := by
  cases k with
  | non => cases a; exact wpAny_pure h
  | int i => obtain ⟨t, rfl⟩ := a; exact wpAny_pure h
  | tup ks => obtain ⟨p, rfl, q⟩ := a; exact (tupleKind (mixKind P w)).quiet q h
  | two ks ls => obtain ⟨p, rfl, q⟩ := a; exact two_quiet q h
theorem g_tell {k : KD} {v : Value} {l : List Value} (a : GIs P w s.heap k v) (hl : ∀ u ∈ l, ∃ k', GIs P w s.heap k' u) {Q : Bool → Shared → Prop} (h : Q false s) : wpAny (model P w) A (tableMayTell v l) Q E s := by
  unfold tableMayTell
  split
  · exact wpAny_pure h
  · refine wpAny_bind (a.quiet ?_)
    rw [if_neg (by decide)]
    refine wpAny_bind (wpAny_forIn_list _ (fun r b s' => s' = s ∧ b = (none, ()) ∧ ∀ u ∈ r, ∃ k', GIs P w s.heap k' u) _ ?_ ?_ _ _ ⟨rfl, rfl, hl⟩)
    · rintro u r b s' ⟨rfl, rfl, hr⟩
      obtain ⟨k', hk⟩ := hr u List.mem_cons_self
      refine wpAny_bind (hk.quiet ?_)
      rw [if_neg (by decide)]
      exact wpAny_pure ⟨rfl, rfl, fun x hx => hr x (List.mem_cons_of_mem _ hx)⟩
    · rintro b s' ⟨rfl, rfl, _⟩
      exact wpAny_pure h
def gIdx (xs : List (KD × Value × Value)) (k : KD) : Option Nat := xs.findIdx? fun x => decide (x.1 = k)
theorem gIdx_some {xs : List (KD × Value × Value)} {k : KD} {j : Nat} {x : KD × Value × Value} (hn : (xs.map (·.1)).Nodup) (h : xs[j]? = some x) (e : x.1 = k) : gIdx xs k = some j := by
  unfold gIdx
  rw [List.findIdx?_eq_some_iff_getElem]
  obtain ⟨hj, ej⟩ := List.getElem?_eq_some_iff.mp h
  refine ⟨hj, by rw [ej, e]; simp, fun i hi => ?_⟩
  have : ¬ xs[i].1 = k := fun z => by
    have e1 : (xs.map (·.1))[i]? = some k := by rw [List.getElem?_map, List.getElem?_eq_getElem (by omega)]; simp [z]
    have e2 : (xs.map (·.1))[j]? = some k := by rw [List.getElem?_map, h]; simp [e]
    have := (List.getElem?_inj (by rw [List.length_map]; omega) hn).mp (e1.trans e2.symm)
    omega
  simpa using this
theorem gIdx_none {xs : List (KD × Value × Value)} {k : KD} (h : ∀ (j : Nat) x, xs[j]? = some x → x.1 ≠ k) : gIdx xs k = none := by
  unfold gIdx
  rw [List.findIdx?_eq_none_iff]
  intro x hx
  obtain ⟨j, hj, e⟩ := List.mem_iff_getElem.mp hx
  exact decide_eq_false (h j x (by rw [List.getElem?_eq_getElem hj, e]))
theorem g_loop {xs : List (KD × Value × Value)} {k : KD} {es : Array DictEntry} (at' : ∀ j : Nat, es[j]? = (xs[j]?).map (gEnt P w)) (sz : es.size = xs.length) (hn : (xs.map (·.1)).Nodup) {body : Nat → Option (Option Nat) × Option Nat → Sem (ForInStep (Option (Option Nat) × Option Nat))} {R : Option (Option Nat) × Option Nat → Shared → Prop}
    (B : ∀ (i : Nat) b hit (R' : ForInStep (Option (Option Nat) × Option Nat) → Shared → Prop), xs[i]? = some b → (b.1 = k → hit = none ∧ R' (.done (some (some i), hit)) s ∧ R' (.yield (none, some i)) s) → (b.1 ≠ k → R' (.yield (none, hit)) s) → wpAny (model P w) A (body i (none, hit)) R' E s)
    (R0 : (∀ (j : Nat) x, xs[j]? = some x → x.1 ≠ k) → R (none, none) s) (R1 : ∀ (j : Nat) x, xs[j]? = some x → x.1 = k → R (some (some j), none) s ∧ R (none, some j) s) :
    wpAny (model P w) A (forIn (placesWithHash es.size (fun i => es[i]?.map (·.hash)) (gHash P w k)) (none, none) body) R E s := by
  have has : ∀ (j : Nat) x, xs[j]? = some x → x.1 = k → ((es[j]?.map (·.hash)) == some (gHash P w k)) = true := fun j x hj e => by
    rw [at' j, hj]
    show (some (gHash P w x.1) == some (gHash P w k)) = true
    rw [e]
    simp
  have one : ∀ {i j : Nat} {x y : KD × Value × Value}, xs[i]? = some x → xs[j]? = some y → x.1 = k → y.1 = k → i = j := fun {i j x y} h1 h2 e1 e2 => by
    have q1 : (xs.map (·.1))[i]? = some k := by rw [List.getElem?_map, h1]; exact congrArg some e1
    have q2 : (xs.map (·.1))[j]? = some k := by rw [List.getElem?_map, h2]; exact congrArg some e2
    exact (List.getElem?_inj (List.getElem?_eq_some_iff.mp q1).1 hn).mp (q1.trans q2.symm)
  refine wpAny_forIn_list _ (fun rest b s' => s' = s ∧ ∃ i hit, b = (none, hit) ∧ rest = (List.range' i (es.size - i)).filter (fun i => (es[i]?.map (·.hash)) == some (gHash P w k)) ∧ i ≤ es.size ∧
      ((hit = none ∧ ∀ (j : Nat) x, j < i → xs[j]? = some x → x.1 ≠ k) ∨ ∃ j x, hit = some j ∧ j < i ∧ xs[j]? = some x ∧ x.1 = k)) _ ?_ ?_ _ _
    ⟨rfl, 0, none, rfl, by rw [placesWithHash, List.range_eq_range', Nat.sub_zero], Nat.zero_le _, .inl ⟨rfl, fun j x hj => absurd hj (Nat.not_lt_zero _)⟩⟩
  · rintro x rest b s' ⟨rfl, i, hit, rfl, hr, hi, hH⟩
    obtain ⟨hix, hxn, hpx, hskip, hrest⟩ := filter_range'_cons _ _ _ _ _ hr.symm
    have hlt : x < es.size := by omega
    have hrest' : rest = (List.range' (x + 1) (es.size - (x + 1))).filter (fun i => (es[i]?.map (·.hash)) == some (gHash P w k)) := by
      rw [hrest]
      congr 2
      omega
    have hx : xs[x]? = some (xs[x]'(by omega)) := List.getElem?_eq_getElem _
    generalize xs[x]'(by omega) = b at hx
    have gap : ∀ (j : Nat) y, i ≤ j → j < x → xs[j]? = some y → y.1 ≠ k := fun j y h1 h2 hj e => by
      have := hskip j h1 h2
      rw [has j y hj e] at this
      exact absurd this (by decide)
    refine B x b hit _ hx (fun e => ?_) fun e => ?_
    · rcases hH with ⟨rfl, hno⟩ | ⟨j, y, _, hj, hy, ey⟩
      · exact ⟨rfl, (R1 x b hx e).1, rfl, x + 1, some x, rfl, hrest', hlt, .inr ⟨x, b, rfl, Nat.lt_succ_self x, hx, e⟩⟩
      · have := one hy hx ey e
        omega
    · refine ⟨rfl, x + 1, hit, rfl, hrest', hlt, ?_⟩
      rcases hH with ⟨h0, hno⟩ | ⟨j, y, h1, hj, hy, ey⟩
      · refine .inl ⟨h0, fun j y hjx hj => ?_⟩
        by_cases c1 : j < i
        · exact hno j y c1 hj
        · by_cases c2 : j < x
          · exact gap j y (by omega) c2 hj
          · have : j = x := by omega
            subst this
            rw [hx] at hj
            cases hj
            exact e
      · exact .inr ⟨j, y, h1, by omega, hy, ey⟩
  · rintro b s' ⟨rfl, i, hit, rfl, hr, hi, hH⟩
    rcases hH with ⟨rfl, hno⟩ | ⟨j, y, rfl, hj, hy, ey⟩
    · refine R0 fun j x hj e => ?_
      by_cases c1 : j < i
      · exact hno j x c1 hj e
      · have hjl : j < es.size := by rw [sz]; exact (List.getElem?_eq_some_iff.mp hj).1
        have := List.filter_eq_nil_iff.mp hr.symm j (List.mem_range'_1.mpr ⟨by omega, by omega⟩)
        exact this (has j x hj e)
    · exact (R1 j y hy ey).2
theorem g_plain {d : Addr} {o : Obj} {es : Array DictEntry} {ep : Nat} {xs : List (KD × Value × Value)} {k : KD} {v : Value} {Q : Option Nat → Shared → Prop} (hu : A.units + 1 < cLine) (a : GIs P w s.heap k v) (ho : s.heap.get? d = some o) (hd : o.data = .dict es ep)
    (at' : ∀ j : Nat, es[j]? = (xs[j]?).map (gEnt P w)) (sz : es.size = xs.length) (his : ∀ x ∈ xs, GIs P w s.heap x.1 x.2.1) (hn : (xs.map (·.1)).Nodup) (hQ : Q (gIdx xs k) s) : wpAny (model P w) A (dictWalkPlain d v (gHash P w k) es (placesWithHash es.size (fun i => es[i]?.map (·.hash)) (gHash P w k))) Q E s := by
  unfold dictWalkPlain
  have has : ∀ (j : Nat) x, xs[j]? = some x → x.1 = k → ((es[j]?.map (·.hash)) == some (gHash P w k)) = true := fun j x hj e => by
    rw [at' j, hj]
    show (some (gHash P w x.1) == some (gHash P w k)) = true
    rw [e]
    simp
  refine wpAny_bind (wpAny_forIn_list _ (fun rest b s' => s' = s ∧ b = (none, ()) ∧ ∃ i, rest = (List.range' i (es.size - i)).filter (fun i => (es[i]?.map (·.hash)) == some (gHash P w k)) ∧ i ≤ es.size ∧ ∀ (j : Nat) x, j < i → xs[j]? = some x → x.1 ≠ k) _ ?_ ?_ _ _
    ⟨rfl, rfl, 0, by rw [placesWithHash, List.range_eq_range', Nat.sub_zero], Nat.zero_le _, fun j x hj => absurd hj (Nat.not_lt_zero _)⟩)
  · rintro x rest b s' ⟨rfl, rfl, i, hr, hi, hno⟩
    obtain ⟨hix, hxn, hpx, hskip, hrest⟩ := filter_range'_cons _ _ _ _ _ hr.symm
    have hlt : x < es.size := by omega
    have hx : xs[x]? = some (xs[x]'(by omega)) := List.getElem?_eq_getElem _
    generalize xs[x]'(by omega) = b at hx
    have hex : es[x]? = some (gEnt P w b) := by rw [at' x, hx]; rfl
    have more : b.1 ≠ k → ∃ i, rest = (List.range' i (es.size - i)).filter (fun i => (es[i]?.map (·.hash)) == some (gHash P w k)) ∧ i ≤ es.size ∧ ∀ (j : Nat) x, j < i → xs[j]? = some x → x.1 ≠ k := fun e => ⟨x + 1, by rw [hrest]; congr 2; omega, hlt, fun j y hjx hj => by
      by_cases c1 : j < i
      · exact hno j y c1 hj
      · by_cases c2 : j < x
        · intro z
          have := hskip j (by omega) c2
          rw [has j y hj z] at this
          exact absurd this (by decide)
        · have : j = x := by omega
          subst this
          rw [hx] at hj
          cases hj
          exact e⟩
    rw [hex]
    try dsimp only
    have hh : ((gEnt P w b).hash == gHash P w k) = true := by
      have := hpx
      rw [hex] at this
      simpa using this
    rw [if_pos hh]
    refine wpAny_bind (wpAny_dictEpoch ho hd (wpAny_bind ((his b (List.mem_of_getElem? hx)).eq hu a (wpAny_bind (wpAny_dictEpoch ho hd ?_)))))
    try dsimp only
    rw [if_neg (by simp)]
    by_cases e : b.1 = k
    · rw [decide_eq_true e, if_pos rfl]
      refine wpAny_bind (wpAny_rule (wpAny_pure (wpAny_pure ?_)))
      rw [← gIdx_some hn hx e]
      exact hQ
    · rw [decide_eq_false e, if_neg (by decide)]
      exact wpAny_bind (wpAny_rule (wpAny_pure ⟨rfl, rfl, more e⟩))
  · rintro b s' ⟨rfl, rfl, i, hr, hi, hno⟩
    refine wpAny_pure ?_
    rw [← gIdx_none (xs := xs) (k := k) fun j x hj e => ?_]
    · exact hQ
    · by_cases c1 : j < i
      · exact hno j x c1 hj e
      · have hjl : j < es.size := by rw [sz]; exact (List.getElem?_eq_some_iff.mp hj).1
        exact List.filter_eq_nil_iff.mp hr.symm j (List.mem_range'_1.mpr ⟨by omega, by omega⟩) (has j x hj e)
theorem g_find {d : Addr} {o : Obj} {es : Array DictEntry} {ep : Nat} {xs : List (KD × Value × Value)} {k : KD} {v : Value} {Q : Option Nat → Shared → Prop} (hu : A.units + 1 < cLine) (a : GIs P w s.heap k v) (ho : s.heap.get? d = some o) (hd : o.data = .dict es ep)
    (he : es.toList = xs.map (gEnt P w)) (his : ∀ x ∈ xs, GIs P w s.heap x.1 x.2.1) (hn : (xs.map (·.1)).Nodup) (hQ : Q (gIdx xs k) s) : wpAny (model P w) A (dictFind d v (gHash P w k)) Q E s := by
  have at' : ∀ j : Nat, es[j]? = (xs[j]?).map (gEnt P w) := fun j => by rw [← Array.getElem?_toList, he, List.getElem?_map]
  have sz : es.size = xs.length := by rw [← Array.length_toList, he, List.length_map]
  have key : ∀ (j : Nat) x, xs[j]? = some x → x.1 = k → ((es[j]?.map (·.hash)) == some (gHash P w k)) = true := fun j x hj e => by
    rw [at' j, hj]
    show (some (gHash P w x.1) == some (gHash P w k)) = true
    rw [e]
    simp
  have mem : ∀ e ∈ es, ∃ x ∈ xs, e = gEnt P w x := fun e hin => by
    obtain ⟨x, hx, z⟩ := List.mem_map.mp (show e ∈ xs.map (gEnt P w) from he ▸ Array.mem_toList_iff.mpr hin)
    exact ⟨x, hx, z.symm⟩
  have nostr : ∀ z t, v ≠ .str z t := fun z t e => by
    rw [e] at a
    cases k with
    | non => cases a
    | int i => obtain ⟨_, q⟩ := a; cases q
    | tup ks => obtain ⟨_, q, _⟩ := a; cases q
    | two ks ls => obtain ⟨_, q, _⟩ := a; cases q
  have anyF : ¬ (es.any fun e => e.key == v && e.hash != gHash P w k) = true := by
    rw [← Array.any_toList, List.any_eq_true]
    rintro ⟨e, hin, hc⟩
    obtain ⟨x, hx, rfl⟩ := mem e (Array.mem_toList_iff.mp hin)
    rw [Bool.and_eq_true] at hc
    have e1 : x.2.1 = v := eq_of_beq hc.1
    have e2 := his x hx
    rw [e1] at e2
    have e3 := e2.inj a
    have e4 : (gHash P w x.1 != gHash P w k) = true := hc.2
    rw [e3] at e4
    simp at e4
  have st : ∀ u ∈ (placesWithHash es.size (fun i => es[i]?.map (·.hash)) (gHash P w k)).filterMap (fun i => es[i]?.map (·.key)), ∃ k', GIs P w s.heap k' u := fun u hu' => by
    obtain ⟨i, _, hi⟩ := List.mem_filterMap.mp hu'
    rw [at' i] at hi
    cases e : xs[i]? with
    | none => rw [e] at hi; cases hi
    | some x =>
      rw [e] at hi
      have e2 : x.2.1 = u := by simpa [gEnt] using hi
      exact ⟨x.1, e2 ▸ his x (List.mem_of_getElem? e)⟩
  have look : ∀ (x : Nat) (b : KD × Value × Value) {R : Bool → Shared → Prop}, xs[x]? = some b → R (decide (b.1 = k)) s → wpAny (model P w) A (eqBool b.2.1 v) R E s := fun x b R hx r => (his b (List.mem_of_getElem? hx)).eq hu a r
  have noneQ : (∀ (j : Nat) x, xs[j]? = some x → x.1 ≠ k) → Q none s := fun h => by rw [← gIdx_none h]; exact hQ
  have someQ : ∀ (j : Nat) x, xs[j]? = some x → x.1 = k → Q (some j) s := fun j x hj e => by rw [← gIdx_some hn hj e]; exact hQ
  unfold dictFind
  try with_reducible refine wpAny_holding ?_
  refine wpAny_bind (wpAny_dictEntries ho hd ?_)
  have vc : v = .none ∨ (∃ i t, v = .int i t) ∨ ∃ p, v = .ref p := by
    cases k with
    | non => exact .inl a
    | int i => exact .inr (.inl ⟨i, a⟩)
    | tup ks => exact .inr (.inr ⟨a.choose, a.choose_spec.1⟩)
    | two ks ls => exact .inr (.inr ⟨a.choose, a.choose_spec.1⟩)
  by_cases hv : (v :: (placesWithHash es.size (fun i => es[i]?.map (·.hash)) (gHash P w k)).filterMap (fun i => es[i]?.map (·.key))).all carriedByValue = true
  · rcases vc with rfl | ⟨i, t, rfl⟩ | ⟨p, rfl⟩
    · dsimp only
      rw [if_pos hv]
      exact g_plain hu a ho hd at' sz his hn hQ
    · dsimp only
      rw [if_pos hv]
      exact g_plain hu a ho hd at' sz his hn hQ
    · exact absurd hv (by simp [carriedByValue])
  · rcases vc with rfl | ⟨i, t, rfl⟩ | ⟨p, rfl⟩ <;> dsimp only <;> rw [if_neg hv] <;> (try rw [if_neg anyF]) <;> refine wpAny_ite_split (fun _ => ?_) (fun _ => ?_) <;> (first | refine wpAny_bind (wpAny_pure ?_) | refine wpAny_bind (g_tell a st ?_)) <;> (
      rw [if_neg (by simp)]
      refine wpAny_bind (g_loop at' sz hn (fun i b hit R' hx y n => ?_) (fun h => wpAny_pure (noneQ h)) fun j x hj e => ⟨wpAny_pure (someQ j x hj e), wpAny_pure (someQ j x hj e)⟩)
      have hex : es[i]? = some (gEnt P w b) := by rw [at' i, hx]; rfl
      rw [hex]
      dsimp only
      by_cases hh : ((gEnt P w b).hash == gHash P w k) = true
      · rw [if_pos hh]
        refine wpAny_bind (wpAny_dictEpoch ho hd (wpAny_bind (look i b hx (wpAny_bind (wpAny_dictEpoch ho hd ?_)))))
        rw [if_neg (by simp)]
        by_cases e : b.1 = k
        · obtain ⟨rfl, y1, y2⟩ := y e
          rw [decide_eq_true e, if_pos rfl, if_neg (by decide)]
          refine wpAny_bind (wpAny_rule ?_)
          split
          · exact wpAny_pure y1
          · exact wpAny_pure y2
        · rw [decide_eq_false e, if_neg (by decide)]
          refine wpAny_bind (wpAny_rule ?_)
          rw [if_neg (by simp)]
          exact wpAny_pure (n e)
      · rw [if_neg hh]
        exact wpAny_pure (n fun e => hh (by
          show (gHash P w b.1 == gHash P w k) = true
          rw [e]
          simp)))
end
end L2
set_option maxHeartbeats 4000000
namespace L2
open PySem PySem.Spec PySem.W PyProof.Rows
section
variable {α β : Type}
def vG (kvs : List (KD × α × β)) (k : KD) : Option β := (kvs.find? fun e => decide (e.1 = k)).map (·.2.2)
def pG (kvs : List (KD × α × β)) (k : KD) (key : α) (v : β) : List (KD × α × β) := if (vG kvs k).isSome = true then kvs.map (fun e => if e.1 = k then (e.1, e.2.1, v) else e) else kvs ++ [(k, key, v)]
theorem vG_some {kvs : List (KD × α × β)} {k : KD} {i : Nat} {e : KD × α × β} (hn : (kvs.map (·.1)).Nodup) (h : kvs[i]? = some e) (he : e.1 = k) : vG kvs k = some e.2.2 := by
  unfold vG
  induction kvs generalizing i with
  | nil => cases h
  | cons x r ih =>
    rw [List.map_cons, List.nodup_cons] at hn
    rw [List.find?_cons]
    cases i with
    | zero => cases h; rw [decide_eq_true he]; rfl
    | succ i =>
      have h' : r[i]? = some e := by simpa using h
      have hx : ¬ x.1 = k := fun z => hn.1 (by rw [z, ← he]; exact List.mem_map.mpr ⟨e, List.mem_of_getElem? h', rfl⟩)
      rw [decide_eq_false hx]
      exact ih hn.2 h'
theorem vG_none {kvs : List (KD × α × β)} {k : KD} (h : ∀ e ∈ kvs, e.1 ≠ k) : vG kvs k = none := by
  unfold vG
  rw [List.find?_eq_none.mpr fun e he => by rw [decide_eq_true_eq]; exact h e he]
  rfl
theorem vG_get {kvs : List (KD × α × β)} {k : KD} {v : β} (h : vG kvs k = some v) : ∃ (i : Nat) (e : KD × α × β), kvs[i]? = some e ∧ e.1 = k ∧ e.2.2 = v := by
  unfold vG at h
  obtain ⟨e, he, rfl⟩ := Option.map_eq_some_iff.mp h
  obtain ⟨i, hi, ei⟩ := List.mem_iff_getElem.mp (List.mem_of_find?_eq_some he)
  exact ⟨i, e, by rw [List.getElem?_eq_getElem hi, ei], by simpa using List.find?_some he, rfl⟩
theorem vG_no {kvs : List (KD × α × β)} {k : KD} (h : vG kvs k = none) : ∀ e ∈ kvs, e.1 ≠ k := fun e he z => by
  unfold vG at h
  rw [Option.map_eq_none_iff, List.find?_eq_none] at h
  exact h e he (decide_eq_true z)
theorem pG_keys (kvs : List (KD × α × β)) (k : KD) (key : α) (v : β) : (pG kvs k key v).map (·.1) = if (vG kvs k).isSome = true then kvs.map (·.1) else kvs.map (·.1) ++ [k] := by
  unfold pG
  split
  · rw [List.map_map]
    refine List.map_congr_left fun e _ => ?_
    show (if e.1 = k then (e.1, e.2.1, v) else e).1 = e.1
    split <;> rfl
  · rw [List.map_append]
    rfl
theorem pG_len (kvs : List (KD × α × β)) (k : KD) (key : α) (v : β) : (pG kvs k key v).length ≤ kvs.length + 1 := by
  unfold pG
  split
  · rw [List.length_map]; omega
  · rw [List.length_append, List.length_singleton]; exact Nat.le_refl _
theorem pG_nodup {kvs : List (KD × α × β)} {k : KD} {key : α} {v : β} (h : (kvs.map (·.1)).Nodup) : ((pG kvs k key v).map (·.1)).Nodup := by
  rw [pG_keys]
  split
  · exact h
  · rename_i hs
    refine nd_add h fun hm => ?_
    obtain ⟨e, he, rfl⟩ := List.mem_map.mp hm
    exact vG_no (kvs := kvs) (k := e.1) (by cases e' : vG kvs e.1 with
      | none => rfl
      | some u => rw [e'] at hs; exact absurd rfl hs) e he rfl
end
section
variable {P : Program} {w : World} {A : Around} {E : Value → Shared → Prop} {s : Shared}
def GDict (P : Program) (w : World) (h : Heap) (d : Addr) (xs : List (KD × Value × Value)) : Prop :=
  ∃ o es ep, h.get? d = some o ∧ o.ExactDict ∧ o.data = .dict es ep ∧ es.toList = xs.map (gEnt P w) ∧ (∀ x ∈ xs, GIs P w h x.1 x.2.1) ∧ (xs.map (·.1)).Nodup
theorem GDict.typeIs {d : Addr} {xs : List (KD × Value × Value)} (g : GDict P w s.heap d xs) : s.TypeIs (.ref d) "dict" := let ⟨o, _, _, ho, hc, _⟩ := g; ⟨o, ho, hc.1⟩
theorem gIdx_get {xs : List (KD × Value × Value)} {k : KD} {j : Nat} (h : gIdx xs k = some j) : ∃ x, xs[j]? = some x ∧ x.1 = k := by
  unfold gIdx at h
  rw [List.findIdx?_eq_some_iff_getElem] at h
  obtain ⟨hj, h1, _⟩ := h
  exact ⟨xs[j], List.getElem?_eq_getElem hj, by simpa using h1⟩
theorem gIdx_no {xs : List (KD × Value × Value)} {k : KD} (h : gIdx xs k = none) : ∀ e ∈ xs, e.1 ≠ k := fun e he => by
  unfold gIdx at h
  rw [List.findIdx?_eq_none_iff] at h
  simpa using h e he
theorem gds_get {d : Addr} {xs : List (KD × Value × Value)} {k : KD} {v : Value} {Q : Option Value → Shared → Prop} (hu : A.units + 1 < cLine) (a : GIs P w s.heap k v) (g : GDict P w s.heap d xs) (h : Q (vG xs k) { s with toks := s.toks + gDraws P w k }) : wpAny (model P w) A (dictGet d v) Q E s := by
  obtain ⟨o, es, ep, ho, _, hd, he, his, hn⟩ := g
  unfold dictGet
  try with_reducible refine wpAny_holding ?_
  refine wpAny_bind (a.hash hu (wpAny_bind (g_find (s := { s with toks := s.toks + gDraws P w k }) hu a ho hd he his hn ?_)))
  cases e : gIdx xs k with
  | none =>
    rw [vG_none (gIdx_no e)] at h
    exact wpAny_pure h
  | some j =>
    obtain ⟨x, hx, ex⟩ := gIdx_get e
    rw [vG_some hn hx ex] at h
    refine wpAny_bind (wpAny_dictEntries (s := { s with toks := s.toks + gDraws P w k }) ho hd ?_)
    rw [← Array.getElem?_toList, he, List.getElem?_map, hx]
    exact wpAny_pure h
theorem modify_at {xs : List (KD × Value × Value)} {k : KD} {v : Value} {j : Nat} {x : KD × Value × Value} (hn : (xs.map (·.1)).Nodup) (hx : xs[j]? = some x) (ex : x.1 = k) :
    (xs.map (gEnt P w)).modify j (fun e => { e with val := v }) = (xs.map fun e => if e.1 = k then (e.1, e.2.1, v) else e).map (gEnt P w) := by
  apply List.ext_getElem?
  intro i
  rw [List.getElem?_modify, List.getElem?_map, List.getElem?_map, List.getElem?_map]
  cases hi : xs[i]? with
  | none => simp
  | some y =>
    by_cases e : j = i
    · subst e
      rw [hx] at hi
      cases hi
      simp [ex, gEnt]
    · have hy : ¬ y.1 = k := fun z => e ((List.getElem?_inj (by rw [List.length_map]; exact (List.getElem?_eq_some_iff.mp hx).1) hn).mp (by rw [List.getElem?_map, List.getElem?_map, hx, hi]; simp [ex, z]))
      simp [e, hy]
theorem gds_keep {h h' : Heap} {d : Addr} {o : Obj} {es : Array DictEntry} {ep : Nat} (ho : h.get? d = some o) (hc : o.ExactDict) (hs : Heap.SameBut d h h') {k : KD} {v : Value} (a : GIs P w h k v) : GIs P w h' k v := a.ext fun b o' hb hcl => (hs.2 b (fun z => by
  rw [z, ho] at hb
  cases hb
  rw [hc.1] at hcl
  exact absurd hcl (by decide))).trans hb
theorem gds_set {d : Addr} {xs : List (KD × Value × Value)} {k : KD} {v val : Value} {Q : Unit → Shared → Prop} (hu : A.units + 1 < cLine) (a : GIs P w s.heap k v) (g : GDict P w s.heap d xs) (hsz : xs.length ≤ sizeLine)
    (hQ : ∀ h', GDict P w h' d (pG xs k v val) → Heap.SameBut d s.heap h' → Q () { s with heap := h', toks := s.toks + gDraws P w k }) : wpAny (model P w) A (dictSet d v val) Q E s := by
  obtain ⟨o, es, ep, ho, hc, hd, he, his, hn⟩ := g
  have sz : es.size = xs.length := by rw [← Array.length_toList, he, List.length_map]
  have keep : ∀ h', Heap.SameBut d s.heap h' → ∀ x ∈ pG xs k v val, GIs P w h' x.1 x.2.1 := fun h' hs x hx => by
    unfold pG at hx
    split at hx
    · obtain ⟨y, hy, rfl⟩ := List.mem_map.mp hx
      have := gds_keep (es := es) (ep := ep) ho hc hs (his y hy)
      split <;> exact this
    · rcases List.mem_append.mp hx with hx | hx
      · exact gds_keep (es := es) (ep := ep) ho hc hs (his x hx)
      · rw [List.mem_singleton.mp hx]
        exact gds_keep (es := es) (ep := ep) ho hc hs a
  unfold dictSet
  try with_reducible refine wpAny_holding ?_
  refine wpAny_bind (a.hash hu ?_)
  unfold dictSetHashed
  try with_reducible refine wpAny_holding ?_
  refine wpAny_bind (g_find (s := { s with toks := s.toks + gDraws P w k }) hu a ho hd he his hn ?_)
  cases e : gIdx xs k with
  | none =>
    have hv := vG_none (gIdx_no e)
    refine wpAny_bind (wpAny_rule (wpAny_updateDictKeys (hz := by omega) (s := { s with toks := s.toks + gDraws P w k }) ho hd (hQ _ ⟨_, _, ep + 1, Heap.get?_update_self _ ho (Obj.isFreed_of_dict (Obj.data_mapDictKeys hd _)), hc.mapDictKeys _, Obj.data_mapDictKeys hd _, ?_, keep _ (Heap.SameBut.update ..), pG_nodup hn⟩ (Heap.SameBut.update ..))))
    unfold pG
    rw [hv, if_neg (by decide)]
    simp [he, gEnt]
  | some j =>
    obtain ⟨x, hx, ex⟩ := gIdx_get e
    have hv := vG_some hn hx ex
    refine wpAny_bind (wpAny_rule (wpAny_bind (wpAny_updateDict (s := { s with toks := s.toks + gDraws P w k }) ho hd (wpAny_point (hQ _ ⟨_, _, ep, Heap.get?_update_self _ ho (Obj.isFreed_of_dict (Obj.data_mapDict hd _)), hc.mapDict _, Obj.data_mapDict hd _, ?_, keep _ (Heap.SameBut.update ..), pG_nodup hn⟩ (Heap.SameBut.update ..))))))
    unfold pG
    rw [hv, if_pos (show (some x.2.2).isSome = true from rfl)]
    have := modify_at (P := P) (w := w) (v := val) hn hx ex
    rw [← he] at this
    obtain ⟨l⟩ := es
    simpa using this
end
end L2
set_option maxHeartbeats 4000000
namespace L2
open PySem PySem.Spec PySem.W PyProof.Rows
abbrev GP (H : Hp) : KD × V × V → KD × Value × Value → Prop := fun p q => p.1 = q.1 ∧ GK H p.1 p.2.1 ∧ RelV p.2.1 q.2.1 ∧ RelV p.2.2 q.2.2
section
variable {X : Cx} {pins : List (Addr × Obj)} {σ : St} {H : Hp} {s : Shared} {a : Addr} {y v : V} {u r : Value} {k : KD} {kvs : List (KD × V × V)} {A : Around} {E : Value → Shared → Prop}
theorem GK.is (I : Inv X pins σ H s) (g : GK H k y) (ry : RelV y u) : GIs X.prog X.w s.heap k u := by
  cases k with
  | non => cases g; exact ry
  | int i => cases g; exact ry
  | tup ks =>
    obtain ⟨b, rfl, hb⟩ := g
    exact ⟨b, ry, key_of I.hok hb⟩
  | two ks ls =>
    obtain ⟨b, c, d, rfl, hb, hc, hd⟩ := g
    obtain ⟨its, rv, ⟨o, e1, e2, n, e3⟩, _⟩ := I.tuple (SqT.of hb)
    obtain ⟨u1, u2, rfl, r1, r2⟩ := rv.two
    cases r1
    cases r2
    exact ⟨b, ry, o, c, d, n, e1, e2, e3, key_of I.hok hc, key_of I.hok hd⟩
theorem gp_mem {F : KD × V × V → KD × Value × Value → Prop} : ∀ {l : List (KD × V × V)} {m : List (KD × Value × Value)}, Paired F l m → ∀ x ∈ m, ∃ p ∈ l, F p x
  | _, _, .nil, x, h => nomatch h
  | _, _, .cons f t, x, h => by
    rcases List.mem_cons.mp h with rfl | h
    · exact ⟨_, List.mem_cons_self, f⟩
    · obtain ⟨p, hp, q⟩ := gp_mem t x h
      exact ⟨p, List.mem_cons_of_mem _ hp, q⟩
theorem gp_val : ∀ {l : List (KD × V × V)} {m : List (KD × Value × Value)}, Paired (GP H) l m → RelO (vG l k) (vG m k)
  | _, _, .nil => trivial
  | _, _, .cons (a := p) (b := q) f t => by
    have ih := gp_val t
    unfold vG at ih ⊢
    rw [List.find?_cons, List.find?_cons, ← f.1]
    by_cases e : p.1 = k
    · rw [decide_eq_true e]; exact f.2.2.2
    · rw [decide_eq_false e]; exact ih
theorem gp_map (rv : RelV v r) : ∀ {l : List (KD × V × V)} {m : List (KD × Value × Value)}, Paired (GP H) l m → Paired (GP H) (l.map fun e => if e.1 = k then (e.1, e.2.1, v) else e) (m.map fun e => if e.1 = k then (e.1, e.2.1, r) else e)
  | _, _, .nil => .nil
  | _, _, .cons (a := p) (b := q) f t => by
    refine .cons ?_ (gp_map rv t)
    show GP H (if p.1 = k then (p.1, p.2.1, v) else p) (if q.1 = k then (q.1, q.2.1, r) else q)
    rw [← f.1]
    split
    · exact ⟨rfl, f.2.1, f.2.2.1, rv⟩
    · exact f
theorem gp_put {l : List (KD × V × V)} {m : List (KD × Value × Value)} (t : Paired (GP H) l m) (g : GK H k y) (ry : RelV y u) (rv : RelV v r) : Paired (GP H) (pG l k y v) (pG m k u r) := by
  have e : (vG l k).isSome = (vG m k).isSome := (gp_val t).isSome_eq
  unfold pG
  rw [e]
  split
  · exact gp_map rv t
  · exact Paired.snoc t ⟨rfl, g, ry, rv⟩
theorem gp_len : ∀ {l : List (KD × V × V)} {m : List (KD × Value × Value)}, Paired (GP H) l m → l.length = m.length
  | _, _, .nil => rfl
  | _, _, .cons _ t => by rw [List.length_cons, List.length_cons, gp_len t]
theorem gd_rd (I : Inv X pins σ H s) (e : Rd H a (.dG kvs)) : kvs.length ≤ sizeLine ∧ (a == sysModules) = false ∧ ∃ xs, Paired (GP H) kvs xs ∧ GDict X.prog X.w s.heap a xs := by
  obtain ⟨z, y, xs, r, o, es, ep, h1, h2, h3, h4, h5⟩ := (show ObjOk X.prog X.w H s.heap a (.dG kvs) from e.ok I.hok)
  refine ⟨z, y, xs, r, o, es, ep, h1, h2, h3, h4, fun x hx => ?_, h5⟩
  obtain ⟨p, hp, f⟩ := gp_mem r x hx
  rw [← f.1]
  exact f.2.1.is I f.2.2.1
theorem gd_getItem {Q : Value → Shared → Prop} (hu : A.units + 2 < cLine) (I : Inv X pins σ H s) (e : Rd H a (.dG kvs)) (g : GK H k y) (l : vG kvs k = some v) (ry : RelV y u) (h : ∀ w' s', Inv X pins σ H s' → RelV v w' → Q w' s') :
    wpAny (model X.prog X.w) A (getItem (.ref a) u) Q E s := by
  obtain ⟨z, hd, xs, rel, dd⟩ := gd_rd I e
  obtain ⟨w', hw, rw'⟩ := RelO.some_of (v := v) (o := vG xs k) (by rw [← l]; exact gp_val rel)
  unfold getItem
  try with_reducible refine wpAny_holding ?_
  refine wpAny_bind (wpAny_sequenceKey dd.typeIs (by decide) (wpAny_bind (wpAny_callSpecial?_slot (name := Str.ofString "__getitem__") dd.typeIs F.slot_dict_getitem (wpAny_call_entry F.slot_dict_getitem dd.typeIs F.entry_dict_getitem ?_ (F.args_dict_getitem_2 _ _)))))
  show wpAny (model X.prog X.w) _ (dictGet a u >>= _) _ _ s
  refine wpAny_bind (gds_get (show A.in1.units + 1 < cLine from (by show A.units + 1 + 1 < cLine; omega)) (g.is I ry) dd ?_)
  rw [hw]
  exact wpAny_pure ⟨w', rfl, wpAny_pure (h w' _ (I.tok _) rw')⟩
theorem gd_contains {Q : Bool → Shared → Prop} (hu : A.units + 2 < cLine) (I : Inv X pins σ H s) (e : Rd H a (.dG kvs)) (g : GK H k y) (ry : RelV y u) (h : ∀ s', Inv X pins σ H s' → Q (vG kvs k).isSome s') :
    wpAny (model X.prog X.w) A (contains (.ref a) u) Q E s := by
  obtain ⟨z, hd, xs, rel, dd⟩ := gd_rd I e
  have eo : (vG kvs k).isSome = (vG xs k).isSome := (gp_val rel).isSome_eq
  unfold contains
  try with_reducible refine wpAny_holding ?_
  refine wpAny_bind (wpAny_specialOf dd.typeIs F.slot_dict_contains.lookup ?_)
  show wpAny (model X.prog X.w) A (if (some (Value.builtin "dict.__contains__") == some Value.none) = true then _ else _) _ E s
  rw [if_neg (by rw [beq_builtin_none]; decide)]
  refine wpAny_bind (wpAny_callSpecialUnlessNone?_slot (name := Str.ofString "__contains__") dd.typeIs F.slot_dict_contains (wpAny_call_entry F.slot_dict_contains dd.typeIs F.entry_dict_contains ?_ (F.args_dict_contains_2 _ _)))
  show wpAny (model X.prog X.w) _ (dictGet a u >>= _) _ _ s
  refine wpAny_bind (gds_get (show A.in1.units + 1 < cLine from (by show A.units + 1 + 1 < cLine; omega)) (g.is I ry) dd ?_)
  cases hf : vG xs k with
  | some p =>
    rw [hf] at eo
    refine wpAny_pure ⟨Value.bool true, rfl, wpAny_truthy_bool ?_⟩
    have := h _ (I.tok (s.toks + gDraws X.prog X.w k))
    rw [eo] at this
    exact this
  | none =>
    rw [hf] at eo
    show wpAny (model X.prog X.w) _ (Builtin.Dict.pendingKey? a u >>= _) _ _ _
    refine wpAny_bind (wpAny_pendingKey_other hd (wpAny_pure ⟨Value.bool false, rfl, wpAny_truthy_bool ?_⟩))
    have := h _ (I.tok (s.toks + gDraws X.prog X.w k))
    rw [eo] at this
    exact this
theorem gd_setItem {Q : Unit → Shared → Prop} (hu : A.units + 2 < cLine) (I : Inv X pins σ H s) (e : H a = some (.dG kvs)) (g : GK H k y) (hl : kvs.length < sizeLine) (ry : RelV y u) (rv : RelV v r) (h : ∀ s', Inv X pins σ (upd H a (.dG (pG kvs k y v))) s' → Q () s') :
    wpAny (model X.prog X.w) A (setItem (.ref a) u r) Q E s := by
  obtain ⟨z, hd, xs, rel, dd⟩ := gd_rd I (.inl e)
  unfold setItem
  try with_reducible refine wpAny_holding ?_
  refine wpAny_bind (wpAny_sequenceKey dd.typeIs (by decide) (wpAny_bind (wpAny_callSpecial?_slot (name := Str.ofString "__setitem__") dd.typeIs F.slot_dict_setitem (wpAny_call_entry F.slot_dict_setitem dd.typeIs F.entry_dict_setitem ?_ (F.args_dict_setitem_3 _ _ _)))))
  show wpAny (model X.prog X.w) _ (Builtin.Dict.notOrdered "__setitem__" ⟨[.ref a, u, r], []⟩ >>= _) _ _ s
  refine wpAny_bind (wpAny_notOrdered_dict dd.typeIs ?_)
  show wpAny (model X.prog X.w) _ (dictSet a u r >>= _) _ _ s
  refine wpAny_bind (gds_set (show A.in1.units + 1 < cLine from (by show A.units + 1 + 1 < cLine; omega)) (g.is I ry) dd (by rw [← gp_len rel]; exact z) fun h' dd' hs' => wpAny_pure ⟨Value.none, rfl, wpAny_pure (h _ ?_)⟩)
  obtain ⟨q, es, ep, hq, h2, h3, h4, _, h5⟩ := dd'
  have hlen := pG_len kvs k y v
  refine d_write I (by rw [e]; exact True.intro) hs' ⟨q, hq⟩ ⟨by omega, hd, _, Paired.mapP (gp_put rel g ry rv) fun p q z => ⟨z.1, z.2.1.stay fun b xs hb => ?_, z.2.2⟩, q, es, ep, hq, h2, h3, h4, h5⟩
  rw [upd_ne (ne_of hb e (fun z => nomatch z))]
  exact hb
end
def tDGetG (td ty : TE) : TE := fun σ H Q => td σ H fun x H1 => ty σ H1 fun y H2 => ∃ a kvs k v, x = .ref a ∧ Rd H2 a (.dG kvs) ∧ GK H2 k y ∧ vG kvs k = some v ∧ Q v H2
def rInG (neg : Bool) : R2 := fun y x H Q => ∃ a kvs k, x = .ref a ∧ Rd H a (.dG kvs) ∧ GK H k y ∧ Q (.bl (if neg then !(vG kvs k).isSome else (vG kvs k).isSome)) H
def sDPutG (td ty tv : TE) : TS := fun D σ H => tv σ H fun v H1 => td σ H1 fun x H2 => ty σ H2 fun y H3 => ∃ a kvs k, x = .ref a ∧ H3 a = some (.dG kvs) ∧ GK H3 k y ∧ kvs.length < sizeLine ∧ D.nx σ (upd H3 a (.dG (pG kvs k y v)))
section
variable {X : Cx} {o i e value : Expr} {pos pos' tpos : Pos} {td ty tv : TE}
theorem pe_dgetG (hu : X.A.units + 2 < cLine) (ho : PE X o td) (hi : PE X i ty) (hs : NoSl i) : PE X (.Subscript o i pos) (tDGetG td ty) := by
  intro pins s σ H Q I h
  refine subD_of PySem.F.slot_dict_getitem.lookup hs (thn (ho pins s σ H _ I h) fun u s1 ⟨x, H1, I1, rx, q1⟩ => thn (hi pins s1 σ H1 _ I1 q1) fun iv s2 ⟨y, H2, I2, ry, a, kvs, k, v, ex, rd, g, l, q2⟩ => ?_)
  subst ex
  obtain rfl : u = Value.ref a := rx
  obtain ⟨_, _, xs, _, dd⟩ := gd_rd I2 rd
  exact ⟨dd.typeIs, gd_getItem hu I2 rd g l ry fun w' s3 I3 rw' => ⟨v, H2, I3, rw', q2⟩⟩
theorem op_inG (hu : X.A.units + 2 < cLine) : OpR X (compareOp .In) (rInG false) := by
  intro pins s σ H x y v u Q I rx ry h
  obtain ⟨a, kvs, k, rfl, rd, g, q⟩ := h
  cases ry
  show wpAny (model X.prog X.w) X.A (do return Value.bool (← contains (.ref a) v)) _ _ s
  exact wpAny_bind (gd_contains hu I rd g rx fun s' I' => wpAny_pure ⟨.bl _, H, I', rfl, q⟩)
theorem op_notInG (hu : X.A.units + 2 < cLine) : OpR X (compareOp .NotIn) (rInG true) := by
  intro pins s σ H x y v u Q I rx ry h
  obtain ⟨a, kvs, k, rfl, rd, g, q⟩ := h
  cases ry
  show wpAny (model X.prog X.w) X.A (do return Value.bool (!(← contains (.ref a) v))) _ _ s
  exact wpAny_bind (gd_contains hu I rd g rx fun s' I' => wpAny_pure ⟨.bl _, H, I', rfl, q⟩)
theorem ps_dputG (hu : X.A.units + 2 < cLine) (ho : PE X o td) (hi : PE X i ty) (hv : PE X value tv) (hs : swapsWith value (some (.Subscript o i pos')) pos.line X.env = pure false) :
    PS X (.Assign [.Subscript o i pos'] value pos) (sDPutG td ty tv) := by
  intro pins s σ H D I h
  refine wpAny_Assign_Subscript (thn (hv pins s σ H _ I h) fun r s1 ⟨v, H1, I1, rv, q1⟩ => thn (ho pins s1 σ H1 _ I1 q1) fun u s2 ⟨x, H2, I2, rx, q2⟩ => thn (hi pins s2 σ H2 _ I2 q2) fun iv s3 ⟨y, H3, I3, ry, a, kvs, k, ex, e, g, hl, q3⟩ => ?_) hs
  subst ex
  obtain rfl : u = Value.ref a := rx
  exact gd_setItem hu I3 e g hl ry rv fun s4 I4 => ⟨σ, _, I4, q3⟩
def tDctG : TE := fun _ H Q => ∀ p H', H p = none → Same H H' → H' p = some (.dG []) → Q (.ref p) H'
theorem dg_empty {P : Program} {w : World} {H : Hp} (h : Heap) (hb : sysModules < h.objs.size) : ObjOk P w H (h.push { cls := .type "dict", data := .dict #[] }) h.objs.size (.dG []) :=
  ⟨Nat.zero_le _, beq_eq_false_iff_ne.mpr (Ne.symm (Nat.ne_of_lt hb)), [], .nil, _, #[], 0, Heap.get?_push_size _ rfl, ⟨rfl, rfl, rfl⟩, rfl, rfl, List.nodup_nil⟩
theorem pe_dctG : PE X (.Dict [] [] pos) tDctG := fun pins s σ H Q I h =>
  wpAny_Dict_empty ⟨.ref s.heap.objs.size, _, I.laid (a := s.heap.objs.size) (o := .dG []) (t' := s.toks) (fun _ _ q => Heap.get?_push_of_some _ q) (Nat.le_refl _) (dg_empty s.heap I.big), rfl, h _ _ (I.hok.fresh (Nat.le_refl _)) (Same.new (I.hok.fresh (Nat.le_refl _))) upd_same⟩
end
end L2
set_option maxHeartbeats 4000000
namespace L2
open PySem PySem.Spec PySem.W PyProof.Rows
theorem lk_list_keys : typeLookup (.type "list") "keys" = pure none := by rw [typeLookup_type, builtinLookup_eq_fast]; kernel_rfl
section
variable {prog : Program} {w : World} {A : Around} {E : Value → Shared → Prop}
theorem no_keys {s : Shared} {a : Addr} {xs : Array Value} {k : Nat} {sl : Array (Option Value)} {Q : Option Value → Shared → Prop} (hx : s.heap.get? a = some { cls := .type "list", dict := none, data := .seq xs k, slots := sl }) (hA : A.handled = none)
    (h : ∀ h' tk, Ext s.heap h' → Q none { s with heap := h', toks := tk }) : wpAny (model prog w) A (getAttr? (.ref a) "keys") Q E s := by
  obtain ⟨hp, g, d, tk, os⟩ := s
  have hT : ∀ tk', (⟨hp, g, d, tk', os⟩ : Shared).TypeIs (.ref a) "list" := fun _ => ⟨_, hx, rfl⟩
  have f1 := sub_AttributeError
  have f3 := F.slot_list_getattribute.lookup
  have f4 := F.slot_list_getattribute.bind (.ref a)
  have f5 := am_list_getattr_none
  have z : (Str.ofString "keys").length + 100 ≤ sizeLine := by
    have := small1000 (n := 1000) (Nat.le_refl _)
    have e : (Str.ofString "keys").length = 4 := rfl
    omega
  unfold getAttr? getAttrBy? getAttrBy
  repeat (any_goals (first | assumption | exact hT _ | ((with_reducible show wpAny _ _ (call (Value.builtin "list.__getattribute__") _ _) _ _ _); refine call_meets F.slot_list_getattribute (hT _) am_entry_list_getattribute (F.args_list_getattribute_2 _ _) (meets_getattribute_miss_list a xs k sl "keys" _ lk_list_keys (by decide +kernel) z) ⟨hx, hA, fun h' tk' e hx' => ?_⟩) | wp_step))
  obtain ⟨t', u', he⟩ := hx'.there
  show wpAny (model prog w) A (getattributeRaised _ _ _ _ _ _ _) _ _ _
  unfold getattributeRaised
  repeat (any_goals (first | assumption | wp_step))
  exact h _ _ hx'.keeps
end
theorem entry_dul : entryFor table "dict.update.loop" = some Builtin.«dict.update.loop» := entryFor_of_tree (by kernel_rfl)
theorem plain_dul : plainId "dict.update.loop" = true := by decide +kernel
def Tst (h h' : Heap) : Prop := ∀ b o, h.get? b = some o → o.cls = .type "tuple" → h'.get? b = some o
section
variable {P : Program} {w : World} {A : Around}
theorem seqItems_at {M : Model} {E : Value → Shared → Prop} {s : Shared} {b : Addr} {o : Obj} {xs : Array Value} {n : Nat} {Q : Option (Array Value) → Shared → Prop} (ho : s.heap.get? b = some o) (hd : o.data = .seq xs n) (q : Q (some xs) s) : wpAny M A (seqItems? (.ref b)) Q E s := by
  unfold seqItems?
  refine wpAny_bind (wpAny_load ho ?_)
  rw [hd]
  exact wpAny_pure q
def putAll {α β : Type} (xs : List (KD × α × β)) : List (KD × α × β) → List (KD × α × β)
  | [] => xs
  | e :: r => putAll (pG xs e.1 e.2.1 e.2.2) r
theorem putAll_len {α β : Type} (ps : List (KD × α × β)) : ∀ xs, (putAll xs ps).length ≤ xs.length + ps.length := by
  induction ps with
  | nil => intro xs; exact Nat.le_refl _
  | cons e r ih =>
    intro xs
    have h1 := ih (pG xs e.1 e.2.1 e.2.2)
    have h2 := pG_len xs e.1 e.2.1 e.2.2
    show (putAll (pG xs e.1 e.2.1 e.2.2) r).length ≤ _
    rw [List.length_cons]
    omega
def PairAt (P : Program) (w : World) (h : Heap) (v : Value) (e : KD × Value × Value) : Prop := ∃ b, v = .ref b ∧ h.IsTuple b #[e.2.1, e.2.2] ∧ GIs P w h e.1 e.2.1
theorem PairAt.stay {h h' : Heap} {v : Value} {e : KD × Value × Value} (p : PairAt P w h v e) (t : Tst h h') : PairAt P w h' v e := by
  obtain ⟨b, rfl, ⟨o, h1, h2, h3⟩, g⟩ := p
  exact ⟨b, rfl, ⟨o, t _ _ h1 h2, h2, h3⟩, g.ext t⟩
theorem GDict.keep {h h' : Heap} {d : Addr} {xs : List (KD × Value × Value)} (g : GDict P w h d xs) (k : ∀ o, h.get? d = some o → h'.get? d = some o) (t : Tst h h') : GDict P w h' d xs := by
  obtain ⟨o, es, ep, h1, h2, h3, h4, h5, h6⟩ := g
  exact ⟨o, es, ep, k o h1, h2, h3, h4, fun x hx => (h5 x hx).ext t, h6⟩
theorem iter_tst {h h' : Heap} {I l : Addr} {i : Nat} (hit : h.IsListIter I l i) (k : ∀ b o, b ≠ I → h.get? b = some o → h'.get? b = some o) : Tst h h' := fun b o e c => k b o (fun z => by
  obtain ⟨o', e', c', _⟩ := hit
  rw [z, e'] at e
  cases e
  rw [c'] at c
  exact absurd c (by decide)) e
theorem dul_loop {D I l : Addr} {items : Array Value} {R : Result → Shared → Prop} (hh : A.handled = none) (hu : A.units + 2 < cLine) (hIl : l ≠ I) (hDI : D ≠ I) (hDl : D ≠ l) :
    ∀ (ps : List (KD × Value × Value)) (i : Nat) (xs : List (KD × Value × Value)) (s : Shared) (j : Int) (u : Tok), i + ps.length = items.size → s.heap.IsListIter I l i → s.heap.IsList l items → GDict P w s.heap D xs → xs.length + ps.length ≤ sizeLine →
      (∀ (m : Nat) e, ps[m]? = some e → ∃ v, items[i + m]? = some v ∧ PairAt P w s.heap v e) →
      (∀ s' : Shared, (∀ b o, b ≠ I → b ≠ D → s.heap.get? b = some o → s'.heap.get? b = some o) → GDict P w s'.heap D (putAll xs ps) → (∃ tk, s' = { s with heap := s'.heap, toks := tk }) → R (.ok (.ret .none)) s') →
      codeAny (model P w) A (.builtin "dict.update.loop" ⟨[.ref D, .ref I, .int j u, .none], []⟩) R s := by
  have W := Walks.list (prog := P) (w := w) (A := A.in1) (by simpa using hh) I l hIl items
  intro ps
  induction ps with
  | nil =>
    intro i xs s j u hi hit hl hd hz hp hR
    have hi' : i = items.size := by simpa using hi
    subst hi'
    refine codeAny_builtin entry_dul ?_
    rw [Around.under_plainId plain_dul _]
    show wpAny (model P w) A.in1 (pyNext (.ref I) >>= _) _ _ s
    refine wpAny_bind (W.done s _ _ ⟨hit, hl⟩ fun h' tk hk => ?_)
    have kI : ∀ b o, b ≠ I → s.heap.get? b = some o → h'.get? b = some o := fun b o hb e => hk b o (by simpa using hb) e
    exact wpAny_bind (wpAny_pure (wpAny_pure (hR ⟨h', s.gens, s.drawn, tk, s.os⟩ (fun b o h1 _ e => kI b o h1 e) (hd.keep (fun o e => kI D o hDI e) (iter_tst hit kI)) ⟨tk, rfl⟩)))
  | cons e ps ih =>
    intro i xs s j u hi hit hl hd hz hp hR
    refine codeAny_builtin entry_dul ?_
    rw [Around.under_plainId plain_dul _]
    show wpAny (model P w) A.in1 (pyNext (.ref I) >>= _) _ _ s
    refine wpAny_bind (W.item i s _ _ (by rw [List.length_cons] at hi; omega) ⟨hit, hl⟩ fun v h' tk hv st hk => ?_)
    have kI : ∀ b o, b ≠ I → s.heap.get? b = some o → h'.get? b = some o := fun b o hb e => hk b o (by simpa using hb) e
    have ts := iter_tst hit kI
    obtain ⟨v', hv', pv⟩ := hp 0 e rfl
    have ev : v' = v := by
      rw [Nat.add_zero] at hv'
      rw [hv] at hv'
      exact (Option.some.inj hv').symm
    subst ev
    have hd' := hd.keep (h' := h') (fun o e => kI D o hDI e) ts
    have pv' := pv.stay ts
    obtain ⟨b, rfl, hb, ge⟩ := id pv'
    have hT : Shared.TypeIs ⟨h', s.gens, s.drawn, tk, s.os⟩ (.ref b) "tuple" := by
      obtain ⟨o, h1, h2, _⟩ := hb
      exact ⟨o, h1, h2⟩
    obtain ⟨ob, hb1, hb2, nb, hb3⟩ := id hb
    have pr : ∀ {Q : List Value → Shared → Prop} {E : Value → Shared → Prop}, Q [e.2.1, e.2.2] ⟨h', s.gens, s.drawn, tk, s.os⟩ → wpAny (model P w) A.in1 (Builtin.Dict.pairItems (.ref b)) Q E ⟨h', s.gens, s.drawn, tk, s.os⟩ := fun {Q E} q => by
      unfold Builtin.Dict.pairItems
      refine wpAny_bind (wpAny_typeOf hT ?_)
      rw [if_pos (by decide)]
      exact wpAny_bind (seqItems_at hb1 hb3 (wpAny_pure q))
    refine wpAny_bind (wpAny_holding (wpAny_bind (wpAny_tryCatch (pr ?_))))
    refine wpAny_holding (gds_set (show A.in1.units + 1 < cLine from (by show A.units + 1 + 1 < cLine; omega)) ge hd' (by rw [List.length_cons] at hz; omega) fun h2 hd2 hs2 => ?_)
    have tD : Tst h' h2 := fun b o e1 c => (hs2.2 b (fun z => by
      obtain ⟨o', _, _, e2, e3, _⟩ := hd'
      rw [z, e2] at e1
      cases e1
      rw [e3.1] at c
      exact absurd c (by decide))).trans e1
    refine wpAny_pure ⟨plainId_quiet plain_dul _, ih (i + 1) _ _ _ _ (by rw [List.length_cons] at hi; omega) ?_ ?_ hd2 ?_ (fun m e2 he2 => ?_) fun s' hk' hd3 hs3 => ?_⟩
    · obtain ⟨o, h1, h2', h3⟩ := st.1
      exact ⟨o, (hs2.2 I (fun z => hDI z.symm)).trans h1, h2', h3⟩
    · obtain ⟨o, h1, h2', n, h3⟩ := st.2
      exact ⟨o, (hs2.2 l (fun z => hDl z.symm)).trans h1, h2', n, h3⟩
    · have := pG_len xs e.1 e.2.1 e.2.2
      rw [List.length_cons] at hz
      omega
    · obtain ⟨v2, hv2, pv2⟩ := hp (m + 1) e2 (by simpa using he2)
      exact ⟨v2, by rw [← hv2]; congr 1; omega, (pv2.stay ts).stay tD⟩
    · refine hR s' (fun b o h1 h2' e3 => hk' b o h1 h2' ((hs2.2 b h2').trans (kI b o h1 e3))) hd3 ?_
      obtain ⟨tk', e3⟩ := hs3
      exact ⟨tk', by rw [e3]⟩
theorem dict_pairs {s : Shared} {l : Addr} {items : Array Value} {n : Nat} {sl : Array (Option Value)} {E : Value → Shared → Prop} {Q : Value → Shared → Prop} {ps : List (KD × Value × Value)} (hh : A.handled = none) (hu : A.units + 4 < cLine) (hl : s.heap.get? l = some { cls := .type "list", dict := none, data := .seq items n, slots := sl })
    (hn : ps.length = items.size) (hz : ps.length ≤ sizeLine) (hp : ∀ (m : Nat) e, ps[m]? = some e → ∃ v, items[m]? = some v ∧ PairAt P w s.heap v e)
    (h : ∀ h' tk d, Ext s.heap h' → s.heap.objs.size ≤ d → GDict P w h' d (putAll [] ps) → Q (.ref d) { s with heap := h', toks := tk }) : wpAny (model P w) A (call (.type "dict") [.ref l]) Q E s := by
  refine callType_codes (Q₁ := fun obj s₁ => obj = .ref s.heap.objs.size ∧ s₁ = { s with heap := s.heap.push { cls := .type "dict", data := .dict #[] } }) F.kt_called_dict (F.kt_typeCall_dict_1 _) F.entry_dict_init (kt_code_dict_new _ ⟨rfl, rfl⟩) ?_
  rintro obj s₁ ⟨rfl, rfl⟩
  have new : GDict P w (s.heap.push { cls := .type "dict", data := .dict #[] }) s.heap.objs.size [] := ⟨_, #[], 0, Heap.get?_push_size _ rfl, ⟨rfl, rfl, rfl⟩, rfl, rfl, fun x hx => (nomatch hx), List.nodup_nil⟩
  have hl1 : (s.heap.push { cls := .type "dict", data := .dict #[] }).get? l = some { cls := .type "list", dict := none, data := .seq items n, slots := sl } := Heap.get?_push_of_some _ hl
  have hT : Shared.TypeIs { s with heap := s.heap.push { cls := .type "dict", data := .dict #[] } } (.ref s.heap.objs.size) "dict" := GDict.typeIs (P := P) (w := w) (s := { s with heap := s.heap.push { cls := .type "dict", data := .dict #[] } }) new
  refine ⟨hT, F.args_dict_init_2 _ _, ?_⟩
  unfold Builtin.«dict.__init__»
  refine wpAny_bind ?_
  unfold Builtin.Dict.selfAndRest
  refine wpAny_bind (wpAny_notOrdered_dict hT (wpAny_pure ?_))
  show wpAny (model P w) _ (Builtin.Dict.updateFrom "dict.__init__" s.heap.objs.size (.ref l) [] .none) _ _ _
  unfold Builtin.Dict.updateFrom
  refine wpAny_bind (wpAny_typeOf (show Shared.TypeIs { s with heap := s.heap.push { cls := .type "dict", data := .dict #[] } } (.ref l) "list" from ⟨_, hl1, rfl⟩) ?_)
  rw [if_pos (by decide)]
  refine wpAny_bind (no_keys hl1 (by simpa using hh) fun h1 t1 x1 => ?_)
  rw [if_pos (by rfl)]
  have hl2 : h1.IsList l items := ⟨_, x1 _ _ hl1, rfl, n, rfl⟩
  refine wpAny_bind (wpAny_rule (wpAny_bind (wpAny_pyIter_list hl2 ?_)))
  have lD : s.heap.objs.size < h1.objs.size := by
    obtain ⟨o, _, _, e, _⟩ := new
    exact Heap.lt_size (x1 _ _ e)
  have lI : l < h1.objs.size := Heap.lt_size (x1 _ _ hl1)
  have lS : l < s.heap.objs.size := Heap.lt_size hl
  have nS : ∀ b o, s.heap.get? b = some o → b ≠ h1.objs.size ∧ b ≠ s.heap.objs.size := fun b o e => by
    have := Heap.lt_size e
    exact ⟨Nat.ne_of_lt (Nat.lt_trans this lD), Nat.ne_of_lt this⟩
  have t1' : Tst (s.heap.push { cls := .type "dict", data := .dict #[] }) (h1.push { cls := .type "list_iterator", data := .fields #[.ref l, .int 0 0] }) := fun b o e _ => Heap.get?_push_of_some _ (x1 _ _ e)
  refine wpAny_pure ⟨plainId_quiet plain_dul _, dul_loop (A := A.in1) (l := l) (items := items) (by simpa using hh) (show A.units + 1 + 2 < cLine by omega) (Nat.ne_of_lt lI) (Nat.ne_of_lt lD) (Nat.ne_of_gt lS) ps 0 [] _ _ _ (by rw [Nat.zero_add]; exact hn) ⟨_, Heap.get?_push_size _ rfl, rfl, rfl⟩ (hl2.push _) (new.keep (fun o e => Heap.get?_push_of_some _ (x1 _ _ e)) t1') (by simpa using hz) (fun m e he => ?_) fun s' hk hd hs => ?_⟩
  · obtain ⟨v, hv, pv⟩ := hp m e he
    exact ⟨v, by rw [Nat.zero_add]; exact hv, (pv.stay (fun b o e _ => Heap.get?_push_of_some _ e)).stay t1'⟩
  · obtain ⟨tk, es⟩ := hs
    rw [es] at hd ⊢
    exact ⟨rfl, h _ tk _ (fun b o e => hk b o (nS b o e).1 (nS b o e).2 (Heap.get?_push_of_some _ (x1 _ _ (Heap.get?_push_of_some _ e)))) (Nat.le_refl _) hd⟩
end
def PrsV (H : Hp) : List V → List (KD × V × V) → Prop
  | [], [] => True
  | y :: ys, e :: es => (∃ b, y = .ref b ∧ H b = some (.tup [e.2.1, e.2.2]) ∧ GK H e.1 e.2.1) ∧ PrsV H ys es
  | _, _ => False
section
variable {X : Cx} {pins : List (Addr × Obj)} {σ : St} {H : Hp} {s : Shared}
theorem prs_of (I : Inv X pins σ H s) : ∀ {ys : List V} {us : List Value} {kvs : List (KD × V × V)}, Vals ys us → PrsV H ys kvs → ∃ ps, Paired (GP H) kvs ps ∧ ps.length = us.length ∧ ∀ (m : Nat) e, ps[m]? = some e → ∃ v, us[m]? = some v ∧ PairAt X.prog X.w s.heap v e
  | [], _, [], .nil, _ => ⟨[], .nil, rfl, fun m e z => by cases z⟩
  | [], _, _ :: _, .nil, h => h.elim
  | _ :: _, _, [], .cons _ _, h => h.elim
  | y :: ys, _, e :: es, .cons r t, h => by
    obtain ⟨⟨b, rfl, hb, g⟩, h2⟩ := h
    obtain ⟨ps, p1, p2, p3⟩ := prs_of I t h2
    cases r
    obtain ⟨its, rv, ⟨o, e1, e2, n, e3⟩, _⟩ := I.tuple (SqT.of hb)
    obtain ⟨u1, u2, rfl, r1, r2⟩ := rv.two
    refine ⟨(e.1, u1, u2) :: ps, .cons ⟨rfl, g, r1, r2⟩ p1, by rw [List.length_cons, List.length_cons, p2], fun m e' he' => ?_⟩
    cases m with
    | zero =>
      cases he'
      exact ⟨_, rfl, b, rfl, ⟨o, e1, e2, n, e3⟩, g.is I r1⟩
    | succ m =>
      obtain ⟨v, h1, h2⟩ := p3 m e' (by simpa using he')
      exact ⟨v, by simpa using h1, h2⟩
theorem gp_putAll : ∀ {l : List (KD × V × V)} {m : List (KD × Value × Value)}, Paired (GP H) l m → ∀ {a : List (KD × V × V)} {b : List (KD × Value × Value)}, Paired (GP H) a b → Paired (GP H) (putAll a l) (putAll b m)
  | _, _, .nil, _, _, t => t
  | _, _, .cons (a := p) (b := q) f t, a, b, t2 => by
    show Paired (GP H) (putAll (pG a p.1 p.2.1 p.2.2) _) (putAll (pG b q.1 q.2.1 q.2.2) _)
    rw [← f.1]
    exact gp_putAll t (gp_put t2 f.2.1 f.2.2.1 f.2.2.2)
def rDictG (K : PySem.W.Frag) : List V → Hp → VK → Prop := fun xs H Q => ∃ p ys kvs, xs = [.ref p] ∧ SqL K H p ys ∧ PrsV H ys kvs ∧ ys.length ≤ 2000 ∧ ∀ q H', H q = none → Same H H' → H' q = some (.dG (putAll [] kvs)) → Q (.ref q) H'
theorem call_dictG (hh : X.A.handled = none) (hu : X.A.units + 4 < cLine) : CallR X (.type "dict") (rDictG X.K) := by
  intro pins s σ H xs us Q I r h
  obtain ⟨p, ys, kvs, rfl, hq, hp, hz, q⟩ := h
  obtain ⟨u, rfl, ru⟩ := vals1 r
  cases ru
  obtain ⟨its, rv, ⟨o, n, e, c1, c2, c3⟩, _⟩ := I.list hq
  obtain ⟨cls, dict, data, sl⟩ := o
  dsimp only at c1 c2 c3
  subst c1 c2 c3
  obtain ⟨ps, p1, p2, p3⟩ := prs_of I rv hp
  have hl := rv.length
  have zz : 2000 ≤ sizeLine := by decide
  refine dict_pairs hh hu e (by rw [List.size_toArray]; exact p2) (by omega) (fun m e' he' => ?_) fun h' tk d x hd g => ?_
  · obtain ⟨v, h1, h2⟩ := p3 m e' he'
    exact ⟨v, by simpa using h1, h2⟩
  · obtain ⟨o', es, ep, g1, g2, g3, g4, _, g6⟩ := g
    have fr : H d = none := I.hok.fresh hd
    have ln := putAll_len kvs []
    have lk := gp_len p1
    refine ⟨.ref d, upd H d (.dG (putAll [] kvs)), I.laid x hd ⟨?_, ?_, _, Paired.mapP (gp_putAll p1 .nil) fun a b z => ⟨z.1, z.2.1.stay fun b xs hb => ?_, z.2.2⟩, o', es, ep, g1, g2, g3, g4, g6⟩, rfl, q d _ fr (Same.new fr) upd_same⟩
    · rw [List.length_nil] at ln
      omega
    · exact beq_eq_false_iff_ne.mpr (Ne.symm (Nat.ne_of_lt (Nat.lt_of_lt_of_le I.big hd)))
    · rw [upd_ne (ne_of_none hb fr)]
      exact hb
end
end L2
set_option maxHeartbeats 4000000
namespace L2
open PySem PySem.Spec PySem.W PyProof.Rows
section
variable {P : Program} {w : World} {A : Around} {E : Value → Shared → Prop} {s : Shared}
end
section
variable {X : Cx}
end
theorem hu4 {A : Around} {k : Nat} (hr : Room k A) : A.units + 4 < cLine := by have := hr.units; omega
theorem hu2 {A : Around} {k : Nat} (hr : Room k A) : A.units + 2 < cLine := by have := hr.units; omega
end L2
set_option maxHeartbeats 4000000
namespace L2
open PySem PySem.Spec PySem.W PyProof.Rows
section
variable {X : Cx}
end
theorem depth_le : ∀ {ds : List PyData} {k : Nat}, (∀ d ∈ ds, d.depth ≤ k) → PyData.depthAll ds ≤ k
  | [], _, _ => Nat.zero_le _
  | d :: ds, k, h => by
    have a := h d List.mem_cons_self
    have b := depth_le (ds := ds) fun x hx => h x (List.mem_cons_of_mem _ hx)
    show max d.depth (PyData.depthAll ds) ≤ k
    omega
end L2
set_option maxHeartbeats 4000000
namespace L2
open PySem PySem.Spec PySem.W PyProof.Rows
section
variable {P : Program} {w : World} {fs : List Addr} {H H1 : Hp} {h h1 h2 : Heap}
end
section
variable {X : Cx} {pins : List (Addr × Obj)} {σ : St} {H : Hp} {s : Shared} {k : Nat} {fa : Addr} {fd : FuncData} {ps : List Str} {sp : Sp}
end
end L2
set_option maxHeartbeats 4000000
namespace L2
open PySem PySem.Spec PySem.W PyProof.Rows
section
variable {X : Cx} {K : PySem.W.Frag}
end
section
variable {wd : Nat → Str} {L : List Lf} {H H' : Hp} {v : V} {k : Nat}
end
section
variable {wd : Nat → Str} {L : List Lf} {H H' : Hp} {vs : List V} {js : List Nat}
end
end L2
set_option maxHeartbeats 4000000
namespace Rga
end Rga
namespace L2
open PySem PySem.Spec PySem.W PyProof.Rows
end L2
set_option maxHeartbeats 4000000
namespace L2
open PySem PySem.Spec PySem.W PyProof.Rows
def Tups (H H' : Hp) : Prop := ∀ b xs, H b = some (.tup xs) → H' b = some (.tup xs)
section
variable {H H1 H' : Hp}
theorem Same.tups (s : Same H H') : Tups H H' := fun b xs e => s b _ e
theorem Tups.trans (a : Tups H H1) (b : Tups H1 H') : Tups H H' := fun c xs e => b c xs (a c xs e)
theorem Tups.wr {a : Addr} {o o' : HO} (e : H a = some o) (ho : ∀ ys, o ≠ .tup ys) : Tups H (upd H a o') := fun b xs q => by rw [upd_ne (tup_ne q e ho)]; exact q
theorem Tups.wl {a : Addr} {xs : List V} {o' : HO} (e : H a = some (.lst xs)) : Tups H (upd H a o') := Tups.wr e fun ys z => by cases z
theorem GK.tups {k : KD} {v : V} (g : GK H k v) (t : Tups H H') : GK H' k v := g.stay t
end
section
variable {P P' : V → Nat → Prop} {vs us : List V} {js ks : List Nat}
end
section
variable {nk : Nat → List Key} {bh : Nat → Option Nat} {D : Nat → PyData} {H H' H0 : Hp} {v : V} {k : Nat}
end
end L2
namespace Rga
end Rga
set_option maxHeartbeats 4000000
namespace L2
open PySem PySem.Spec PySem.W PyProof.Rows
def del (H : Hp) (p : Addr) : Hp := fun b => if b = p then none else H b
theorem del_at {H : Hp} {p : Addr} : del H p p = none := if_pos rfl
theorem del_ne {H : Hp} {p b : Addr} (h : b ≠ p) : del H p b = H b := if_neg h
theorem del_free {H : Hp} {p b : Addr} (h : H b = none) : del H p b = none := by
  by_cases e : b = p
  · subst e; exact del_at
  · rw [del_ne e]; exact h
theorem del_same {H : Hp} {p : Addr} : Same (del H p) H := fun b u q => by
  by_cases e : b = p
  · subst e; rw [del_at] at q; cases q
  · rw [del_ne e] at q; exact q
end L2
set_option maxHeartbeats 4000000
namespace Rga
end Rga
namespace L2
open PySem PySem.Spec PySem.W PyProof.Rows Rga
section
variable {P : V → Nat → Prop} {vs : List V} {js : List Nat}
end
end L2
set_option maxHeartbeats 4000000
namespace L2
open PySem PySem.Spec PySem.W PyProof.Rows
section
variable {prog : Program} {w : World} {A : Around} {R : Result → Shared → Prop} {I : Addr} {fp wr : List Addr} {n : Nat} {P : Nat → Value → Prop} {St : Nat → Heap → Prop} {G : Heap → Prop}
end
section
variable {X : Cx}
end
end L2
set_option maxHeartbeats 4000000
namespace L2
open PySem PySem.Spec PySem.W PyProof.Rows
section
variable {X : Cx}
end
end L2
set_option maxHeartbeats 4000000
namespace L2
open PySem PySem.Spec PySem.W PyProof.Rows
section
variable {X : Cx} {pins : List (Addr × Obj)} {σ : St} {H : Hp} {s : Shared}
end
section
variable {X : Cx} {tg : Expr}
end
end L2
set_option maxHeartbeats 4000000
namespace L2
open PySem PySem.Spec PySem.W PyProof.Rows
section
variable {P : Program} {w : World} {A : Around}
end
section
variable {X : Cx} {pins : List (Addr × Obj)} {σ : St} {H : Hp} {s : Shared}
end
end L2
set_option maxHeartbeats 4000000
namespace L2
open PySem PySem.Spec PySem.W PyProof.Rows
section
variable {X : Cx} {pins : List (Addr × Obj)} {σ : St} {H : Hp} {s : Shared}
end
section
variable {X : Cx} {k : Nat}
end
end L2
set_option maxHeartbeats 4000000
namespace Rga
end Rga
namespace L2
open PySem PySem.Spec PySem.W PyProof.Rows
theorem PrsV.tups {H H' : Hp} (t : Tups H H') : ∀ {ys : List V} {es : List (KD × V × V)}, PrsV H ys es → PrsV H' ys es
  | [], [], _ => trivial
  | [], _ :: _, h => h.elim
  | _ :: _, [], h => h.elim
  | _ :: _, _ :: _, h => ⟨let ⟨b, e, h1, h2⟩ := h.1; ⟨b, e, t _ _ h1, h2.tups t⟩, PrsV.tups t h.2⟩
theorem PrsV.snoc {H : Hp} {y : V} {e : KD × V × V} (hy : ∃ b, y = .ref b ∧ H b = some (.tup [e.2.1, e.2.2]) ∧ GK H e.1 e.2.1) : ∀ {ys : List V} {es : List (KD × V × V)}, PrsV H ys es → PrsV H (ys ++ [y]) (es ++ [e])
  | [], [], _ => ⟨hy, trivial⟩
  | [], _ :: _, h => h.elim
  | _ :: _, [], h => h.elim
  | _ :: _, _ :: _, h => ⟨h.1, PrsV.snoc hy h.2⟩
end L2
set_option maxHeartbeats 4000000
namespace L2
open PySem PySem.Spec PySem.W PyProof.Rows
end L2
namespace Rga
end Rga
set_option maxHeartbeats 4000000
namespace L2
open PySem PySem.Spec PySem.W PyProof.Rows
section
variable {X : Cx} {tg : Expr}
end
end L2
set_option maxHeartbeats 4000000
namespace L2
open PySem PySem.Spec PySem.W PyProof.Rows
end L2
namespace Rga
open L2
section
variable {bh : Nat → Option Nat} {D : Nat → PySem.PyData} {a b c d x : Nat}
end
end Rga
set_option maxHeartbeats 4000000
namespace L2
open PySem PySem.Spec PySem.W PyProof.Rows
def tCut (t u : TS) : TS := fun D σ H => ∃ P : St → Hp → Prop, t { D with nx := P } σ H ∧ ∀ σ' H', P σ' H' → u D σ' H'
def tPost (t : TT) : TT := fun σ H Q => ∃ P : Bool → Hp → Prop, t σ H P ∧ ∀ b H', P b H' → Q b H'
section
variable {X : Cx} {st : Stmt} {rest : List Stmt} {t u : TS}
theorem pss_cut (h1 : PS X st t) (h2 : PSs X rest u) : PSs X (st :: rest) (tCut t u) := by
  intro pins s σ H D I h
  obtain ⟨P, h, k⟩ := h
  refine wpAny_execs_cons (thn (h1 pins s σ H { D with nx := P } I h) fun f s1 q => ?_)
  cases f with
  | next =>
    obtain ⟨σ', H', I', q⟩ := q
    exact h2 pins s1 σ' H' D I' (k σ' H' q)
  | ret v => exact q
  | brk => exact q
  | cont => exact q
theorem pt_post {e : Expr} {t : TT} (h : PT X e t) : PT X e (tPost t) := by
  intro pins s σ H Q I q
  obtain ⟨P, h1, h2⟩ := q
  exact thn (h pins s σ H P I h1) fun b s1 ⟨H', I', q⟩ => ⟨H', I', h2 _ _ q⟩
end
end L2
set_option maxHeartbeats 4000000
namespace L2
open PySem PySem.Spec PyProof.Rows
section
variable {X : Cx}
end
end L2
set_option maxHeartbeats 4000000
namespace L2
open PySem PySem.Spec PySem.W PyProof.Rows
section
variable {X : Cx} {pins : List (Addr × Obj)} {σ : St} {H : Hp} {s : Shared}
end
end L2
set_option maxHeartbeats 4000000
namespace L2
open PySem PySem.Spec PySem.W PyProof.Rows
section
variable {prog : Program} {w : World} {A : Around} {E : Value → Shared → Prop} {s : Shared}
end
theorem paired_at {α β : Type} {F : α → β → Prop} : ∀ {l₁ : List α} {l₂ : List β}, Paired F l₁ l₂ → ∀ (i : Nat) (h1 : i < l₁.length) (h2 : i < l₂.length), F l₁[i] l₂[i]
  | _, _, .cons r _, 0, _, _ => r
  | _, _, .cons _ t, i + 1, h1, h2 => paired_at t i (Nat.lt_of_succ_lt_succ h1) (Nat.lt_of_succ_lt_succ h2)
section
variable {X : Cx} {pins : List (Addr × Obj)} {σ : St} {H : Hp} {s : Shared}
theorem Inv.freezeG {a : Addr} {o : Obj} {kvs : List (KD × V × V)} (I : Inv X pins σ H s) (e : H a = some (.dG kvs)) (ho : s.heap.get? a = some o) : Inv X pins σ (upd H a (.frz o (.dG kvs))) s := by
  refine I.un (t' := s.toks) (h' := s.heap) ⟨fun b ob q _ _ _ => q, fun b ob q _ _ _ => ⟨ob.slots, q⟩, fun b ob q n _ => ?_, fun b ob q _ => ⟨ob, q⟩, fun b xs q => ?_, fun b ob u q => ?_, fun b ps q => ?_, fun b ob xs q n => q⟩ fun b u q => ?_
  · rw [upd_ne (fun z => by rw [z, e] at n; cases n)]; exact n
  · rw [upd_ne (fun z => by rw [z, e] at q; cases q)]; exact q
  · rw [upd_ne (fun z => by rw [z, e] at q; cases q)]; exact q
  · exact ⟨#[], by rw [upd_ne (fun z => by rw [z, e] at q; cases q), q]; simp⟩
  · have ho' : ∀ c {d : Addr}, H c = some (.own d) → (upd H a (.frz o (.dG kvs))) c = some (.own d) := fun c d q => by rw [upd_ne (fun z => by rw [z, e] at q; cases q)]; exact q
    have ht : ∀ c xs, H c = some (.tup xs) → (upd H a (.frz o (.dG kvs))) c = some (.tup xs) := fun c xs q => by rw [upd_ne (fun z => by rw [z, e] at q; cases q)]; exact q
    by_cases hb : b = a
    · subst hb
      rw [upd_same] at q
      cases q
      exact ⟨ho, (show ObjOk X.prog X.w H s.heap b (.dG kvs) from I.hok b _ e).stay (fun _ _ _ q => q) (fun c q => ho' c q) ht⟩
    · rw [upd_ne hb] at q
      exact (I.hok b u q).stay (fun _ _ _ q => q) (fun c q => ho' c q) ht
theorem frzG_at {a : Addr} {o : Obj} {es : Array DictEntry} {ep : Nat} {kvs : List (KD × V × V)} (hd : o.data = .dict es ep) (I : Inv X pins σ H s) (e : H a = some (.frz o (.dG kvs))) : s.heap.get? a = some o ∧ es.size = kvs.length ∧ ∀ i (hi : i < es.size) (hk : i < kvs.length), RelV kvs[i].2.1 es[i].key := by
  obtain ⟨ho, _, _, xs, pr, o', es', ep', ho', _, hd', he, _⟩ : s.heap.get? a = some o ∧ ObjOk X.prog X.w H s.heap a (.dG kvs) := I.hok a _ e
  rw [ho] at ho'
  cases ho'
  rw [hd] at hd'
  injection hd' with hd' _
  subst hd'
  have hl : es.toList.length = kvs.length := by rw [he, List.length_map, pr.length]
  refine ⟨ho, by simpa using hl, fun i hi hk => ?_⟩
  have hx : i < xs.length := by rw [← pr.length]; exact hk
  have rel := paired_at pr i hk hx
  have ek : es[i].key = xs[i].2.1 := by
    have h1 : es.toList[i]? = some es[i] := by simp [hi]
    rw [he, List.getElem?_map, List.getElem?_eq_getElem hx] at h1
    rw [← Option.some.inj h1]
    rfl
  rw [ek]
  exact rel.2.2.1
end
section
variable {X : Cx} {tg : Expr}
end
end L2
set_option maxHeartbeats 4000000
namespace L2
open PySem PySem.Spec PySem.W PyProof.Rows
section
variable {P : Program} {w : World} {A : Around} {E : Value → Shared → Prop} {s : Shared}
end
theorem gp_vals {H : Hp} {ka : List (KD × V × V)} {xa : List (KD × Value × Value)} (h : Paired (GP H) ka xa) : Vals (ka.map (·.2.2)) (xa.map (·.2.2)) ∧ xa.map (·.1) = ka.map (·.1) := by
  induction h with
  | nil => exact ⟨.nil, rfl⟩
  | cons a _ ih => exact ⟨.cons a.2.2.2 ih.1, by rw [List.map_cons, List.map_cons, ih.2, a.1]⟩
section
variable {X : Cx}
end
end L2
set_option maxHeartbeats 4000000
namespace L2
open PySem PySem.Spec PySem.W PyProof.Rows
section
variable {P : Program} {w : World} {A : Around} {E : Value → Shared → Prop} {s : Shared}
end
section
variable {X : Cx}
end
end L2
set_option maxHeartbeats 4000000
namespace L2
open PySem PySem.Spec PySem.W PyProof.Rows
section
variable {prog : Program} {w : World} {A : Around} {E : Value → Shared → Prop} {s : Shared}
end
section
variable {X : Cx}
end
end L2
set_option maxHeartbeats 4000000
namespace L2
open PySem PySem.Spec PySem.W PyProof.Rows
section
variable {prog : Program} {w : World} {A : Around} {E : Value → Shared → Prop} {s : Shared}
end
section
variable {X : Cx} {o value : Expr} {lo hi : Option Expr} {pos pos' p2 : Pos} {to tv : TE} {tl th : TO}
end
end L2
set_option maxHeartbeats 4000000
namespace L2
open PySem PySem.Spec PySem.W PyProof.Rows
theorem entry_itemit_iter : entryFor table "dict_itemiterator.__iter__" = some Builtin.«dict_keyiterator.__iter__» := entryFor_alias (id' := "dict_keyiterator.__iter__") (by kernel_rfl) rfl (by decide +kernel) (by kernel_rfl)
section
variable {prog : Program} {w : World} {A : Around} {E : Value → Shared → Prop} {s : Shared}
theorem any_items {d : Addr} {od : Obj} {Q : Value → Shared → Prop} (hs : (d == sysModules) = false) (ho : s.heap.get? d = some od) (hc : od.ExactDict)
    (hQ : Q (.ref s.heap.objs.size) { s with heap := s.heap.push { cls := .type "dict_items", data := .fields #[.ref d] } }) : wpAny (model prog w) A (call (.builtin "dict.items") [.ref d]) Q E s := by
  have hT : s.TypeIs (.ref d) "dict" := ⟨od, ho, hc.1⟩
  refine wpAny_call_entry F.slot_dict_items hT F.entry_dict_items ?_ (F.args_dict_items_1 _)
  unfold Builtin.«dict.items»
  refine wpAny_bind ?_
  unfold Builtin.Dict.noArgs
  refine wpAny_bind (wpAny_notOrdered_dict hT ?_)
  show wpAny _ _ (pure d) _ _ s
  refine wpAny_pure ?_
  show wpAny _ _ (Builtin.Dict.showsAll d >>= _) _ _ s
  unfold Builtin.Dict.showsAll
  rw [if_neg (by rw [hs]; exact Bool.false_ne_true)]
  refine wpAny_bind (wpAny_pure ?_)
  exact wpAny_bind (wpAny_newObj_type (wpAny_pure ⟨_, rfl, hQ⟩))
theorem any_itemIter {v d : Addr} {od : Obj} {es : Array DictEntry} {ep : Nat} {Q : Value → Shared → Prop} (hv : s.heap.IsItemsView v d) (ho : s.heap.get? d = some od) (hdat : od.data = .dict es ep)
    (hQ : Q (.ref s.heap.objs.size) { s with heap := s.heap.push { cls := .type "dict_itemiterator", data := .fields #[.none, .bool false, .ref d, .int 0 0, .int es.size 0, .int ep 0, .none, .none] } }) :
    wpAny (model prog w) A (pyIter (.ref v)) Q E s := by
  obtain ⟨ov, hov, hcv, hdv⟩ := id hv
  refine wpAny_pyIter_slot hv.typeIs F.slot_dict_items_iter (wpAny_call_entry F.slot_dict_items_iter hv.typeIs F.entry_dict_items_iter ?_ (F.args_dict_items_iter_1 _))
  unfold Builtin.«dict_items.__iter__»
  refine wpAny_bind (wpAny_pure ?_)
  refine wpAny_bind ?_
  unfold Builtin.Dict_items.dictOf
  refine wpAny_bind (wpAny_field hov hdv (x := .ref d) rfl (wpAny_pure ?_))
  refine wpAny_bind ?_
  unfold Builtin.Dict_items.newIterator
  refine wpAny_bind (wpAny_dictEntries ho hdat ?_)
  refine wpAny_bind (wpAny_dictEpoch ho hdat ?_)
  have hown : Builtin.Dict_items.ownsTuple "dict_itemiterator" = true := by decide
  simp only [hown, if_true]
  refine wpAny_newObj_type (wpAny_pure ⟨_, rfl, "dict_itemiterator", _, ⟨_, Heap.get?_push_size _ rfl, rfl⟩, F.slot_dict_itemiterator_next.lookup, ?_⟩)
    (by simp only [sizeOk, Builtin.Dict_items.ownedTupleFields, List.size_toArray, List.length_append, List.length_cons, List.length_nil, sizeLine_eq]; omega)
  simpa [rawInt, Builtin.Dict_items.ownedTupleFields] using hQ
theorem any_itemNext {it d : Addr} {i n ep : Nat} {od : Obj} {es : Array DictEntry} {ok ov : Value} {Q : Option Value → Shared → Prop} (hit : IsItemIter s.heap it d i n ep ok ov) (hod : s.heap.get? d = some od) (hdd : od.data = .dict es ep) (hn : es.size = n) (hlt' : i < es.size)
    (hQ : ∀ h', IsItemIterOut h' it d (i + 1) n ep es[i].key es[i].val s.heap.objs.size →
      h'.get? s.heap.objs.size = some { cls := .type "tuple", data := .seq #[es[i].key, es[i].val] } → h'.objs.size = s.heap.objs.size + 1 →
      (∀ b o, b ≠ it → s.heap.get? b = some o → h'.get? b = some o) → Q (some (.ref s.heap.objs.size)) { s with heap := h' }) :
    wpAny (model prog w) A (pyNext (.ref it)) Q E s := by
  obtain ⟨hp, g, dr, tk, os⟩ := s
  subst hn
  have hT : Shared.TypeIs ⟨hp, g, dr, tk, os⟩ (.ref it) "dict_itemiterator" := ⟨_, hit, rfl⟩
  unfold pyNext
  refine wpAny_bind (wpAny_attempt (wpAny_callSpecial?_slot (name := Str.ofString "__next__") hT F.slot_dict_itemiterator_next
    (wpAny_call_entry F.slot_dict_itemiterator_next hT F.entry_dict_itemiterator_next ?_ (F.args_dict_itemiterator_next_1 _))))
  refine wpAny_bind (wpAny_pure ?_)
  refine wpAny_bind ?_
  refine wpAny_bind ?_
  first | refine wpAny_bind (wpAny_typeNameOfWhole_itemiter hT (wpAny_pure ?_)) | refine wpAny_bind (wpAny_typeNameOf_itemiter hT (wpAny_pure ?_))
  refine wpAny_bind (wpAny_fieldsOf hit rfl ?_)
  have hown : Builtin.Dict_items.ownsTuple "dict_itemiterator" = true := by decide
  simp only [hown, if_true]
  show wpAny _ _ (if (Value.ref d == Value.none) = true then _ else _) _ _ _
  rw [if_neg (show ¬ ((Value.ref d == Value.none) = true) from Bool.false_ne_true)]
  refine wpAny_bind (wpAny_pure ?_)
  refine wpAny_bind (wpAny_dictEntries hod hdd ?_)
  rw [if_neg (by simp)]
  refine wpAny_bind (wpAny_pure ?_)
  refine wpAny_bind (wpAny_dictEpoch hod hdd ?_)
  rw [if_neg (by simp)]
  refine wpAny_pure ?_
  simp only [show ¬ ((i : Int) < 0) from by omega, if_false, Int.toNat_natCast, Array.getElem?_eq_getElem hlt']
  refine wpAny_bind ?_
  first | refine wpAny_bind (wpAny_typeNameOfWhole_itemiter hT (wpAny_pure ?_)) | refine wpAny_bind (wpAny_typeNameOf_itemiter hT (wpAny_pure ?_))
  refine wpAny_bind (wpAny_isOneOf_itemiter hT ?_)
  show wpAny _ _ (setField (.ref it) 3 (rawInt ((i : Int) + 1)) >>= _) _ _ ⟨hp, g, dr, tk, os⟩
  refine wpAny_bind (wpAny_setField_rec hit (by simp) fun h₁ he₁ hs₁ => ?_)
  replace hs₁ : Heap.SameBut it hp h₁ := hs₁
  replace he₁ : IsItemIter h₁ it d (i + 1) es.size ep ok ov := by
    have e : ((i + 1 : Nat) : Int) = (i : Int) + 1 := by omega
    unfold IsItemIter; rw [e]; simpa [rawInt] using he₁
  have hT₁ : Shared.TypeIs ⟨h₁, g, dr, tk, os⟩ (.ref it) "dict_itemiterator" := ⟨_, he₁, rfl⟩
  refine wpAny_bind (wpAny_holding ?_)
  refine wpAny_bind (wpAny_isOneOf_itemiter hT₁ ?_)
  refine wpAny_bind (wpAny_isOneOf_itemiter hT₁ ?_)
  show wpAny _ _ (Builtin.Dict_items.pairFromOwner (.ref it) 6 es[i].key es[i].val) _ _ ⟨h₁, g, dr, tk, os⟩
  unfold Builtin.Dict_items.pairFromOwner
  refine wpAny_bind (wpAny_newTuple ?_)
  have he₂ : IsItemIter (h₁.push { cls := .type "tuple", data := .seq #[es[i].key, es[i].val] }) it d (i + 1) es.size ep ok ov := Heap.get?_push_of_some _ he₁
  generalize hh₂ : h₁.push { cls := .type "tuple", data := .seq #[es[i].key, es[i].val] } = h₂ at he₂
  have hz₁ : h₁.objs.size = hp.objs.size := hs₁.1
  have hil : it < hp.objs.size := Heap.lt_size hit
  have ht₂ : h₂.get? hp.objs.size = some { cls := .type "tuple", data := .seq #[es[i].key, es[i].val] } := by rw [← hh₂, ← hz₁]; exact Heap.get?_push_size _ rfl
  have hz₂ : h₂.objs.size = hp.objs.size + 1 := by rw [← hh₂, Heap.size_push, hz₁]
  have hk₂ : ∀ b o, b ≠ it → hp.get? b = some o → h₂.get? b = some o := fun b o hb e => by rw [← hh₂]; exact Heap.get?_push_of_some _ (hs₁.extBut b o hb e)
  show wpAny _ _ (Builtin.Dict_items.ownedTupleIsFree (.ref it) >>= _) _ _ ⟨h₂, g, dr, tk, os⟩
  rw [hz₁]
  clear hh₂ he₁ hs₁ hT₁ hz₁ h₁
  refine wpAny_bind ?_
  unfold Builtin.Dict_items.ownedTupleIsFree
  refine wpAny_bind (wpAny_field he₂ rfl (x := .none) rfl (wpAny_pure ?_))
  simp only [if_true]
  refine wpAny_bind (wpAny_field he₂ rfl (x := ok) rfl ?_)
  refine wpAny_bind (wpAny_field he₂ rfl (x := ov) rfl ?_)
  refine wpAny_bind (wpAny_setField_rec he₂ (by simp) fun h₃ he₃ hs₃ => ?_)
  replace hs₃ : Heap.SameBut it h₂ h₃ := hs₃
  replace he₃ : IsItemIter h₃ it d (i + 1) es.size ep es[i].key ov := he₃
  refine wpAny_bind (wpAny_setField_rec he₃ (by simp) fun h₄ he₄ hs₄ => ?_)
  replace hs₄ : Heap.SameBut it h₃ h₄ := hs₄
  replace he₄ : IsItemIter h₄ it d (i + 1) es.size ep es[i].key es[i].val := he₄
  refine wpAny_bind (wpAny_setField_rec he₄ (by simp) fun h₅ he₅ hs₅ => ?_)
  replace hs₅ : Heap.SameBut it h₄ h₅ := hs₅
  replace he₅ : IsItemIterOut h₅ it d (i + 1) es.size ep es[i].key es[i].val hp.objs.size := he₅
  refine wpAny_bind (wpAny_setField_rec he₅ (by simp) fun h₆ he₆ hs₆ => ?_)
  replace hs₆ : Heap.SameBut it h₅ h₆ := hs₆
  replace he₆ : IsItemIterOut h₆ it d (i + 1) es.size ep es[i].key es[i].val hp.objs.size := he₆
  refine wpAny_bind (wpAny_letGo (wpAny_pure (wpAny_pure ⟨_, rfl, wpAny_pure (hQ h₆ he₆ ?_ ?_ ?_)⟩)))
  · exact hs₆.extBut _ _ (Nat.ne_of_gt hil) (hs₅.extBut _ _ (Nat.ne_of_gt hil) (hs₄.extBut _ _ (Nat.ne_of_gt hil) (hs₃.extBut _ _ (Nat.ne_of_gt hil) ht₂)))
  · show h₆.objs.size = hp.objs.size + 1
    rw [hs₆.1, hs₅.1, hs₄.1, hs₃.1, hz₂]
  · exact fun b o hb e => hs₆.extBut b o hb (hs₅.extBut b o hb (hs₄.extBut b o hb (hs₃.extBut b o hb (hk₂ b o hb e))))
theorem any_itemEnd {it d : Addr} {i n ep : Nat} {od : Obj} {es : Array DictEntry} {ok ov : Value} {Q : Option Value → Shared → Prop} (hh : A.handled = none) (hit : IsItemIter s.heap it d i n ep ok ov) (hod : s.heap.get? d = some od) (hdd : od.data = .dict es ep) (hn : es.size = n) (hge : es.size ≤ i)
    (hQ : ∀ h', Heap.ExtBut it s.heap h' → Q none { s with heap := h' }) : wpAny (model prog w) A (pyNext (.ref it)) Q E s := by
  subst hn
  have hT : s.TypeIs (.ref it) "dict_itemiterator" := ⟨_, hit, rfl⟩
  unfold pyNext
  refine wpAny_bind (wpAny_attempt (wpAny_callSpecial?_slot (name := Str.ofString "__next__") hT F.slot_dict_itemiterator_next
    (wpAny_call_entry F.slot_dict_itemiterator_next hT F.entry_dict_itemiterator_next ?_ (F.args_dict_itemiterator_next_1 _))))
  refine wpAny_bind (wpAny_pure ?_)
  refine wpAny_bind ?_
  refine wpAny_bind ?_
  first | refine wpAny_bind (wpAny_typeNameOfWhole_itemiter hT (wpAny_pure ?_)) | refine wpAny_bind (wpAny_typeNameOf_itemiter hT (wpAny_pure ?_))
  refine wpAny_bind (wpAny_fieldsOf hit rfl ?_)
  have hown : Builtin.Dict_items.ownsTuple "dict_itemiterator" = true := by decide
  simp only [hown, if_true]
  show wpAny _ _ (if (Value.ref d == Value.none) = true then _ else _) _ _ s
  rw [if_neg (show ¬ ((Value.ref d == Value.none) = true) from Bool.false_ne_true)]
  refine wpAny_bind (wpAny_pure ?_)
  refine wpAny_bind (wpAny_dictEntries hod hdd ?_)
  rw [if_neg (by simp)]
  refine wpAny_bind (wpAny_pure ?_)
  refine wpAny_bind (wpAny_dictEpoch hod hdd ?_)
  rw [if_neg (by simp)]
  refine wpAny_pure ?_
  simp only [show ¬ ((i : Int) < 0) from by omega, if_false, Int.toNat_natCast, Array.getElem?_eq_none hge]
  refine wpAny_bind ?_
  first | refine wpAny_bind (wpAny_typeNameOfWhole_itemiter hT (wpAny_pure ?_)) | refine wpAny_bind (wpAny_typeNameOf_itemiter hT (wpAny_pure ?_))
  show wpAny _ _ (setField (.ref it) 2 .none >>= _) _ _ s
  refine wpAny_bind (wpAny_setField hit rfl (by simp) ?_)
  show wpAny _ _ (newExc (.type "StopIteration") [] >>= _) _ _ _
  refine wpAny_bind ?_
  simp only [newExc, newTuple]
  refine wpAny_bind (wpAny_newObj_type ?_ (by size_fits))
  refine wpAny_bind (m := firstArgMember _ _) (wpAny_of_eq (a := Value.none) (by first | rfl | (simp only [firstArgMember]; rfl)) ?_)
  refine wpAny_newObj_type ?_ (by size_fits)
  simp only [raiseNew]
  refine wpAny_bind (wpAny_handled ?_)
  rw [show A.in1.handled = none from hh]
  refine wpAny_bind (wpAny_pure (wpAny_throw ?_))
  refine wpAny_bind (wpAny_isInstance (T := "StopIteration") (b := true) ⟨_, Heap.get?_push_size _ rfl, rfl⟩ isSubtype_stop ?_)
  exact wpAny_pure (hQ _ (((Heap.SameBut.update ..).extBut.push _).push _))
end
section
variable {X : Cx} {pins : List (Addr × Obj)} {σ : St} {H : Hp} {s : Shared}
theorem frzG_val {a : Addr} {o : Obj} {es : Array DictEntry} {ep : Nat} {kvs : List (KD × V × V)} (hd : o.data = .dict es ep) (I : Inv X pins σ H s) (e : H a = some (.frz o (.dG kvs))) : ∀ i (hi : i < es.size) (hk : i < kvs.length), RelV kvs[i].2.2 es[i].val := by
  obtain ⟨ho, _, _, xs, pr, o', es', ep', ho', _, hd', he, _⟩ : s.heap.get? a = some o ∧ ObjOk X.prog X.w H s.heap a (.dG kvs) := I.hok a _ e
  rw [ho] at ho'
  cases ho'
  rw [hd] at hd'
  injection hd' with hd' _
  subst hd'
  intro i hi hk
  have hx : i < xs.length := by rw [← pr.length]; exact hk
  have rel := paired_at pr i hk hx
  have ek : es[i].val = xs[i].2.2 := by
    have h1 : es.toList[i]? = some es[i] := by simp [hi]
    rw [he, List.getElem?_map, List.getElem?_eq_getElem hx] at h1
    rw [← Option.some.inj h1]
    rfl
  rw [ek]
  exact rel.2.2.2
end
def ItI (a : Addr) (o : Obj) (kvs : List (KD × V × V)) : It :=
  ⟨fun i H => H a = some (.frz o (.dG kvs)) ∧ i < kvs.length, fun i H x H' => ∃ p e, H p = none ∧ kvs[i]? = some e ∧ x = .ref p ∧ H' = upd H p (.tup [e.2.1, e.2.2]), fun i H => H a = some (.frz o (.dG kvs)) ∧ kvs.length ≤ i⟩
theorem turn_itemsG {P : Program} {w : World} {K : PySem.W.Frag} {es' : List Expr} {k : Nat} {tp : Pos} (a it : Addr) {o : Obj} {es : Array DictEntry} {ep : Nat} {kvs : List (KD × V × V)} (hd : o.data = .dict es ep) :
    Turn P w K (.Tuple es' k tp) (ItI a o kvs) [it] it (fun i h => ∃ ok ov, IsItemIter h it a i kvs.length ep ok ov) where
  mem := by simp
  obj := fun i h st b hb => by
    have e : b = it := by simpa using hb
    subst e
    obtain ⟨ok, ov, e⟩ := st
    exact ⟨_, e, fun v z => by cases z⟩
  keep := fun i h h' st k => by
    obtain ⟨ok, ov, e⟩ := st
    exact ⟨ok, ov, k it (by simp) _ e⟩
  item := by
    intro X hP hw hK hc i pins s σ H E I hf st hg
    subst hP hw hK
    obtain ⟨he, hi⟩ := hg
    obtain ⟨ok, ov, st⟩ := st
    obtain ⟨ho, hl, rel⟩ := frzG_at hd I he
    have relv := frzG_val hd I he
    have hi' : i < es.size := by omega
    have zlt : it < s.heap.objs.size := Heap.lt_size st
    refine any_itemNext st ho hd hl hi' fun h' a1 a2 a3 a4 => ⟨_, rfl, wpAny_letOwnedTupleGo_items a1 fun h'' b1 bs => ?_⟩
    have I1 : Inv X pins σ H { s with heap := h'' } := I.turnedN (t' := s.toks) hf fun c o hc q => bs.extBut c o (fun e => hc (by simp [e])) (a4 c o (fun e => hc (by simp [e])) q)
    have eT : h''.get? s.heap.objs.size = some { cls := .type "tuple", data := .seq #[es[i].key, es[i].val] } := bs.extBut _ _ (Nat.ne_of_gt zlt) a2
    have nT : H s.heap.objs.size = none := I.hok.fresh (Nat.le_refl _)
    refine ⟨.ref s.heap.objs.size, upd H s.heap.objs.size (.tup [kvs[i].2.1, kvs[i].2.2]), I.track I1 (Nat.le_refl _) nT ⟨?_, [es[i].key, es[i].val], .cons (rel i hi' hi) (.cons (relv i hi' hi) .nil), ⟨_, eT, rfl, _, rfl⟩⟩, rfl, ⟨_, kvs[i], nT, List.getElem?_eq_getElem hi, rfl, rfl⟩, ⟨_, _, b1⟩, fun c hc => ?_⟩
    · show 2 ≤ sizeLine
      decide
    · have e : c = it := by simpa using hc
      subst e
      rw [upd_ne (Nat.ne_of_lt zlt)]
      exact (hf c (by simp)).1
  done := by
    intro X hP hw hK hc i pins s σ H E I hf st hg
    subst hP hw hK
    obtain ⟨he, hi⟩ := hg
    obtain ⟨ok, ov, st⟩ := st
    obtain ⟨ho, hl, rel⟩ := frzG_at hd I he
    exact any_itemEnd (I.ok.hd hc) st ho hd hl (by omega) fun h' eb => ⟨rfl, I.turnedN (t' := s.toks) hf fun c o hc q => eb c o (fun e => hc (by simp [e])) q⟩
  self := fun A i s Q E st h => by
    obtain ⟨ok, ov, st⟩ := st
    have hT : s.TypeIs (.ref it) "dict_itemiterator" := ⟨_, st, rfl⟩
    refine wpAny_pyIter_slot hT F.slot_dict_itemiterator_iter (wpAny_call_entry F.slot_dict_itemiterator_iter hT entry_itemit_iter ?_ (F.args_dict_itemiterator_iter_1 _))
    show wpAny _ _ (ret (.ref it)) _ _ s
    exact wpAny_pure ⟨_, rfl, "dict_itemiterator", _, hT, F.slot_dict_itemiterator_next.lookup, h⟩
def iItemsG (tl : TE) : TI := fun σ H R => tl σ H fun x H1 => ∃ a kvs, x = .ref a ∧ ((H1 a = some (.dG kvs) ∧ ∀ o, R (ItI a o kvs) (upd H1 a (.frz o (.dG kvs)))) ∨ ∃ o, H1 a = some (.frz o (.dG kvs)) ∧ R (ItI a o kvs) H1)
section
variable {X : Cx}
theorem pi_itemsG {l : Expr} {tl : TE} {es' : List Expr} {k : Nat} {tp apos cpos : Pos} (hl : PE X l tl)
    (hbase : attributeBase l "items" X.env (eval l X.env) = eval l X.env := by rfl) (hline : (apos.endLine == cpos.line) = true := by rfl) : PI X (.Tuple es' k tp) (.Call (.Attribute l "items" apos) [] [] cpos) (iItemsG tl) := by
  intro pins s σ H R I h
  refine wpAny_Call_method0_late hbase hline (thn (hl pins s σ H _ I h) fun v s1 ⟨x, H1, I1, r1, q1⟩ => ?_)
  obtain ⟨a, kvs, e, q⟩ := q1
  subst e
  cases r1
  obtain ⟨H2, o, I2, e2, q2⟩ : ∃ (H2 : Hp) (o : Obj), Inv X pins σ H2 s1 ∧ H2 a = some (.frz o (.dG kvs)) ∧ R (ItI a o kvs) H2 := by
    rcases q with ⟨ea, q⟩ | ⟨o, ea, q⟩
    · obtain ⟨_, _, xs, _, o, es, ep, ho, _⟩ := (show ObjOk X.prog X.w H1 s1.heap a (.dG kvs) from I1.hok a _ ea)
      exact ⟨_, o, I1.freezeG ea ho, upd_same, q o⟩
    · exact ⟨_, o, I1, ea, q⟩
  · obtain ⟨ho, _, hsm, xs, _, o', es, ep, ho', hc, hd, _, _⟩ : s1.heap.get? a = some o ∧ ObjOk X.prog X.w H2 s1.heap a (.dG kvs) := I2.hok a _ e2
    rw [ho] at ho'
    cases ho'
    obtain ⟨_, hlen, _⟩ := frzG_at hd I2 e2
    refine ⟨"dict", "dict.items", PySem.F.plainAttrs_dict, PySem.F.slot_dict_items, PySem.F.type_dict_items, ⟨o, ho, hc.1⟩, fun b z => ?_, Calls.callWith_builtin rfl (PySem.evalArgs_none (any_items hsm ho hc ?_))⟩
    · cases z
      exact ⟨o, ho, hc.2.1⟩
    have ho1 : (s1.heap.push { cls := .type "dict_items", data := .fields #[.ref a] }).get? a = some o := Heap.get?_push_of_some _ ho
    refine any_itemIter (s := { s1 with heap := s1.heap.push { cls := .type "dict_items", data := .fields #[.ref a] } }) (v := s1.heap.objs.size) ⟨_, Heap.get?_push_size _ rfl, rfl, rfl⟩ ho1 hd ?_
    have I3 : Inv X pins σ H2 { s1 with heap := s1.heap.push { cls := .type "dict_items", data := .fields #[.ref a] } } := I2.kept (t' := s1.toks) fun b o e => Heap.get?_push_of_some _ e
    refine ⟨(s1.heap.push { cls := .type "dict_items", data := .fields #[.ref a] }).objs.size, [(s1.heap.push { cls := .type "dict_items", data := .fields #[.ref a] }).objs.size], _, _, H2, rfl, I3.kept (t' := s1.toks) fun b o e => Heap.get?_push_of_some _ e, turn_itemsG a _ hd, ⟨_, _, by rw [← hlen]; exact Heap.get?_push_size _ rfl⟩, fun b hb => ?_, q2⟩
    have e : b = (s1.heap.push { cls := .type "dict_items", data := .fields #[.ref a] }).objs.size := by simpa using hb
    subst e
    exact I3.fpOk (Nat.le_refl _) (I3.hok.fresh (Nat.le_refl _))
end
theorem lc_itemsG {a : Addr} {o : Obj} {kvs : List (KD × V × V)} {own : List Str} {fr : List (Str × Nat)} {g : TG} {tt : TT} {te : TE} {σ : St} {H : Hp} {Q : VK} (hz : kvs.length ≤ sizeLine) (Pv : Nat → List V → Hp → Prop) (h0 : Pv 0 [] H) (hl : ∀ i ys H, Pv i ys H → H a = some (.frz o (.dG kvs)))
    (hs : ∀ i e ys H' p (K1 : V → Hp → Prop) (K0 : Hp → Prop), kvs[i]? = some e → Pv i ys H' → H' p = none → (∀ y H4, Pv (i + 1) (ys ++ [y]) H4 → K1 y H4) → (∀ H3, Pv (i + 1) ys H3 → K0 H3) →
      g (.ref p) (compSt own fr σ) (upd H' p (.tup [e.2.1, e.2.2])) fun σ2 H2 => tt σ2 H2 fun b H3 => if b = true then te σ2 H3 K1 else K0 H3)
    (hd : ∀ H' p ys, Pv kvs.length ys H' → ys.length ≤ kvs.length → H' p = none → Q (.ref p) (upd H' p (.lst ys))) : LCb own fr g tt te σ Q (ItI a o kvs) H := by
  refine ⟨fun i m ys H => m = kvs.length - i ∧ i ≤ kvs.length ∧ ys.length ≤ i ∧ Pv i ys H, ⟨kvs.length, by simp, Nat.zero_le _, Nat.zero_le _, h0⟩, ?_⟩
  rintro i m ys H ⟨rfl, hi, hy, p⟩
  by_cases hlt : i < kvs.length
  · refine .inr ⟨⟨hl _ _ H p, hlt⟩, by omega, fun x H' y => ?_⟩
    obtain ⟨q, e, hn, hk, rfl, rfl⟩ := y
    refine hs i e ys _ q _ _ hk p hn (fun y H4 p4 => ⟨kvs.length - (i + 1), by omega, rfl, hlt, ?_, p4⟩) fun H3 p3 => ⟨kvs.length - (i + 1), by omega, rfl, hlt, by omega, p3⟩
    rw [List.length_append, List.length_singleton]
    omega
  · have e : i = kvs.length := by omega
    subst e
    exact .inl ⟨⟨hl _ _ H p, Nat.le_refl _⟩, fun q hq => hd H q ys p hy hq⟩
end L2
set_option maxHeartbeats 4000000
namespace L2
open PySem PySem.Spec PySem.W PyProof.Rows
section
variable {X : Cx} {pins : List (Addr × Obj)} {σ : St} {H : Hp} {s : Shared}
end
end L2
set_option maxHeartbeats 4000000
namespace L2
open PySem PySem.Spec PySem.W PyProof.Rows
section
variable {prog : Program} {w : World} {A : Around} {E : Value → Shared → Prop} {s : Shared}
theorem any_values {d : Addr} {od : Obj} {Q : Value → Shared → Prop} (hs : (d == sysModules) = false) (ho : s.heap.get? d = some od) (hc : od.ExactDict)
    (hQ : Q (.ref s.heap.objs.size) { s with heap := s.heap.push { cls := .type "dict_values", data := .fields #[.ref d] } }) : wpAny (model prog w) A (call (.builtin "dict.values") [.ref d]) Q E s := by
  have hT : s.TypeIs (.ref d) "dict" := ⟨od, ho, hc.1⟩
  refine wpAny_call_entry F.slot_dict_values hT F.entry_dict_values ?_ (F.args_dict_values_1 _)
  unfold Builtin.«dict.values»
  refine wpAny_bind ?_
  unfold Builtin.Dict.noArgs
  refine wpAny_bind (wpAny_notOrdered_dict hT ?_)
  show wpAny _ _ (pure d) _ _ s
  refine wpAny_pure ?_
  show wpAny _ _ (Builtin.Dict.showsAll d >>= _) _ _ s
  unfold Builtin.Dict.showsAll
  rw [if_neg (by rw [hs]; exact Bool.false_ne_true)]
  refine wpAny_bind (wpAny_pure ?_)
  exact wpAny_bind (wpAny_newObj_type (wpAny_pure ⟨_, rfl, hQ⟩))
theorem any_valIter {v d : Addr} {od : Obj} {es : Array DictEntry} {ep : Nat} {Q : Value → Shared → Prop} (hv : s.heap.IsValuesView v d) (ho : s.heap.get? d = some od) (hdat : od.data = .dict es ep)
    (hQ : Q (.ref s.heap.objs.size) { s with heap := s.heap.push { cls := .type "dict_valueiterator", data := .fields #[.ref d, .int 0 0, .int es.size 0, .int ep 0] } }) :
    wpAny (model prog w) A (pyIter (.ref v)) Q E s := by
  obtain ⟨ov, hov, hcv, hdv⟩ := id hv
  refine wpAny_pyIter_slot hv.typeIs F.slot_dict_values_iter (wpAny_call_entry F.slot_dict_values_iter hv.typeIs F.entry_dict_values_iter ?_ (F.args_dict_values_iter_1 _))
  unfold Builtin.«dict_values.__iter__»
  refine wpAny_bind (wpAny_pure ?_)
  refine wpAny_bind ?_
  unfold Builtin.Dict_items.dictOf
  refine wpAny_bind (wpAny_field hov hdv (x := .ref d) rfl (wpAny_pure ?_))
  refine wpAny_bind ?_
  unfold Builtin.Dict_items.newIterator
  refine wpAny_bind (wpAny_dictEntries ho hdat ?_)
  refine wpAny_bind (wpAny_dictEpoch ho hdat ?_)
  have hown : Builtin.Dict_items.ownsTuple "dict_valueiterator" = false := by decide
  simp only [hown, Bool.false_eq_true, if_false]
  refine wpAny_newObj_type (wpAny_pure ⟨_, rfl, "dict_valueiterator", _, ⟨_, Heap.get?_push_size _ rfl, rfl⟩, F.slot_dict_valueiterator_next.lookup, ?_⟩)
  simpa [rawInt] using hQ
theorem any_valNext {it d : Addr} {i n ep : Nat} {od : Obj} {es : Array DictEntry} {Q : Option Value → Shared → Prop} (hh : A.handled = none) (hit : s.heap.IsValIter it d i n ep) (hod : s.heap.get? d = some od) (hdd : od.data = .dict es ep) (hn : es.size = n)
    (h1 : ∀ (hi : i < es.size) h', h'.IsValIter it d (i + 1) n ep → Heap.SameBut it s.heap h' → Q (some es[i].val) { s with heap := h' })
    (h2 : es.size ≤ i → ∀ h', Heap.ExtBut it s.heap h' → Q none { s with heap := h' }) : wpAny (model prog w) A (pyNext (.ref it)) Q E s := by
  obtain ⟨o, ho, hc, hd⟩ := id hit
  subst hn
  unfold pyNext
  refine wpAny_bind (wpAny_attempt (wpAny_callSpecial?_slot (name := Str.ofString "__next__") hit.typeIs F.slot_dict_valueiterator_next
    (wpAny_call_entry F.slot_dict_valueiterator_next hit.typeIs F.entry_dict_valueiterator_next ?_ (F.args_dict_valueiterator_next_1 _))))
  refine wpAny_bind (wpAny_pure (wpAny_bind (wpAny_bind ?_)))
  first | refine wpAny_bind (wpAny_typeNameOfWhole_valiter hit.typeIs (wpAny_pure ?_)) | refine wpAny_bind (wpAny_typeNameOf_valiter hit.typeIs (wpAny_pure ?_))
  refine wpAny_bind (wpAny_fieldsOf ho hd ?_)
  simp only [show Builtin.Dict_items.ownsTuple "dict_valueiterator" = false by decide, Bool.false_eq_true, if_false]
  show wpAny _ _ (if (Value.ref d == Value.none) = true then _ else _) _ _ s
  rw [if_neg (show ¬ ((Value.ref d == Value.none) = true) from Bool.false_ne_true)]
  refine wpAny_bind (wpAny_pure (wpAny_bind (wpAny_dictEntries hod hdd ?_)))
  rw [if_neg (by simp)]
  refine wpAny_bind (wpAny_pure (wpAny_bind (wpAny_dictEpoch hod hdd ?_)))
  rw [if_neg (by simp)]
  refine wpAny_pure ?_
  by_cases hi : i < es.size
  · simp only [show ¬ ((i : Int) < 0) from by omega, if_false, Int.toNat_natCast, Array.getElem?_eq_getElem hi]
    refine wpAny_bind ?_
    first | refine wpAny_bind (wpAny_typeNameOfWhole_valiter hit.typeIs (wpAny_pure ?_)) | refine wpAny_bind (wpAny_typeNameOf_valiter hit.typeIs (wpAny_pure ?_))
    refine wpAny_bind (wpAny_isOneOf_valiter hit.typeIs ?_)
    show wpAny _ _ (setField (.ref it) 1 (rawInt ((i : Int) + 1)) >>= _) _ _ s
    refine wpAny_bind (wpAny_setField ho hd (by simp) ?_)
    have hit' : (s.heap.update it (Obj.mapFields (·.setIfInBounds 1 (rawInt ((i : Int) + 1))))).IsValIter it d (i + 1) es.size ep :=
      ⟨_, Heap.get?_update_self _ ho (Obj.isFreed_of_fields (Obj.data_mapFields hd _)), (Obj.cls_mapFields ..).trans hc, by rw [Obj.data_mapFields hd]; simp [rawInt]⟩
    refine wpAny_bind (wpAny_holding ?_)
    refine wpAny_bind (wpAny_isOneOf_valiter (s := { s with heap := s.heap.update it (Obj.mapFields (·.setIfInBounds 1 (rawInt ((i : Int) + 1)))) }) hit'.typeIs ?_)
    refine wpAny_bind (wpAny_isOneOf_valiter (s := { s with heap := s.heap.update it (Obj.mapFields (·.setIfInBounds 1 (rawInt ((i : Int) + 1)))) }) hit'.typeIs ?_)
    show wpAny _ _ (pure es[i].val) _ _ _
    exact wpAny_pure (wpAny_pure ⟨_, rfl, wpAny_pure (h1 hi _ hit' (Heap.SameBut.update ..))⟩)
  · have hge : es.size ≤ i := by omega
    simp only [show ¬ ((i : Int) < 0) from by omega, if_false, Int.toNat_natCast, Array.getElem?_eq_none hge]
    refine wpAny_bind ?_
    first | refine wpAny_bind (wpAny_typeNameOfWhole_valiter hit.typeIs (wpAny_pure ?_)) | refine wpAny_bind (wpAny_typeNameOf_valiter hit.typeIs (wpAny_pure ?_))
    show wpAny _ _ (setField (.ref it) 0 .none >>= _) _ _ s
    refine wpAny_bind (wpAny_setField ho hd (by simp) ?_)
    show wpAny _ _ (newExc (.type "StopIteration") [] >>= _) _ _ _
    refine wpAny_bind ?_
    simp only [newExc, newTuple]
    refine wpAny_bind (wpAny_newObj_type ?_ (by size_fits))
    refine wpAny_bind (m := firstArgMember _ _) (wpAny_of_eq (a := Value.none) (by first | rfl | (simp only [firstArgMember]; rfl)) ?_)
    refine wpAny_newObj_type ?_ (by size_fits)
    simp only [raiseNew]
    refine wpAny_bind (wpAny_handled ?_)
    rw [show A.in1.handled = none from hh]
    refine wpAny_bind (wpAny_pure (wpAny_throw ?_))
    refine wpAny_bind (wpAny_isInstance (T := "StopIteration") (b := true) ⟨_, Heap.get?_push_size _ rfl, rfl⟩ isSubtype_stop ?_)
    exact wpAny_pure (h2 hge _ (((Heap.SameBut.update ..).extBut.push _).push _))
theorem sub_vals : isSubtype (.type "dict_values") (.type "dict_values") = pure true := by rw [isSubtype_type]; kernel_rfl
theorem entry_valit_iter : entryFor table "dict_valueiterator.__iter__" = some Builtin.«dict_keyiterator.__iter__» := entryFor_alias (id' := "dict_keyiterator.__iter__") (by kernel_rfl) rfl (by decide +kernel) (by kernel_rfl)
theorem walk_vals {it d : Addr} {od : Obj} {es : Array DictEntry} {ep : Nat} (hh : A.handled = none) (hne : it ≠ d) (hdat : od.data = .dict es ep) :
    WalksS prog w A it [it, d] [it] Eq es.size (fun j v => (es[j]?).map (·.val) = some v) (fun i s => s.heap.IsValIter it d i es.size ep ∧ s.heap.get? d = some od) where
  sub := fun b hb => by rw [List.mem_singleton.mp hb]; exact List.mem_cons_self
  grefl := fun _ => rfl
  gtrans := fun _ _ _ h1 h2 => h1.trans h2
  frame := fun i s h' tk ⟨⟨o, e, c, dd⟩, e2⟩ _ k => ⟨⟨o, k it List.mem_cons_self o e, c, dd⟩, k d (List.mem_cons_of_mem _ List.mem_cons_self) od e2⟩
  item := fun i s Q E hi ⟨st, e2⟩ k => any_valNext hh st e2 hdat rfl (fun hi' h' st' sb => k _ _ (by rw [Array.getElem?_eq_getElem hi']; rfl) ⟨st', (sb.2 d hne.symm).trans e2⟩ ⟨fun b o hb e => (sb.2 b (fun z => hb (by rw [z]; exact List.mem_cons_self))).trans e, rfl, rfl, rfl, Nat.le_refl _⟩) fun z => absurd hi (by omega)
  done := fun s Q E ⟨st, e2⟩ k => any_valNext hh st e2 hdat rfl (fun hi' => absurd hi' (by omega)) fun _ h' eb => k _ ⟨fun b o hb e => eb b o (fun z => hb (by rw [z]; exact List.mem_cons_self)) e, rfl, rfl, rfl, Nat.le_refl _⟩
  self := fun i s Q E ⟨st, _⟩ h => by
    refine wpAny_pyIter_slot st.typeIs F.slot_dict_valueiterator_iter (wpAny_call_entry F.slot_dict_valueiterator_iter st.typeIs entry_valit_iter ?_ (F.args_dict_valueiterator_iter_1 _))
    show wpAny _ _ (ret (.ref _)) _ _ s
    exact wpAny_pure ⟨_, rfl, "dict_valueiterator", _, st.typeIs, F.slot_dict_valueiterator_next.lookup, h⟩
theorem items_vals {es : Array DictEntry} {acc : Array Value} (h : ItemsOf (fun j v => (es[j]?).map (·.val) = some v) acc es.size) : acc.toList = es.toList.map (·.val) := by
  apply List.ext_getElem?
  intro j
  by_cases hj : j < acc.size
  · have hj' : j < es.size := by rw [← h.1]; exact hj
    have := h.2 j acc[j] (Array.getElem?_eq_getElem hj)
    rw [Array.getElem?_toList, Array.getElem?_eq_getElem hj, List.getElem?_map, Array.getElem?_toList]
    exact this.symm
  · have hj' : ¬ j < es.size := by rw [← h.1]; exact hj
    rw [List.getElem?_eq_none (by rw [Array.length_toList]; omega), List.getElem?_eq_none (by rw [List.length_map, Array.length_toList]; omega)]
theorem list_vals {d v : Addr} {od : Obj} {es : Array DictEntry} {ep : Nat} {Q : Value → Shared → Prop} (hh : A.handled = none) (hv : s.heap.IsValuesView v d) (ho : s.heap.get? d = some od) (hdat : od.data = .dict es ep) (hz : es.size ≤ sizeLine)
    (hQ : ∀ s' acc c, Moved [] Eq s s' → s'.heap.get? s.heap.objs.size = some { cls := .type "list", dict := none, data := .seq acc c, slots := #[] } → acc.toList = es.toList.map (·.val) → Q (.ref s.heap.objs.size) s') :
    wpAny (model prog w) A (call (.type "list") [.ref v]) Q E s := by
  refine callType_codes (Q₁ := fun obj s₁ => obj = .ref s.heap.objs.size ∧ s₁ = { s with heap := s.heap.push { cls := .type "list", data := .seq #[] } }) F.called_list (F.typeCall_list_1 _) F.entry_list_init
    (code_list_new _ ⟨rfl, rfl⟩) fun obj s₁ h₁ => ?_
  obtain ⟨rfl, rfl⟩ := h₁
  have hS : (s.heap.push { cls := .type "list", data := .seq #[] }).get? s.heap.objs.size = some { cls := .type "list", data := .seq #[] } := Heap.get?_push_size _ rfl
  refine ⟨⟨_, hS, rfl⟩, F.args_list_init_2 _ _, ?_⟩
  have hlv : v < s.heap.objs.size := by obtain ⟨o, e, _⟩ := hv; exact Heap.lt_size e
  have hld : d < s.heap.objs.size := Heap.lt_size ho
  generalize hp1 : s.heap.push { cls := .type "list", data := .seq #[] } = h1 at hS
  have k1 : ∀ b o, s.heap.get? b = some o → h1.get? b = some o := fun b o e => by rw [← hp1]; exact Heap.get?_push_of_some _ e
  show wpAny _ A.in1.in1 (do let old ← Builtin.List.listItems (.ref s.heap.objs.size); Builtin.List.listUpdate (.ref s.heap.objs.size) (fun _ => #[]); letGo old.toList.reverse; Builtin.List.listExtendWith (.ref s.heap.objs.size) (.ref v) .none) _ _ { s with heap := h1 }
  refine wpAny_bind ?_
  unfold Builtin.List.listItems
  refine wpAny_bind (wpAny_seqItems (s := { s with heap := h1 }) hS rfl (wpAny_pure ?_))
  show wpAny _ A.in1.in1 (updateSeq s.heap.objs.size (fun _ => #[]) >>= fun _ => letGo (#[] : Array Value).toList.reverse >>= fun _ => Builtin.List.listExtendWith (.ref s.heap.objs.size) (.ref v) .none) _ _ { s with heap := h1 }
  refine wpAny_bind (wpAny_updateSeq (s := { s with heap := h1 }) hS rfl ?_)
  have hS2 := Heap.get?_update_self (Obj.mapSeq (fun _ => (#[] : Array Value))) hS rfl
  have k2 : ∀ b o, s.heap.get? b = some o → (h1.update s.heap.objs.size (Obj.mapSeq (fun _ => (#[] : Array Value)))).get? b = some o :=
    fun b o e => (Heap.get?_update_other _ _ (Nat.ne_of_gt (Heap.lt_size e))).trans (k1 b o e)
  have hz2 : (h1.update s.heap.objs.size (Obj.mapSeq (fun _ => (#[] : Array Value)))).objs.size = s.heap.objs.size + 1 := by rw [Heap.size_update, ← hp1, Heap.size_push]
  show wpAny _ _ _ _ _ { s with heap := h1.update s.heap.objs.size (Obj.mapSeq (fun _ => (#[] : Array Value))) }
  generalize h1.update s.heap.objs.size (Obj.mapSeq (fun _ => (#[] : Array Value))) = h2 at hS2 k2 hz2
  refine wpAny_bind (wpAny_letGo ?_)
  obtain ⟨ov, hov, hcv, hdv⟩ := hv
  have hv2 : h2.IsValuesView v d := ⟨ov, k2 _ _ hov, hcv, hdv⟩
  have hT2 : Shared.TypeIs { s with heap := h2 } (.ref v) "dict_values" := hv2.typeIs
  have e1 : Builtin.List.listSameRef (.ref s.heap.objs.size) (.ref v) = false := by
    show (s.heap.objs.size == v) = false
    exact beq_eq_false_iff_ne.mpr (Nat.ne_of_gt hlv)
  unfold Builtin.List.listExtendWith
  refine wpAny_bind (wpAny_typeOf hT2 ?_)
  rw [if_neg (by rw [e1]; decide)]
  refine wpAny_bind (any_valIter (s := { s with heap := h2 }) hv2 (k2 _ _ ho) hdat ?_)
  refine wpAny_bind (wpAny_holding ?_)
  show wpAny _ _ _ _ _ { s with heap := h2.push { cls := .type "dict_valueiterator", data := .fields #[.ref d, .int 0 0, .int es.size 0, .int ep 0] } }
  have hi3 : (h2.push { cls := .type "dict_valueiterator", data := .fields #[.ref d, .int 0 0, .int es.size 0, .int ep 0] }).IsValIter h2.objs.size d 0 es.size ep := ⟨_, Heap.get?_push_size _ rfl, rfl, rfl⟩
  have k3 : ∀ b o, h2.get? b = some o → (h2.push { cls := .type "dict_valueiterator", data := .fields #[.ref d, .int 0 0, .int es.size 0, .int ep 0] }).get? b = some o := fun b o e => Heap.get?_push_of_some _ e
  generalize h2.push { cls := .type "dict_valueiterator", data := .fields #[.ref d, .int 0 0, .int es.size 0, .int ep 0] } = h3 at hi3 k3
  have hT3 : Shared.TypeIs { s with heap := h3 } (.ref v) "dict_values" := ⟨ov, k3 _ _ (k2 _ _ hov), hcv⟩
  unfold Builtin.List.listLengthHint
  refine wpAny_bind (wpAny_specialOf (name := Str.ofString "__len__") hT3 F.slot_dict_values_len.lookup ?_)
  generalize hid : ("dict_values.__len__" : String) = id0
  wp_delta
  rw [show splitId id0 = some ("dict_values", "__len__") from by subst hid; decide +kernel]
  subst hid
  refine wpAny_bind (wpAny_isInstance (T := "dict_values") (b := true) hT3 sub_vals ?_)
  rw [if_neg (by decide)]
  wp_delta
  rw [if_pos (by decide +kernel)]
  refine wpAny_bind (wpAny_typeOf hT3 (wpAny_pure ?_))
  rw [if_pos (by decide +kernel)]
  have hS3 := k3 _ _ hS2
  refine wpAny_bind (wpAny_rule (wpAny_bind ?_))
  unfold Builtin.List.listTouch
  refine wpAny_bind (listUpdate_at (s := { s with heap := h3 }) hS3 rfl ?_)
  obtain ⟨c1, hS4⟩ : ∃ c1, (h3.update s.heap.objs.size (Obj.mapSeq (·.push Value.none))).get? s.heap.objs.size = some (seqObj "list" #[Value.none] c1) := ⟨_, get?_update_seq hS3 _⟩
  have k4 : ∀ b o, b ≠ s.heap.objs.size → h3.get? b = some o → (h3.update s.heap.objs.size (Obj.mapSeq (·.push Value.none))).get? b = some o := fun b o hb e => (Heap.get?_update_other _ _ (fun z => hb z.symm)).trans e
  show wpAny _ _ _ _ _ { s with heap := h3.update s.heap.objs.size (Obj.mapSeq (·.push Value.none)) }
  generalize h3.update s.heap.objs.size (Obj.mapSeq (·.push Value.none)) = h4 at hS4 k4
  refine listUpdate_at (s := { s with heap := h4 }) hS4 rfl ?_
  obtain ⟨c2, hS5⟩ : ∃ c2, (h4.update s.heap.objs.size (Obj.mapSeq (·.pop))).get? s.heap.objs.size = some (seqObj "list" #[] c2) := ⟨_, get?_update_seq hS4 _⟩
  have k5 : ∀ b o, b ≠ s.heap.objs.size → h3.get? b = some o → (h4.update s.heap.objs.size (Obj.mapSeq (·.pop))).get? b = some o := fun b o hb e => (Heap.get?_update_other _ _ (fun z => hb z.symm)).trans (k4 b o hb e)
  show wpAny _ _ _ _ _ { s with heap := h4.update s.heap.objs.size (Obj.mapSeq (·.pop)) }
  generalize h4.update s.heap.objs.size (Obj.mapSeq (·.pop)) = h5 at hS5 k5
  show wpAny _ _ (again (Code.builtin "list.extend.loop" ⟨[Value.ref s.heap.objs.size, Value.ref h2.objs.size, Value.none], []⟩)) _ _ _
  rw [hz2] at hi3 ⊢
  have W := walk_vals (prog := prog) (w := w) (A := A.in1.in1) (it := s.heap.objs.size + 1) (d := d) (od := od) (es := es) (ep := ep) hh (Nat.ne_of_gt (Nat.lt_succ_of_lt hld)) hdat
  obtain ⟨oi, ei, ci, di⟩ := hi3
  refine wpAny_pure ⟨plainId_quiet F.plain_extend_loop _, codeAny_extend_loopS W hz s.heap.objs.size (fun z => ?_) _ es.size 0 { s with heap := h5 } #[] c2 rfl (Nat.zero_le _) ⟨⟨oi, k5 _ _ (Nat.succ_ne_self _) ei, ci, di⟩, k5 _ _ (Nat.ne_of_lt hld) (k3 _ _ (k2 _ _ ho))⟩ hS5 (ItemsOf.nil _) fun s' acc' c' hm hS' hacc => ?_⟩
  · simp only [List.mem_cons, List.not_mem_nil, or_false] at z
    rcases z with z | z
    · exact Nat.succ_ne_self _ z.symm
    · exact Nat.ne_of_gt hld z
  · refine ⟨rfl, hQ s' acc' c' ⟨fun b o _ e => ?_, hm.gens, hm.drawn, hm.os, hm.toks⟩ hS' (items_vals hacc)⟩
    have hb : b < s.heap.objs.size := Heap.lt_size e
    refine hm.heap b o (fun z => ?_) (k5 b o (Nat.ne_of_lt hb) (k3 _ _ (k2 _ _ e)))
    simp only [List.mem_cons, List.not_mem_nil, or_false] at z
    rcases z with z | z
    · exact Nat.ne_of_lt hb z
    · exact Nat.ne_of_lt (Nat.lt_succ_of_lt hb) z
end
def tLVals (tl : TE) : TE := fun σ H Q => tl σ H fun x H1 => ∃ a kvs, x = .ref a ∧ Rd H1 a (.dG kvs) ∧ kvs.length ≤ 1000 ∧ ∀ p H', H1 p = none → Same H1 H' → H' p = some (.lst (kvs.map (·.2.2))) → Q (.ref p) H'
section
variable {X : Cx}
theorem pe_listVals {l : Expr} {tl : TE} {p apos cpos pos : Pos} (hc : X.calm = true) (hgl : Gl X "list") (hml : X.mg "list" = none) (hl : PE X l tl)
    (hbase : attributeBase l "values" X.env (eval l X.env) = eval l X.env := by rfl) (hline : (apos.endLine == cpos.line) = true := by rfl)
    (hs2 : starEach [.Call (.Attribute l "values" apos) [] [] cpos] X.env = [(false, eval (.Call (.Attribute l "values" apos) [] [] cpos) X.env)] := by rfl) :
    PE X (.Call (.Name "list" p) [.Call (.Attribute l "values" apos) [] [] cpos] [] pos) (tLVals tl) := by
  intro pins s σ H Q I h
  refine wpAny_Call_Name_kw (ld_blt I hgl hml boot_list ?_ (by decide) (by decide))
  refine PyProof.Rows.callWith_type1 ?_ hs2 rfl
  rw [hs2]
  refine Calls.spliced_cons ?_
  refine wpAny_Call_method0_late hbase hline (thn (hl pins s σ H _ I h) fun v s1 ⟨x, H1, I1, r1, q1⟩ => ?_)
  obtain ⟨a, kvs, e, rd, hz, q⟩ := q1
  subst e
  cases r1
  obtain ⟨_, hsm, xs, pr, o, es, ep, ho, hc', hd, he, _⟩ : ObjOk X.prog X.w H1 s1.heap a (.dG kvs) := rd.ok I1.hok
  have hlen : es.size = kvs.length := by
    have : es.toList.length = kvs.length := by rw [he, List.length_map, pr.length]
    simpa using this
  refine ⟨"dict", "dict.values", PySem.F.plainAttrs_dict, PySem.F.slot_dict_values, PySem.F.type_dict_values, ⟨o, ho, hc'.1⟩, fun b z => ?_, Calls.callWith_builtin rfl (PySem.evalArgs_none (any_values hsm ho hc' ?_))⟩
  · cases z
    exact ⟨o, ho, hc'.2.1⟩
  have ho1 : (s1.heap.push { cls := .type "dict_values", data := .fields #[.ref a] }).get? a = some o := Heap.get?_push_of_some _ ho
  have I2 : Inv X pins σ H1 { s1 with heap := s1.heap.push { cls := .type "dict_values", data := .fields #[.ref a] } } := I1.kept (t' := s1.toks) fun b o e => Heap.get?_push_of_some _ e
  refine Calls.spliced_nil ?_
  refine list_vals (s := { s1 with heap := s1.heap.push { cls := .type "dict_values", data := .fields #[.ref a] } }) (I1.ok.hd hc) (v := s1.heap.objs.size) ⟨_, Heap.get?_push_size _ rfl, rfl, rfl⟩ ho1 hd (by rw [hlen, sizeLine_eq]; omega) fun s' acc c m eS ea => ?_
  have e' : s' = { s1 with heap := s'.heap, toks := s'.toks } := by
    obtain ⟨g1, g2, g3, g4, g5⟩ := m
    cases s'
    cases g2
    cases g3
    cases g4
    rfl
  have hf := I2.hok.fresh (a := (s1.heap.push { cls := .type "dict_values", data := .fields #[.ref a] }).objs.size) (Nat.le_refl _)
  have I3 : Inv X pins σ (upd H1 (s1.heap.push { cls := .type "dict_values", data := .fields #[.ref a] }).objs.size (.lst (kvs.map (·.2.2)))) s' := by
    rw [e']
    refine I2.laid (t' := s'.toks) (h' := s'.heap) (fun b u e => m.heap b u (by simp) e) (Nat.le_refl _) ⟨?_, acc.toList, c, ?_, by simpa using eS⟩
    · show (kvs.map (·.2.2)).length ≤ sizeLine
      rw [List.length_map, sizeLine_eq]; omega
    · rw [ea, he, List.map_map]
      exact (gp_vals pr).1
  exact ⟨.ref _, _, I3, rfl, q _ _ hf (Same.new hf) upd_same⟩
end
end L2
namespace L2
open PySem PySem.Spec PySem.W PyProof.Rows
abbrev TJ := St → Hp → Str → (Str → Hp → Prop) → Prop
def PJ (X : Cx) (es : List Expr) (tj : TJ) : Prop := ∀ pins s σ H acc R, Inv X pins σ H s → tj σ H acc R →
  Joins (model X.prog X.w) X.A X.xe (evalEach es X.env) acc (fun out s1 => ∃ H1, Inv X pins σ H1 s1 ∧ R out H1) s
def tjNil : TJ := fun _ H acc R => R acc H
def tjCons (te : TE) (tj : TJ) : TJ := fun σ H acc R => te σ H fun x H1 => ∃ z, x = .str z ∧ (acc ++ z).length ≤ 16777216 ∧ tj σ H1 (acc ++ z) R
def tFv (te : TE) : TE := fun σ H Q => te σ H fun x H1 => ∃ z, x = .str z ∧ z.length ≤ 16777216 ∧ Q (.str z) H1
def tFst (tj : TJ) : TE := fun σ H Q => tj σ H Str.empty fun out H1 => out.length ≤ 16777216 ∧ Q (.str out) H1
section
variable {X : Cx}
theorem pj_nil : PJ X [] tjNil := fun pins s σ H acc R I h => ⟨H, I, h⟩
theorem pj_cons {e : Expr} {es : List Expr} {te : TE} {tj : TJ} (he : PE X e te) (hj : PJ X es tj) : PJ X (e :: es) (tjCons te tj) := by
  intro pins s σ H acc R I h
  refine wpAny_mono (he pins s σ H _ I h) (fun v s1 ⟨x, H1, I1, r1, q1⟩ => ?_) fun _ _ e => e
  obtain ⟨z, rfl, hz, q⟩ := q1
  obtain ⟨t, rfl⟩ := r1
  exact ⟨z, t, rfl, by rw [sizeLine_eq]; exact hz, hj pins s1 σ H1 _ R I1 q⟩
theorem pe_fv {e : Expr} {te : TE} {pos : Pos} (he : PE X e te) : PE X (.FormattedValue e (-1) none pos) (tFv te) := by
  intro pins s σ H Q I h
  refine wpAny_FormattedValue_plain (wpAny_mono (he pins s σ H _ I h) (fun v s1 ⟨x, H1, I1, r1, q1⟩ => ?_) fun _ _ e => e)
  obtain ⟨z, rfl, hz, q⟩ := q1
  obtain ⟨t, rfl⟩ := r1
  exact wpAny_formatField_str ⟨.str z, H1, I1, ⟨_, rfl⟩, q⟩ ⟨.str z, H1, I1.tok _, ⟨_, rfl⟩, q⟩ (by rw [sizeLine_eq]; exact hz)
theorem pe_fst {e1 e2 : Expr} {es : List Expr} {tj : TJ} {pos : Pos} (hj : PJ X (e1 :: e2 :: es) tj) : PE X (.JoinedStr (e1 :: e2 :: es) pos) (tFst tj) := by
  intro pins s σ H Q I h
  refine wpAny_JoinedStr ?_
  have := hj pins s σ H _ _ I h
  refine (?_ : ∀ (ps : List (Sem Value)) acc s, Joins (model X.prog X.w) X.A X.xe ps acc _ s → Joins (model X.prog X.w) X.A X.xe ps acc _ s) _ _ _ this
  intro ps
  induction ps with
  | nil =>
    rintro acc s ⟨H1, I1, hz, q⟩
    exact ⟨by rw [sizeLine_eq]; exact hz, .str acc, H1, I1.tok _, ⟨_, rfl⟩, q⟩
  | cons p ps ih =>
    intro acc s h
    refine wpAny_mono h (fun v s1 h1 => ?_) fun _ _ e => e
    obtain ⟨y, t, rfl, hz, hr⟩ := h1
    exact ⟨y, t, rfl, hz, ih _ _ hr⟩
theorem op_repS : OpR X (binaryOp .Mult) (fun x y H Q => ∃ z b, x = .str z ∧ y = .int (if b = true then 1 else 0) ∧ Q (.str (if b = true then z else Str.empty)) H) := by
  intro pins s σ H x y v u Q I rx ry h
  obtain ⟨z, b, rfl, rfl, q⟩ := h
  obtain ⟨t, rfl⟩ := rx
  obtain ⟨t', rfl⟩ := ry
  cases b
  · exact P.mul_str_none (by decide) (by decide) ⟨.str Str.empty, H, I.tok _, ⟨_, rfl⟩, q⟩
  · exact P.mul_str (by decide) (fun _ h => absurd h (by simp)) (fun _ h => absurd h (by simp)) ⟨.str z, H, I, ⟨t, rfl⟩, q⟩
end
end L2
set_option maxHeartbeats 40000000
namespace My
open PySem L2 PyProof.Rows
theorem szOk {n : Nat} (h : Nat.ble n 1000 = true) : n ≤ sizeLine := Nat.le_of_lt (small1000 (Nat.le_of_ble_eq_true h))
theorem big {n : Nat} (h : n ≤ 1000) : n ≤ sizeLine := Nat.le_of_lt (small1000 h)
theorem itT {c : Bool} {A B : Prop} (h : c = true) (a : A) : if c = true then A else B := by rw [if_pos h]; exact a
theorem itF {c : Bool} {A B : Prop} (h : c = false) (b : B) : if c = true then A else B := by rw [if_neg (by rw [h]; decide)]; exact b
theorem putAll_new {α β : Type} : ∀ (es xs : List (KD × α × β)), ((xs ++ es).map (·.1)).Nodup → putAll xs es = xs ++ es
  | [], xs, _ => (List.append_nil xs).symm
  | e :: es, xs, h => by
    have hn : ∀ x ∈ xs, x.1 ≠ e.1 := fun x hx z => by
      rw [List.map_append, List.map_cons] at h
      exact (List.nodup_append.mp h).2.2 x.1 (List.mem_map.mpr ⟨x, hx, rfl⟩) e.1 List.mem_cons_self z
    have hv := vG_none hn
    have hp : pG xs e.1 e.2.1 e.2.2 = xs ++ [e] := by
      unfold pG
      rw [hv, if_neg (fun z => nomatch z)]
    show putAll (pG xs e.1 e.2.1 e.2.2) es = _
    rw [hp, putAll_new es (xs ++ [e]) (by rw [List.append_assoc]; exact h), List.append_assoc]
    rfl
end My
set_option maxHeartbeats 40000000
namespace My
open PySem L2 PyProof.Rows
def AL {β α : Type} (P : β → α → Prop) (vs : List β) (rs : List α) : Prop := vs.length = rs.length ∧ ∀ (m : Nat) v r, vs[m]? = some v → rs[m]? = some r → P v r
section
variable {β α : Type} {P P' : β → α → Prop} {vs us : List β} {rs ts : List α}
theorem AL.imp (h : AL P vs rs) (f : ∀ v r, P v r → P' v r) : AL P' vs rs := ⟨h.1, fun m v r e1 e2 => f _ _ (h.2 m v r e1 e2)⟩
theorem AL.nil : AL P [] [] := ⟨rfl, fun m v r z => nomatch z⟩
theorem AL.cons {v : β} {r : α} (h : P v r) (g : AL P vs rs) : AL P (v :: vs) (r :: rs) := by
  refine ⟨by rw [List.length_cons, List.length_cons, g.1], fun m v' r' e1 e2 => ?_⟩
  cases m with
  | zero => cases e1; cases e2; exact h
  | succ m => exact g.2 m _ _ e1 e2
theorem AL.head {v : β} {r : α} (g : AL P (v :: vs) (r :: rs)) : P v r := g.2 0 _ _ rfl rfl
theorem AL.tail {v : β} {r : α} (g : AL P (v :: vs) (r :: rs)) : AL P vs rs := ⟨by have := g.1; simpa using this, fun m v' r' e1 e2 => g.2 (m + 1) _ _ e1 e2⟩
theorem AL.none {r : α} (g : AL P [] (r :: rs)) : False := by have := g.1; simp at this
theorem AL.nothing {v : β} (g : AL P (v :: vs) []) : False := by have := g.1; simp at this
theorem AL.app (h : AL P vs rs) (g : AL P us ts) : AL P (vs ++ us) (rs ++ ts) := by
  induction vs generalizing rs with
  | nil => cases rs with
    | nil => exact g
    | cons r rs => exact h.none.elim
  | cons v vs ih => cases rs with
    | nil => exact h.nothing.elim
    | cons r rs => exact .cons h.head (ih h.tail)
theorem AL.snoc {v : β} {r : α} (h : AL P vs rs) (hv : P v r) : AL P (vs ++ [v]) (rs ++ [r]) := h.app (.cons hv .nil)
theorem AL.at {m : Nat} {v : β} (h : AL P vs rs) (e : vs[m]? = some v) : ∃ r, rs[m]? = some r ∧ P v r := by
  have hm : m < rs.length := by rw [← h.1]; exact (List.getElem?_eq_some_iff.mp e).1
  exact ⟨rs[m], List.getElem?_eq_getElem hm, h.2 m v _ e (List.getElem?_eq_getElem hm)⟩
theorem AL.at' {m : Nat} {r : α} (h : AL P vs rs) (e : rs[m]? = some r) : ∃ v, vs[m]? = some v ∧ P v r := by
  have hm : m < vs.length := by rw [h.1]; exact (List.getElem?_eq_some_iff.mp e).1
  exact ⟨vs[m], List.getElem?_eq_getElem hm, h.2 m _ r (List.getElem?_eq_getElem hm) e⟩
theorem AL.mem {v : β} (h : AL P vs rs) (e : v ∈ vs) : ∃ r, r ∈ rs ∧ P v r := by
  obtain ⟨m, hm, rfl⟩ := List.mem_iff_getElem.mp e
  obtain ⟨r, hr, p⟩ := h.at (List.getElem?_eq_getElem hm)
  exact ⟨r, List.mem_of_getElem? hr, p⟩
theorem AL.mem' {r : α} (h : AL P vs rs) (e : r ∈ rs) : ∃ v, v ∈ vs ∧ P v r := by
  obtain ⟨m, hm, rfl⟩ := List.mem_iff_getElem.mp e
  obtain ⟨v, hv, p⟩ := h.at' (List.getElem?_eq_getElem hm)
  exact ⟨v, List.mem_of_getElem? hv, p⟩
theorem AL.map (h : AL P vs rs) {γ : Type} {f : β → γ} {P2 : γ → α → Prop} (k : ∀ v r, v ∈ vs → r ∈ rs → P v r → P2 (f v) r) : AL P2 (vs.map f) rs := by
  refine ⟨by rw [List.length_map, h.1], fun m v r e1 e2 => ?_⟩
  rw [List.getElem?_map] at e1
  obtain ⟨u, hu, rfl⟩ := Option.map_eq_some_iff.mp e1
  exact k _ _ (List.mem_of_getElem? hu) (List.mem_of_getElem? e2) (h.2 m u r hu e2)
end
section
variable {R : V → Pc → Prop} {H : Hp} {kvs : List (KD × V × V)} {xs : List Pc}
end
open Classical in
noncomputable def dels (H : Hp) (S : Addr → Prop) : Hp := fun b => if S b then none else H b
section
open Classical
variable {H H' : Hp} {S : Addr → Prop}
theorem dels_at {b : Addr} (h : S b) : dels H S b = none := if_pos h
theorem dels_ne {b : Addr} (h : ¬ S b) : dels H S b = H b := if_neg h
theorem dels_same : Same (dels H S) H := fun b o e => by
  by_cases h : S b
  · rw [dels_at h] at e; cases e
  · rw [dels_ne h] at e; exact e
theorem Same.dels (s : Same H H') : Same (dels H S) (dels H' S) := fun b o e => by
  by_cases h : S b
  · rw [dels_at h] at e; cases e
  · rw [dels_ne h] at e ⊢; exact s _ _ e
end
end My
set_option maxHeartbeats 4000000
namespace L2
open PySem PySem.Spec PySem.W PyProof.Rows
abbrev Ds := Int × Int
def dv (s : Ds) (q : Int) : Int := if s.2 = 0 then s.1 % q else (s.1 * 69621 + 48271) % 2147483629 * 16807 % 2147483647 / 64 % q
def ds (s : Ds) (q : Int) : Ds := if s.2 = 0 then (s.1 / q, s.2) else ((s.1 * 69621 + 48271) % 2147483629, s.2)
def dl (s : Ds) : HO := .lst [.int s.1, .int s.2]
theorem dv_lo (s : Ds) {q : Int} (h : 0 < q) : 0 ≤ dv s q := by unfold dv; split <;> exact Int.emod_nonneg _ (by omega)
theorem dv_hi (s : Ds) {q : Int} (h : 0 < q) : dv s q < q := by unfold dv; split <;> exact Int.emod_lt_of_pos _ h
def dn (s : Ds) (q : Nat) : Nat := (dv s q).toNat
theorem dn_hi (s : Ds) {q : Nat} (h : 0 < q) : dn s q < q := by
  have h1 := dv_lo s (q := q) (by omega)
  have h2 := dv_hi s (q := q) (by omega)
  unfold dn; omega
theorem dn_eq (s : Ds) {q : Nat} (h : 0 < q) : (dv s q) = (dn s q : Nat) := by
  have h1 := dv_lo s (q := q) (by omega)
  unfold dn; omega
def itd (q : Int) (s : Ds) : Nat → Ds
  | 0 => s
  | k + 1 => ds (itd q s k) q
def sg4 (s : Ds) : Ds := ds (itd 3 s 3) 9
def itS (s : Ds) : Nat → Ds
  | 0 => s
  | k + 1 => sg4 (itS s k)
structure En where
  cl : Bool
  n : Nat
  t : Nat → Nat
  w : Nat → Nat → Nat
  m : Nat
  g : Nat → Nat
  r : Nat
  c : Nat
  x : Nat → Nat → Nat
def rW (s : Ds) (i k : Nat) : Nat := dn (itd 3 (itS s k) i) 3
def rT (s : Ds) (k : Nat) : Nat := dn (itd 3 (itS s k) 3) 9
def afR (s : Ds) : Ds := itS (ds s 15) (dn s 15)
def nG (s : Ds) (n k : Nat) : Nat := dn (itd ((n + 1 : Nat) : Int) s k) (n + 1)
def afN (s : Ds) (n : Nat) : Ds := itd ((n + 1 : Nat) : Int) (ds s 4) (dn s 4)
def tX (s : Ds) (c i j : Nat) : Nat := dn (itd 3 s (i * c + j)) 3
def enOf (s : Ds) : En :=
  let s1 := ds s 5
  let n := dn s1 15
  let s3 := afR s1
  let s5 := afN s3 n
  ⟨decide (dv s 5 = 4), n, rT (ds s1 15), rW (ds s1 15), dn s3 4, nG (ds s3 4) n, dn s5 4, dn (ds s5 4) 4, tX (ds (ds s5 4) 4) (dn (ds s5 4) 4)⟩
structure EnW (e : En) : Prop where
  n : e.n ≤ 14
  w : ∀ i k, e.w i k ≤ 2
  t : ∀ k, e.t k < 9
  m : e.m ≤ 3
  g : ∀ k, e.g k ≤ e.n
  r : e.r ≤ 3
  c : e.c ≤ 3
  x : ∀ i j, e.x i j ≤ 2
theorem enW (s : Ds) : EnW (enOf s) := by
  refine ⟨?_, fun i k => ?_, fun k => dn_hi _ (by decide), ?_, fun k => ?_, ?_, ?_, fun i j => ?_⟩
  · exact Nat.le_of_lt_succ (dn_hi _ (by decide))
  · exact Nat.le_of_lt_succ (dn_hi _ (by decide))
  · exact Nat.le_of_lt_succ (dn_hi _ (by decide))
  · exact Nat.le_of_lt_succ (dn_hi _ (Nat.succ_pos _))
  · exact Nat.le_of_lt_succ (dn_hi _ (by decide))
  · exact Nat.le_of_lt_succ (dn_hi _ (by decide))
  · exact Nat.le_of_lt_succ (dn_hi _ (by decide))
def kds : List Str := ["b", "bold", "ink"]
def kiS (i : Nat) : Str := kds.getD i ""
def vls : List Str := ["", "thin", "x"]
def vl (i : Nat) : Str := vls.getD i ""
def txs : List Str := ["a", "z", " ", ".", ",", "*pic", "#1.2", "#?", "#"]
def tx (i : Nat) : Str := txs.getD i ""
def wds : List Str := ["", "ten", "abcdefgh"]
def wd (i : Nat) : Str := wds.getD i ""
def nus : List Str := ["", "1", "1.1", "1.1.12", "2"]
def nu (i : Nat) : Str := nus.getD i ""
def ntW (k : Nat) : Str := (["hm", "look"] : List Str).getD (k % 2) ""
def nmD (k : Nat) : PyData := .tuple [.str "ann", .int (5 + (k : Int)), .int 0]
def mkL (w : Nat → Nat → Nat) (k j : Nat) : List PyData := ((List.range j).filter fun i => w i k != 0).map fun i => .tuple [.str (kiS i), .str (vl (w i k))]
def sgD (t : Nat → Nat) (w : Nat → Nat → Nat) (k : Nat) : PyData := .tuple [nmD k, .str (tx (t k)), .list (mkL w k 3)]
def rwD (n : Nat) (t : Nat → Nat) (w : Nat → Nat → Nat) : List PyData := (List.range n).map (sgD t w)
def ntD (n : Nat) (g : Nat → Nat) (k : Nat) : PyData := .tuple [.tuple [.str "bo", .int (30 + (k : Int))], .str (ntW k), if g k < n then nmD (g k) else .none]
def liD (b : Int) (k : Nat) : PyData := .tuple [.str "ann", .int (b + (k : Int))]
def wdL (c : Nat) (x : Nat → Nat) : List PyData := (List.range c).map fun j => .str (wd (x j))
def tbD (r c : Nat) (x : Nat → Nat → Nat) : PyData := .tuple [.list ((List.range r).map (liD 50)), .list ((List.range c).map (liD 60)), .list ((List.range r).map fun i => .list (wdL c (x i)))]
def ptD (k : Nat) : PyData := if k > 0 then .tuple [.str "bo", .int (70 + (k : Int))] else .tuple [.str "", .int 0]
def enD (k : Nat) (e : En) : PyData := if e.cl = true then .tuple [.str (nu k), ptD k, .none, .none, .none] else .tuple [.str (nu k), ptD k, .list (rwD e.n e.t e.w), .list ((List.range e.m).map (ntD e.n e.g)), tbD e.r e.c e.x]
abbrev Rn := Nat × Nat × Nat
section
variable (W : Nat → Nat → Nat)
def fb (i : Nat) : Nat → Nat
  | 0 => 0
  | k + 1 => if W i (k + 1) = W i k then fb i k else k + 1
def op (i k : Nat) : List Rn := if k = 0 then [] else if W i (k - 1) = 0 then [] else [(i, fb W i (k - 1), k - 1)]
def ed (i : Nat) : Nat → List Rn
  | 0 => []
  | k + 1 => ed i k ++ if W i k = W i (k - 1) then [] else op W i k
def runs (n : Nat) : List Rn := (ed W 0 n ++ op W 0 n) ++ ((ed W 1 n ++ op W 1 n) ++ (ed W 2 n ++ op W 2 n))
def rD (c : Rn) : PyData := .tuple [.str (kiS c.1), .int (c.2.1 : Nat), .str (vl (W c.1 c.2.1)), .int (c.2.2 : Nat)]
end
variable {W : Nat → Nat → Nat}
theorem fb_le (i k : Nat) : fb W i k ≤ k := by
  induction k with
  | zero => exact Nat.le_refl _
  | succ k ih => unfold fb; split <;> omega
theorem fb_w (i k : Nat) : W i (fb W i k) = W i k := by
  induction k with
  | zero => rfl
  | succ k ih =>
    unfold fb
    split
    · rename_i h; rw [ih, h]
    · rfl
theorem op_len (i k : Nat) : (op W i k).length ≤ 1 := by unfold op; split <;> (try split) <;> simp
theorem ed_len (i k : Nat) : (ed W i k).length + 1 ≤ k + 1 := by
  induction k with
  | zero => exact Nat.le_refl _
  | succ k ih =>
    have := op_len (W := W) i k
    unfold ed
    rw [List.length_append]
    split
    · simp; omega
    · omega
theorem op_ok {i k : Nat} {c : Rn} (h : c ∈ op W i k) : k ≠ 0 ∧ W i (k - 1) ≠ 0 ∧ c = (i, fb W i (k - 1), k - 1) := by
  unfold op at h
  split at h
  · cases h
  · split at h
    · cases h
    · exact ⟨by assumption, by assumption, List.mem_singleton.mp h⟩
theorem ed_ok (i k : Nat) : (ed W i k).Pairwise (fun a b => a.1 = i ∧ b.1 = i ∧ a.2.1 < b.2.1) ∧ ∀ c ∈ ed W i k, c.1 = i ∧ c.2.1 < fb W i (k - 1) ∧ c.2.2 < k ∧ W i c.2.1 ≠ 0 := by
  induction k with
  | zero => exact ⟨.nil, fun c h => nomatch h⟩
  | succ k ih =>
    obtain ⟨i1, i2⟩ := ih
    show (ed W i k ++ if W i k = W i (k - 1) then [] else op W i k).Pairwise _ ∧ ∀ c ∈ (ed W i k ++ if W i k = W i (k - 1) then [] else op W i k), _ ∧ c.2.1 < fb W i k ∧ _
    cases k with
    | zero =>
      have e0 : (ed W i 0 ++ if W i 0 = W i (0 - 1) then [] else op W i 0) = [] := by simp [ed, op]
      rw [e0]
      exact ⟨.nil, fun c h => nomatch h⟩
    | succ k =>
      simp only [Nat.add_sub_cancel] at i2 ⊢
      by_cases hw : W i (k + 1) = W i k
      · rw [if_pos hw, List.append_nil]
        have e : fb W i (k + 1) = fb W i k := by rw [fb, if_pos hw]
        exact ⟨i1, fun c h => let ⟨a, b, d, f⟩ := i2 c h; ⟨a, by rw [e]; exact b, by omega, f⟩⟩
      · rw [if_neg hw]
        have e : fb W i (k + 1) = k + 1 := by rw [fb, if_neg hw]
        refine ⟨List.pairwise_append.mpr ⟨i1, ?_, fun a ha b hb => ?_⟩, fun c h => ?_⟩
        · unfold op; rw [if_neg (by omega)]; split
          · exact .nil
          · exact List.pairwise_singleton _ _
        · obtain ⟨_, _, rfl⟩ := op_ok hb
          obtain ⟨a1, a2, _⟩ := i2 a ha
          exact ⟨a1, rfl, a2⟩
        · rcases List.mem_append.mp h with h | h
          · obtain ⟨a, b, d, f⟩ := i2 c h
            have := fb_le (W := W) i k
            exact ⟨a, by omega, by omega, f⟩
          · obtain ⟨_, h2, rfl⟩ := op_ok h
            have := fb_le (W := W) i k
            rw [Nat.add_sub_cancel] at h2 ⊢
            exact ⟨rfl, by show fb W i k < _; omega, by show k < _; omega, by show W i (fb W i k) ≠ 0; rw [fb_w (W := W)]; exact h2⟩
theorem rn_ok (i n : Nat) : (ed W i n ++ op W i n).Pairwise (fun a b => a.1 = i ∧ b.1 = i ∧ a.2.1 < b.2.1) ∧ ∀ c ∈ ed W i n ++ op W i n, c.1 = i ∧ c.2.1 < n ∧ c.2.2 < n ∧ W i c.2.1 ≠ 0 := by
  obtain ⟨h1, h2⟩ := ed_ok (W := W) i n
  have hf := fb_le (W := W) i (n - 1)
  refine ⟨List.pairwise_append.mpr ⟨h1, ?_, fun a ha b hb => ?_⟩, fun c h => ?_⟩
  · unfold op; split
    · exact .nil
    · split
      · exact .nil
      · exact List.pairwise_singleton _ _
  · obtain ⟨_, _, rfl⟩ := op_ok hb
    obtain ⟨a1, a2, _⟩ := h2 a ha
    exact ⟨a1, rfl, a2⟩
  · rcases List.mem_append.mp h with h | h
    · obtain ⟨a, b, d, f⟩ := h2 c h
      exact ⟨a, by omega, d, f⟩
    · obtain ⟨h1, h2, rfl⟩ := op_ok h
      exact ⟨rfl, by show fb W i (n - 1) < n; omega, by show n - 1 < n; omega, by show W i (fb W i (n - 1)) ≠ 0; rw [fb_w (W := W)]; exact h2⟩
theorem runs_mem {n : Nat} {c : Rn} (h : c ∈ runs W n) : c.1 < 3 ∧ c.2.1 < n ∧ c.2.2 < n ∧ W c.1 c.2.1 ≠ 0 := by
  unfold runs at h
  rcases List.mem_append.mp h with h | h
  · obtain ⟨a, b, d, f⟩ := (rn_ok (W := W) 0 n).2 c h; rw [a]; exact ⟨by omega, b, d, f⟩
  · rcases List.mem_append.mp h with h | h
    · obtain ⟨a, b, d, f⟩ := (rn_ok (W := W) 1 n).2 c h; rw [a]; exact ⟨by omega, b, d, f⟩
    · obtain ⟨a, b, d, f⟩ := (rn_ok (W := W) 2 n).2 c h; rw [a]; exact ⟨by omega, b, d, f⟩
theorem runs_len (n : Nat) : (runs W n).length ≤ 3 * n + 3 := by
  unfold runs
  simp only [List.length_append]
  have a0 := ed_len (W := W) 0 n
  have a1 := ed_len (W := W) 1 n
  have a2 := ed_len (W := W) 2 n
  have b0 := op_len (W := W) 0 n
  have b1 := op_len (W := W) 1 n
  have b2 := op_len (W := W) 2 n
  omega
theorem rD_lt {a b : Rn} (h : (a.1 < b.1 ∧ b.1 < 3) ∨ (a.1 = b.1 ∧ a.2.1 < b.2.1)) : ltD (rD W a) (rD W b) = true := by
  obtain ⟨i, p, q⟩ := a
  obtain ⟨j, u, v⟩ := b
  show ltDs _ _ = true
  rw [ltDs]
  rcases h with ⟨h1, h2⟩ | ⟨h1, h2⟩
  · have hi : i = 0 ∧ j = 1 ∨ i = 0 ∧ j = 2 ∨ i = 1 ∧ j = 2 := by
      have h1 : i < j := h1
      have h2 : j < 3 := h2
      omega
    have : PyData.eqv (.str (kiS i)) (.str (kiS j)) = false ∧ ltD (.str (kiS i)) (.str (kiS j)) = true := by
      rcases hi with ⟨rfl, rfl⟩ | ⟨rfl, rfl⟩ | ⟨rfl, rfl⟩ <;> decide +kernel
    rw [this.1]
    exact this.2
  · have h1 : i = j := h1
    subst h1
    have e : PyData.eqv (.str (kiS i)) (.str (kiS i)) = true := (sk_eq _ _ rfl).mpr rfl
    rw [if_pos e, ltDs]
    have h2 : p < u := h2
    have : PyData.eqv (.int ((p : Nat) : Int)) (.int ((u : Nat) : Int)) = false := by
      cases q : PyData.eqv (.int ((p : Nat) : Int)) (.int ((u : Nat) : Int)) with
      | false => rfl
      | true =>
        have := (sk_eq _ _ rfl).mp q
        injection this with this
        omega
    show (if PyData.eqv (.int ((p : Nat) : Int)) (.int ((u : Nat) : Int)) = true then _ else _) = true
    rw [this]
    exact decide_eq_true (by omega)
theorem runs_up (n : Nat) : (runs W n).Pairwise fun a b => ltD (rD W a) (rD W b) = true := by
  have one : ∀ i, (ed W i n ++ op W i n).Pairwise fun a b => ltD (rD W a) (rD W b) = true := fun i => (rn_ok (W := W) i n).1.imp fun ⟨a, b, c⟩ => rD_lt (.inr ⟨by rw [a, b], c⟩)
  have two : ∀ i j, i < j → j < 3 → ∀ a ∈ ed W i n ++ op W i n, ∀ b ∈ ed W j n ++ op W j n, ltD (rD W a) (rD W b) = true := fun i j h h' a ha b hb => rD_lt (.inl (by
    rw [((rn_ok (W := W) i n).2 a ha).1, ((rn_ok (W := W) j n).2 b hb).1]; exact ⟨h, h'⟩))
  refine List.pairwise_append.mpr ⟨one 0, List.pairwise_append.mpr ⟨one 1, one 2, two 1 2 (by decide) (by decide)⟩, fun a ha b hb => ?_⟩
  rcases List.mem_append.mp hb with hb | hb
  · exact two 0 1 (by decide) (by decide) a ha b hb
  · exact two 0 2 (by decide) (by decide) a ha b hb
theorem eq_byA {α : Type} {R : α → α → Bool} : ∀ {xs ys : List α}, xs.Perm ys → (xs.Pairwise fun a b => R b a = false) → (ys.Pairwise fun a b => R a b = true) → xs = ys
  | [], ys, p, _, _ => (List.nil_perm.mp p).symm
  | x :: xs, [], p, _, _ => absurd p.length_eq (by simp)
  | x :: xs, y :: ys, p, hx, hy => by
    by_cases e : x = y
    · subst e
      rw [eq_byA ((List.perm_cons x).mp p) (List.pairwise_cons.mp hx).2 (List.pairwise_cons.mp hy).2]
    · have h1 : y ∈ xs := by
        rcases List.mem_cons.mp (p.mem_iff.mpr List.mem_cons_self) with z | z
        · exact absurd z.symm e
        · exact z
      have h2 : x ∈ ys := by
        rcases List.mem_cons.mp (p.mem_iff.mp List.mem_cons_self) with z | z
        · exact absurd z e
        · exact z
      have a1 := (List.pairwise_cons.mp hx).1 y h1
      have a2 := (List.pairwise_cons.mp hy).1 x h2
      rw [a2] at a1
      cases a1
theorem getD_range {α : Type} (js : List α) (d : α) : (List.range js.length).map (fun i => js.getD i d) = js := by
  apply List.ext_getElem?
  intro i
  rw [List.getElem?_map]
  by_cases hi : i < js.length
  · rw [List.getElem?_range hi, List.getElem?_eq_getElem hi]
    show some (js.getD i d) = _
    rw [List.getD_eq_getElem?_getD, List.getElem?_eq_getElem hi]; rfl
  · rw [List.getElem?_eq_none (by simpa using hi), List.getElem?_eq_none (by omega)]; rfl
theorem sort_byA {α : Type} {D : α → PyData} (d : α) {js ms : List α} {ix : List Nat} (hp : js.Perm ms) (hm : ms.Pairwise fun a b => ltD (D a) (D b) = true) (h : SortIx (js.map D) ix) : (ix.map fun i => js.getD i d) = ms := by
  have p1 : ix.Perm (List.range js.length) := by have := h.1; rwa [List.length_map] at this
  refine eq_byA (R := fun a b => ltD (D a) (D b)) (((p1.map _).trans (.of_eq (getD_range js d))).trans hp) ?_ hm
  have h2 := h.2
  rw [List.pairwise_map] at h2 ⊢
  refine h2.imp_of_mem fun {a b} ha hb hab => ?_
  have ka : ∀ i, i ∈ ix → keyAt (js.map D) i = D (js.getD i d) := fun i hi => by
    have : i < js.length := List.mem_range.mp (p1.mem_iff.mp hi)
    unfold keyAt
    rw [List.getD_eq_getElem?_getD, List.getElem?_map, List.getD_eq_getElem?_getD, List.getElem?_eq_getElem this]
    rfl
  rw [ka a ha, ka b hb] at hab
  exact hab
theorem runs_perm {n : Nat} {fd : List Rn} (h : fd.Perm (ed W 0 n ++ (ed W 1 n ++ ed W 2 n))) : (fd ++ (op W 0 n ++ (op W 1 n ++ op W 2 n))).Perm (runs W n) := by
  refine (h.append_right _).trans ?_
  unfold runs
  rw [List.perm_iff_count]
  intro a
  simp only [List.count_append]
  omega
theorem found_step {k : Nat} {fd : List Rn} (h : fd.Perm (ed W 0 k ++ (ed W 1 k ++ ed W 2 k))) (q : Nat → List Rn) (hq : ∀ i, q i = if W i k = W i (k - 1) then [] else op W i k) : (fd ++ (q 0 ++ (q 1 ++ q 2))).Perm (ed W 0 (k + 1) ++ (ed W 1 (k + 1) ++ ed W 2 (k + 1))) := by
  refine (h.append_right _).trans ?_
  rw [List.perm_iff_count]
  intro a
  have e : ∀ i, ed W i (k + 1) = ed W i k ++ q i := fun i => by rw [hq]; rfl
  rw [e, e, e]
  simp only [List.count_append]
  omega
end L2
set_option maxHeartbeats 4000000
namespace L2
open PySem PySem.Spec PySem.W PyProof.Rows
mutual
inductive DX (H : Hp) : V → PyData → Prop
  | non : DX H .non .none
  | int (i : Int) : DX H (.int i) (.int i)
  | str (z : Str) : DX H (.str z) (.str z)
  | lst {p : Addr} {xs : List V} {ds : List PyData} : H p = some (.lst xs) → DXs H xs ds → DX H (.ref p) (.list ds)
  | tup {p : Addr} {xs : List V} {ds : List PyData} : H p = some (.tup xs) → DXs H xs ds → DX H (.ref p) (.tuple ds)
inductive DXs (H : Hp) : List V → List PyData → Prop
  | nil : DXs H [] []
  | cons {x : V} {xs : List V} {d : PyData} {ds : List PyData} : DX H x d → DXs H xs ds → DXs H (x :: xs) (d :: ds)
end
mutual
theorem DX.same {H H' : Hp} (e : Same H H') : ∀ {x : V} {d : PyData}, DX H x d → DX H' x d
  | _, _, .non => .non
  | _, _, .int i => .int i
  | _, _, .str z => .str z
  | _, _, .lst h t => .lst (e _ _ h) (DXs.same e t)
  | _, _, .tup h t => .tup (e _ _ h) (DXs.same e t)
theorem DXs.same {H H' : Hp} (e : Same H H') : ∀ {xs : List V} {ds : List PyData}, DXs H xs ds → DXs H' xs ds
  | _, _, .nil => .nil
  | _, _, .cons h t => .cons (DX.same e h) (DXs.same e t)
end
mutual
theorem DX.dv {K : PySem.W.Frag} {H : Hp} : ∀ {x : V} {d : PyData}, DX H x d → DV K H x d
  | _, _, .non => .non
  | _, _, .int i => .int i
  | _, _, .str z => .str z
  | _, _, .lst h t => .lst (SqL.of h) (DXs.dv t)
  | _, _, .tup h t => .tup (SqT.of h) (DXs.dv t)
theorem DXs.dv {K : PySem.W.Frag} {H : Hp} : ∀ {xs : List V} {ds : List PyData}, DXs H xs ds → DVs K H xs ds
  | _, _, .nil => .nil
  | _, _, .cons h t => .cons (DX.dv h) (DXs.dv t)
end
section
variable {H : Hp}
theorem DX.lst_inv {v : V} {ds : List PyData} (h : DX H v (.list ds)) : ∃ p xs, v = .ref p ∧ H p = some (.lst xs) ∧ DXs H xs ds := by
  cases h with
  | lst a b => exact ⟨_, _, rfl, a, b⟩
theorem DX.tup_inv {v : V} {ds : List PyData} (h : DX H v (.tuple ds)) : ∃ p xs, v = .ref p ∧ H p = some (.tup xs) ∧ DXs H xs ds := by
  cases h with
  | tup a b => exact ⟨_, _, rfl, a, b⟩
theorem DX.str_inv {v : V} {z : Str} (h : DX H v (.str z)) : v = .str z := by cases h; rfl
theorem DX.int_inv {v : V} {i : Int} (h : DX H v (.int i)) : v = .int i := by cases h; rfl
theorem DXs.len : ∀ {xs : List V} {ds : List PyData}, DXs H xs ds → xs.length = ds.length
  | _, _, .nil => rfl
  | _, _, .cons _ t => by rw [List.length_cons, List.length_cons, DXs.len t]
theorem DXs.get : ∀ {xs : List V} {ds : List PyData} {i : Nat} {x : V}, DXs H xs ds → xs[i]? = some x → ∃ d, ds[i]? = some d ∧ DX H x d
  | _, _, 0, _, .cons h _, e => by cases e; exact ⟨_, rfl, h⟩
  | _, _, i + 1, _, .cons _ t, e => by
    obtain ⟨d, a, b⟩ := DXs.get (i := i) t (by simpa using e)
    exact ⟨d, by simpa using a, b⟩
theorem DXs.at : ∀ {xs : List V} {ds : List PyData} {i : Nat} {d : PyData}, DXs H xs ds → ds[i]? = some d → ∃ x, xs[i]? = some x ∧ DX H x d
  | _, _, 0, _, .cons h _, e => by cases e; exact ⟨_, rfl, h⟩
  | _, _, i + 1, _, .cons _ t, e => by
    obtain ⟨d, a, b⟩ := DXs.at (i := i) t (by simpa using e)
    exact ⟨d, by simpa using a, b⟩
theorem DXs.app : ∀ {xs ys : List V} {ds es : List PyData}, DXs H xs ds → DXs H ys es → DXs H (xs ++ ys) (ds ++ es)
  | _, _, _, _, .nil, b => b
  | _, _, _, _, .cons h t, b => .cons h (DXs.app t b)
theorem DXs.snoc {xs : List V} {x : V} {ds : List PyData} {d : PyData} (h : DXs H xs ds) (g : DX H x d) : DXs H (xs ++ [x]) (ds ++ [d]) := h.app (.cons g .nil)
theorem DXs.strs {α : Type} (f : α → Str) : ∀ (l : List α), DXs H (l.map fun a => V.str (f a)) (l.map fun a => PyData.str (f a))
  | [] => .nil
  | a :: l => .cons (.str _) (DXs.strs f l)
theorem DX.two {v : V} {a b : PyData} (h : DX H v (.tuple [a, b])) : ∃ p x y, v = .ref p ∧ H p = some (.tup [x, y]) ∧ DX H x a ∧ DX H y b := by
  obtain ⟨p, xs, rfl, e, d⟩ := h.tup_inv
  cases d with | cons h1 d => cases d with | cons h2 d => cases d; exact ⟨p, _, _, rfl, e, h1, h2⟩
theorem DX.three {v : V} {a b c : PyData} (h : DX H v (.tuple [a, b, c])) : ∃ p x y z, v = .ref p ∧ H p = some (.tup [x, y, z]) ∧ DX H x a ∧ DX H y b ∧ DX H z c := by
  obtain ⟨p, xs, rfl, e, d⟩ := h.tup_inv
  cases d with | cons h1 d => cases d with | cons h2 d => cases d with | cons h3 d => cases d; exact ⟨p, _, _, _, rfl, e, h1, h2, h3⟩
theorem DX.four {v : V} {a b c f : PyData} (h : DX H v (.tuple [a, b, c, f])) : ∃ p x y z w, v = .ref p ∧ H p = some (.tup [x, y, z, w]) ∧ DX H x a ∧ DX H y b ∧ DX H z c ∧ DX H w f := by
  obtain ⟨p, xs, rfl, e, d⟩ := h.tup_inv
  cases d with | cons h1 d => cases d with | cons h2 d => cases d with | cons h3 d => cases d with | cons h4 d => cases d; exact ⟨p, _, _, _, _, rfl, e, h1, h2, h3, h4⟩
theorem DX.five {v : V} {a b c f g : PyData} (h : DX H v (.tuple [a, b, c, f, g])) : ∃ p x y z w u, v = .ref p ∧ H p = some (.tup [x, y, z, w, u]) ∧ DX H x a ∧ DX H y b ∧ DX H z c ∧ DX H w f ∧ DX H u g := by
  obtain ⟨p, xs, rfl, e, d⟩ := h.tup_inv
  cases d with | cons h1 d => cases d with | cons h2 d => cases d with | cons h3 d => cases d with | cons h4 d => cases d with | cons h5 d => cases d; exact ⟨p, _, _, _, _, _, rfl, e, h1, h2, h3, h4, h5⟩
end
def nmK (k : Nat) : List Key := [.inr "ann", .inl (5 + (k : Int)), .inl 0]
theorem nm_gk {H : Hp} {v : V} {k : Nat} (h : DX H v (nmD k)) : GK H (.tup (nmK k)) v := by
  obtain ⟨p, x, y, z, rfl, e, h1, h2, h3⟩ := DX.three h
  rw [h1.str_inv, h2.int_inv, h3.int_inv] at e
  exact ⟨p, rfl, e⟩
theorem nmK_inj {i j : Nat} (h : nmK i = nmK j) : i = j := by
  unfold nmK at h
  injection h with _ h
  injection h with h _
  injection h with h
  omega
def sN (k : Nat) : Str := strV (.int (k : Nat))
def mT (W : Nat → Nat → Nat) (c : Rn) : Str := ("mark " : Str) ++ kiS c.1 ++ " " ++ vl (W c.1 c.2.1) ++ " " ++ sN c.2.1 ++ " " ++ sN c.2.2
def hdT (k : Nat) : Str := ("part " : Str) ++ (if nu k = "" then ("." : Str) else nu k)
def txT (n : Nat) (t : Nat → Nat) : Str := ("text " : Str) ++ Txt.join "" ((List.range n).map fun k => tx (t k))
def ntT (n : Nat) (g : Nat → Nat) (k : Nat) : Str := ("note " : Str) ++ ntW k ++ " " ++ (if g k < n then sN (g k) else ("loose" : Str))
def wdT (i : Nat) : Str := if wd i = "" then "-" else wd i
def clT (c : Nat) (x : Nat → Nat) : Str := Txt.join " " ("cells" :: (List.range c).map fun j => wdT (x j))
def rowsT (k : Nat) (e : En) : List Str := if e.cl = true then [hdT k, "closed"] else [hdT k] ++ (if e.n > 0 then [txT e.n e.t] else []) ++ (runs e.w e.n).map (mT e.w) ++ (List.range e.m).map (ntT e.n e.g) ++ (if e.c > 0 then (List.range e.r).map fun i => clT e.c (e.x i) else [])
def docT (N : Nat) (E : Nat → En) : Str := Txt.join "\n" ((List.range N).flatMap fun k => rowsT k (E k))
theorem getD_all {P : Str → Prop} {l : List Str} (h : ∀ s ∈ l, P s) (h0 : P "") (i : Nat) : P (l.getD i "") := by
  rw [List.getD_eq_getElem?_getD]
  cases e : l[i]? with
  | none => exact h0
  | some s => exact h s (List.mem_of_getElem? e)
theorem sN_len {k : Nat} (h : k < 64) : (sN k).length ≤ 2 := by
  have : ∀ k : Fin 64, (sN k.val).length ≤ 2 := by decide +kernel
  exact this ⟨k, h⟩
theorem ki_len (i : Nat) : (kiS i).length ≤ 4 := getD_all (P := fun s => s.length ≤ 4) (by decide +kernel) (by decide) i
theorem vl_len (i : Nat) : (vl i).length ≤ 4 := getD_all (P := fun s => s.length ≤ 4) (by decide +kernel) (by decide) i
theorem tx_len (i : Nat) : (tx i).length ≤ 4 := getD_all (P := fun s => s.length ≤ 4) (by decide +kernel) (by decide) i
theorem nu_len (i : Nat) : (nu i).length ≤ 6 := getD_all (P := fun s => s.length ≤ 6) (by decide +kernel) (by decide) i
theorem wdT_len (i : Nat) : (wdT i).length ≤ 8 := by
  unfold wdT
  split
  · decide
  · exact getD_all (P := fun s => s.length ≤ 8) (l := wds) (by decide +kernel) (by decide) i
theorem ntW_len (i : Nat) : (ntW i).length ≤ 4 := getD_all (P := fun s => s.length ≤ 4) (by decide +kernel) (by decide) _
theorem sums_le {α : Type} {f : α → Str} {c : Nat} (h : ∀ a, (f a).length ≤ c) : ∀ l : List α, ((l.map f).map (·.length)).sum ≤ c * l.length
  | [] => Nat.zero_le _
  | a :: l => by
    have := sums_le h l
    have := h a
    simp only [List.map_cons, List.sum_cons, List.length_cons, Nat.mul_add] at *
    omega
theorem join_le (sep : Str) (ys : List Str) : (Txt.join sep ys).length ≤ (ys.map (·.length)).sum + ys.length * sep.length := by
  unfold Txt.join
  rw [StrLaws.glued_eq_join]
  exact StrLaws.join_length_le sep ys
theorem mT_len {W : Nat → Nat → Nat} {n : Nat} {c : Rn} (hn : n ≤ 64) (h : c ∈ runs W n) : (mT W c).length ≤ 100 := by
  obtain ⟨_, h1, h2, _⟩ := runs_mem h
  have a := ki_len c.1
  have b := vl_len (W c.1 c.2.1)
  have d := sN_len (k := c.2.1) (by omega)
  have e := sN_len (k := c.2.2) (by omega)
  unfold mT
  simp only [Str.length_append]
  have l1 : ("mark " : Str).length = 5 := by decide
  have l2 : (" " : Str).length = 1 := by decide
  omega
theorem hdT_len (k : Nat) : (hdT k).length ≤ 100 := by
  have a := nu_len k
  unfold hdT
  rw [Str.length_append]
  have l1 : ("part " : Str).length = 5 := by decide
  have l2 : ("." : Str).length = 1 := by decide
  split <;> omega
theorem tj_len (n : Nat) (t : Nat → Nat) : (Txt.join "" ((List.range n).map fun k => tx (t k))).length ≤ 4 * n := by
  have a := join_le "" ((List.range n).map fun k => tx (t k))
  have b := sums_le (f := fun k => tx (t k)) (c := 4) (fun k => tx_len _) (List.range n)
  have l : ("" : Str).length = 0 := by decide
  rw [List.length_range] at b
  rw [l] at a
  omega
theorem txT_len {n : Nat} {t : Nat → Nat} (h : n ≤ 14) : (txT n t).length ≤ 100 := by
  have a := tj_len n t
  unfold txT
  rw [Str.length_append]
  have l1 : ("text " : Str).length = 5 := by decide
  omega
theorem ntT_len {n : Nat} {g : Nat → Nat} {k : Nat} (h : n ≤ 64) : (ntT n g k).length ≤ 100 := by
  have a := ntW_len k
  unfold ntT
  simp only [Str.length_append]
  have l1 : ("note " : Str).length = 5 := by decide
  have l2 : (" " : Str).length = 1 := by decide
  have l3 : ("loose" : Str).length = 5 := by decide
  split
  · have := sN_len (k := g k) (by omega); omega
  · omega
theorem clT_len {c : Nat} {x : Nat → Nat} (h : c ≤ 3) : (clT c x).length ≤ 100 := by
  have a := join_le " " ("cells" :: (List.range c).map fun j => wdT (x j))
  have b := sums_le (f := fun j => wdT (x j)) (c := 8) (fun k => wdT_len _) (List.range c)
  have l2 : (" " : Str).length = 1 := by decide
  have l1 : ("cells" : Str).length = 5 := by decide
  simp only [List.map_cons, List.sum_cons, List.length_cons, List.length_map, List.length_range, l1, l2] at a b
  unfold clT
  omega
theorem rowsT_len {k : Nat} {e : En} (h : EnW e) : (∀ s ∈ rowsT k e, s.length ≤ 100) ∧ (rowsT k e).length ≤ 60 := by
  unfold rowsT
  have hn := h.n
  split
  · refine ⟨fun s hs => ?_, by simp⟩
    rcases List.mem_cons.mp hs with rfl | hs
    · exact hdT_len k
    · rw [List.mem_singleton.mp hs]; decide
  · refine ⟨fun s hs => ?_, ?_⟩
    · rcases List.mem_append.mp hs with hs | hs
      · rcases List.mem_append.mp hs with hs | hs
        · rcases List.mem_append.mp hs with hs | hs
          · rcases List.mem_append.mp hs with hs | hs
            · rw [List.mem_singleton.mp hs]; exact hdT_len k
            · split at hs
              · rw [List.mem_singleton.mp hs]; exact txT_len hn
              · cases hs
          · obtain ⟨c, hc, rfl⟩ := List.mem_map.mp hs
            exact mT_len (by omega) hc
        · obtain ⟨c, hc, rfl⟩ := List.mem_map.mp hs
          exact ntT_len (by omega)
      · split at hs
        · obtain ⟨c, hc, rfl⟩ := List.mem_map.mp hs
          exact clT_len h.c
        · cases hs
    · have a := runs_len (W := e.w) e.n
      have hm := h.m
      have hr := h.r
      have : (if e.n > 0 then [txT e.n e.t] else []).length ≤ 1 := by split <;> simp
      have : (if e.c > 0 then (List.range e.r).map fun i => clT e.c (e.x i) else []).length ≤ e.r := by split <;> simp
      simp only [List.length_append, List.length_map, List.length_range, List.length_singleton]
      omega
structure GD (k : Nat) (d : PyData) : Prop where
  lay : d.canLay0 = true
  nob : noB d = true
  dep : d.depth ≤ k
theorem GD.lst {k : Nat} {ds : List PyData} (h : ∀ d ∈ ds, GD k d) : GD (k + 1) (.list ds) :=
  ⟨by rw [PyData.canLay0]; exact lays_all fun d hd => (h d hd).lay, by rw [noB]; exact noBs_all fun d hd => (h d hd).nob, by rw [PyData.depth]; exact Nat.succ_le_succ (depth_le fun d hd => (h d hd).dep)⟩
theorem GD.tup {k : Nat} {ds : List PyData} (h : ∀ d ∈ ds, GD k d) : GD (k + 1) (.tuple ds) :=
  ⟨by rw [PyData.canLay0]; exact lays_all fun d hd => (h d hd).lay, by rw [noB]; exact noBs_all fun d hd => (h d hd).nob, by rw [PyData.depth]; exact Nat.succ_le_succ (depth_le fun d hd => (h d hd).dep)⟩
theorem GD.up {k m : Nat} {d : PyData} (h : GD k d) (e : k ≤ m) : GD m d := ⟨h.lay, h.nob, Nat.le_trans h.dep e⟩
theorem gd_int (i : Int) (k : Nat) : GD k (.int i) := ⟨rfl, rfl, Nat.zero_le _⟩
theorem gd_non (k : Nat) : GD k .none := ⟨rfl, rfl, Nat.zero_le _⟩
theorem gd_str {z : Str} (h : PyData.strOk z = true) (k : Nat) : GD k (.str z) := ⟨h, rfl, Nat.zero_le _⟩
theorem gd_self {k : Nat} {a : PyData} (ha : GD k a) : PyData.eqv a a = true := (eqv_iff a a ha.nob ha.nob).mpr rfl
theorem gd_ne {k m : Nat} {a b : PyData} (ha : GD k a) (hb : GD m b) (h : a ≠ b) : PyData.eqv a b = false := by
  cases q : PyData.eqv a b with
  | false => rfl
  | true => exact absurd ((eqv_iff a b ha.nob hb.nob).mp q) h
theorem ok_kiS (i : Nat) : PyData.strOk (kiS i) = true := getD_all (P := fun s => PyData.strOk s = true) (by decide +kernel) (by decide +kernel) i
theorem ok_vl (i : Nat) : PyData.strOk (vl i) = true := getD_all (P := fun s => PyData.strOk s = true) (by decide +kernel) (by decide +kernel) i
theorem ok_tx (i : Nat) : PyData.strOk (tx i) = true := getD_all (P := fun s => PyData.strOk s = true) (by decide +kernel) (by decide +kernel) i
theorem ok_wd (i : Nat) : PyData.strOk (wd i) = true := getD_all (P := fun s => PyData.strOk s = true) (by decide +kernel) (by decide +kernel) i
theorem ok_nu (i : Nat) : PyData.strOk (nu i) = true := getD_all (P := fun s => PyData.strOk s = true) (by decide +kernel) (by decide +kernel) i
theorem ok_ntW (i : Nat) : PyData.strOk (ntW i) = true := getD_all (P := fun s => PyData.strOk s = true) (by decide +kernel) (by decide +kernel) _
theorem all2 {P : PyData → Prop} {a b : PyData} (ha : P a) (hb : P b) : ∀ d ∈ [a, b], P d := fun d h => by
  rcases List.mem_cons.mp h with rfl | h
  · exact ha
  · rw [List.mem_singleton.mp h]; exact hb
theorem all1 {P : PyData → Prop} {a : PyData} {l : List PyData} (ha : P a) (hb : ∀ d ∈ l, P d) : ∀ d ∈ a :: l, P d := fun d h => by
  rcases List.mem_cons.mp h with rfl | h
  · exact ha
  · exact hb d h
theorem allM {α : Type} {P : PyData → Prop} {f : α → PyData} (h : ∀ a, P (f a)) (l : List α) : ∀ d ∈ l.map f, P d := fun d hd => by
  obtain ⟨a, _, rfl⟩ := List.mem_map.mp hd
  exact h a
theorem gd_nm (k : Nat) : GD 1 (nmD k) := .tup (all1 (gd_str (by decide +kernel) 0) (all2 (gd_int _ 0) (gd_int _ 0)))
theorem gd_sg (t : Nat → Nat) (w : Nat → Nat → Nat) (k : Nat) : GD 3 (sgD t w k) :=
  .tup (all1 ((gd_nm k).up (by decide +kernel)) (all2 (gd_str (ok_tx _) 2) (.lst (allM (fun i => .tup (all2 (gd_str (ok_kiS _) 0) (gd_str (ok_vl _) 0))) _))))
theorem gd_rw (n : Nat) (t : Nat → Nat) (w : Nat → Nat → Nat) : GD 4 (.list (rwD n t w)) := .lst (allM (fun k => gd_sg t w k) _)
theorem gd_nt (n : Nat) (g : Nat → Nat) (k : Nat) : GD 2 (ntD n g k) :=
  .tup (all1 (.tup (all2 (gd_str (by decide +kernel) 0) (gd_int _ 0))) (all2 (gd_str (ok_ntW k) 1) (by split; exact gd_nm _; exact gd_non 1)))
theorem gd_li (b : Int) (k : Nat) : GD 1 (liD b k) := .tup (all2 (gd_str (by decide +kernel) 0) (gd_int _ 0))
theorem gd_tb (r c : Nat) (x : Nat → Nat → Nat) : GD 3 (tbD r c x) :=
  .tup (all1 (.lst (allM (gd_li 50) _)) (all2 (.lst (allM (gd_li 60) _)) (.lst (allM (fun i => .lst (allM (fun j => gd_str (ok_wd _) 0) _)) _))))
theorem gd_pt (k : Nat) : GD 1 (ptD k) := by
  unfold ptD
  split
  · exact .tup (all2 (gd_str (by decide +kernel) 0) (gd_int _ 0))
  · exact .tup (all2 (gd_str (by decide +kernel) 0) (gd_int _ 0))
theorem gd_en (k : Nat) (e : En) : GD 5 (enD k e) := by
  unfold enD
  split
  · exact .tup (all1 (gd_str (ok_nu k) 4) (all1 ((gd_pt k).up (by decide +kernel)) (all1 (gd_non 4) (all2 (gd_non 4) (gd_non 4)))))
  · exact .tup (all1 (gd_str (ok_nu k) 4) (all1 ((gd_pt k).up (by decide +kernel)) (all1 (gd_rw _ _ _) (all2 ((GD.lst (allM (gd_nt _ _) _)).up (by decide +kernel)) ((gd_tb _ _ _).up (by decide +kernel))))))
theorem rD_keys (W : Nat → Nat → Nat) (l : List Rn) : KeysAre (l.map (rD W)) 3 := by
  refine ⟨lays_all fun x hx => ?_, fun x hx => ?_, fun a ha b hb => ?_, fun x hx => ?_⟩
  · obtain ⟨c, _, rfl⟩ := List.mem_map.mp hx
    exact (GD.tup (k := 0) (all1 (gd_str (ok_kiS _) 0) (all1 (gd_int _ 0) (all2 (gd_str (ok_vl _) 0) (gd_int _ 0))))).lay
  · obtain ⟨c, _, rfl⟩ := List.mem_map.mp hx; trivial
  · obtain ⟨c, _, rfl⟩ := List.mem_map.mp ha
    obtain ⟨d, _, rfl⟩ := List.mem_map.mp hb
    rfl
  · obtain ⟨c, _, rfl⟩ := List.mem_map.mp hx
    exact Nat.le_trans (GD.tup (k := 0) (all1 (gd_str (ok_kiS _) 0) (all1 (gd_int _ 0) (all2 (gd_str (ok_vl _) 0) (gd_int _ 0))))).dep (by decide +kernel)
end L2
set_option maxHeartbeats 40000000
namespace My
open PySem L2 PyProof.Rows
def top (i : Nat) : Stmt := PySem.Challenge.pw_pagefolk_k47_shown_as_text.main.body.getD i (.Pass ⟨0, 0, 0, 0⟩)
abbrev s_fstretches_of : Stmt := top 1
abbrev s_fshown_mark : Stmt := top 2
abbrev s_fshown_note : Stmt := top 3
abbrev s_fshown_cells : Stmt := top 4
abbrev s_frows_of_entry : Stmt := top 5
abbrev s_fshown : Stmt := top 6
abbrev s_f_law_cell_at : Stmt := top 8
abbrev s_f_law_drawn : Stmt := top 9
abbrev s_f_law_draw : Stmt := top 10
abbrev s_f_law_row : Stmt := top 11
abbrev s_f_law_notes : Stmt := top 12
abbrev s_f_law_table : Stmt := top 13
abbrev s_f_law_document : Stmt := top 14
abbrev s_f_law_value : Stmt := top 15
abbrev s_f_law_marks : Stmt := top 16
abbrev s_f_law_due : Stmt := top 17
abbrev s_flaw : Stmt := top 18
structure Adr where
  fstretches_of : Addr
  fstretches_ofd : FuncData
  fshown_mark : Addr
  fshown_markd : FuncData
  fshown_note : Addr
  fshown_noted : FuncData
  fshown_cells : Addr
  fshown_cellsd : FuncData
  frows_of_entry : Addr
  frows_of_entryd : FuncData
  fshown : Addr
  fshownd : FuncData
  f_law_cell_at : Addr
  f_law_cell_atd : FuncData
  f_law_drawn : Addr
  f_law_drawnd : FuncData
  f_law_draw : Addr
  f_law_drawd : FuncData
  f_law_row : Addr
  f_law_rowd : FuncData
  f_law_notes : Addr
  f_law_notesd : FuncData
  f_law_table : Addr
  f_law_tabled : FuncData
  f_law_document : Addr
  f_law_documentd : FuncData
  f_law_value : Addr
  f_law_valued : FuncData
  f_law_marks : Addr
  f_law_marksd : FuncData
  f_law_due : Addr
  f_law_dued : FuncData
  flaw : Addr
  flawd : FuncData
structure Txt (K : PySem.W.Frag) (mg : Str → Option Value) (d : Adr) (tk : Str → Tok) : Prop where
  b_dict : mg "dict" = none
  b_enumerate : mg "enumerate" = none
  b_int : mg "int" = none
  b_isinstance : mg "isinstance" = none
  b_len : mg "len" = none
  b_list : mg "list" = none
  b_range : mg "range" = none
  b_sorted : mg "sorted" = none
  b_str : mg "str" = none
  F_fstretches_of : Fun K "stretches_of" "stretches_of" s_fstretches_of d.fstretches_of d.fstretches_ofd
  m_fstretches_of : mg "stretches_of" = some (.ref d.fstretches_of)
  k_fstretches_of : PySem.W.keepIn K (.ref d.fstretches_of) = true
  d_fstretches_of : Binds K d.fstretches_ofd ["row"] []
  F_fshown_mark : Fun K "shown_mark" "shown_mark" s_fshown_mark d.fshown_mark d.fshown_markd
  m_fshown_mark : mg "shown_mark" = some (.ref d.fshown_mark)
  k_fshown_mark : PySem.W.keepIn K (.ref d.fshown_mark) = true
  d_fshown_mark : Binds K d.fshown_markd ["told"] []
  F_fshown_note : Fun K "shown_note" "shown_note" s_fshown_note d.fshown_note d.fshown_noted
  m_fshown_note : mg "shown_note" = some (.ref d.fshown_note)
  k_fshown_note : PySem.W.keepIn K (.ref d.fshown_note) = true
  d_fshown_note : Binds K d.fshown_noted ["places", "note"] []
  F_fshown_cells : Fun K "shown_cells" "shown_cells" s_fshown_cells d.fshown_cells d.fshown_cellsd
  m_fshown_cells : mg "shown_cells" = some (.ref d.fshown_cells)
  k_fshown_cells : PySem.W.keepIn K (.ref d.fshown_cells) = true
  d_fshown_cells : Binds K d.fshown_cellsd ["words"] []
  F_frows_of_entry : Fun K "rows_of_entry" "rows_of_entry" s_frows_of_entry d.frows_of_entry d.frows_of_entryd
  m_frows_of_entry : mg "rows_of_entry" = some (.ref d.frows_of_entry)
  k_frows_of_entry : PySem.W.keepIn K (.ref d.frows_of_entry) = true
  d_frows_of_entry : Binds K d.frows_of_entryd ["entry"] []
  F_fshown : Fun K "shown" "shown" s_fshown d.fshown d.fshownd
  m_fshown : mg "shown" = some (.ref d.fshown)
  k_fshown : PySem.W.keepIn K (.ref d.fshown) = true
  d_fshown : Binds K d.fshownd ["entries"] []
  F_f_law_cell_at : Fun K "_law_cell_at" "_law_cell_at" s_f_law_cell_at d.f_law_cell_at d.f_law_cell_atd
  m_f_law_cell_at : mg "_law_cell_at" = some (.ref d.f_law_cell_at)
  k_f_law_cell_at : PySem.W.keepIn K (.ref d.f_law_cell_at) = true
  d_f_law_cell_at : Binds K d.f_law_cell_atd ["_law_script", "_law_k"] []
  F_f_law_drawn : Fun K "_law_drawn" "_law_drawn" s_f_law_drawn d.f_law_drawn d.f_law_drawnd
  m_f_law_drawn : mg "_law_drawn" = some (.ref d.f_law_drawn)
  k_f_law_drawn : PySem.W.keepIn K (.ref d.f_law_drawn) = true
  d_f_law_drawn : Binds K d.f_law_drawnd ["_law_cell", "_law_digits"] []
  F_f_law_draw : Fun K "_law_draw" "_law_draw" s_f_law_draw d.f_law_draw d.f_law_drawd
  m_f_law_draw : mg "_law_draw" = some (.ref d.f_law_draw)
  k_f_law_draw : PySem.W.keepIn K (.ref d.f_law_draw) = true
  d_f_law_draw : Binds K d.f_law_drawd ["_law_drawn_here", "_law_many"] []
  F_f_law_row : Fun K "_law_row" "_law_row" s_f_law_row d.f_law_row d.f_law_rowd
  m_f_law_row : mg "_law_row" = some (.ref d.f_law_row)
  k_f_law_row : PySem.W.keepIn K (.ref d.f_law_row) = true
  d_f_law_row : Binds K d.f_law_rowd ["_law_drawn_here"] []
  F_f_law_notes : Fun K "_law_notes" "_law_notes" s_f_law_notes d.f_law_notes d.f_law_notesd
  m_f_law_notes : mg "_law_notes" = some (.ref d.f_law_notes)
  k_f_law_notes : PySem.W.keepIn K (.ref d.f_law_notes) = true
  d_f_law_notes : Binds K d.f_law_notesd ["_law_drawn_here", "_law_row_here"] []
  F_f_law_table : Fun K "_law_table" "_law_table" s_f_law_table d.f_law_table d.f_law_tabled
  m_f_law_table : mg "_law_table" = some (.ref d.f_law_table)
  k_f_law_table : PySem.W.keepIn K (.ref d.f_law_table) = true
  d_f_law_table : Binds K d.f_law_tabled ["_law_drawn_here"] []
  F_f_law_document : Fun K "_law_document" "_law_document" s_f_law_document d.f_law_document d.f_law_documentd
  m_f_law_document : mg "_law_document" = some (.ref d.f_law_document)
  k_f_law_document : PySem.W.keepIn K (.ref d.f_law_document) = true
  d_f_law_document : Binds K d.f_law_documentd ["_law_script"] []
  F_f_law_value : Fun K "_law_value" "_law_value" s_f_law_value d.f_law_value d.f_law_valued
  m_f_law_value : mg "_law_value" = some (.ref d.f_law_value)
  k_f_law_value : PySem.W.keepIn K (.ref d.f_law_value) = true
  d_f_law_value : Binds K d.f_law_valued ["_law_told", "_law_kind"] []
  F_f_law_marks : Fun K "_law_marks" "_law_marks" s_f_law_marks d.f_law_marks d.f_law_marksd
  m_f_law_marks : mg "_law_marks" = some (.ref d.f_law_marks)
  k_f_law_marks : PySem.W.keepIn K (.ref d.f_law_marks) = true
  d_f_law_marks : Binds K d.f_law_marksd ["_law_row_here"] []
  F_f_law_due : Fun K "_law_due" "_law_due" s_f_law_due d.f_law_due d.f_law_dued
  m_f_law_due : mg "_law_due" = some (.ref d.f_law_due)
  k_f_law_due : PySem.W.keepIn K (.ref d.f_law_due) = true
  d_f_law_due : Binds K d.f_law_dued ["_law_entries"] []
  F_flaw : Fun K "law" "law" s_flaw d.flaw d.flawd
  m_flaw : mg "law" = some (.ref d.flaw)
  k_flaw : PySem.W.keepIn K (.ref d.flaw) = true
  d_flaw : Binds K d.flawd ["_law_script"] []
def dOf (c : Int) (b : Bool) : Ds := if b = true ∧ c ≥ 10 ^ 18 then (c, 0) else (c % 2147483629, 1)
def cellN (ns : List Int) (k : Nat) : Int := ns.getD k 0
def docN (ns : List Int) : Nat := (1 + cellN ns 0 / 2 % 5).toNat
def docE (ns : List Int) (k : Nat) : En := enOf (dOf (cellN ns (1 + k)) (decide (V.int (cellN ns 0 % 2) = V.int 1)))
def docD (N : Nat) (E : Nat → En) : PyData := .list ((List.range N).map fun k => enD k (E k))
def sp_f_law_cell_at (K : PySem.W.Frag) : Sp := fun vs H Q _ => ∃ sp ns k, vs = [.ref sp, .int (k : Nat)] ∧ SqL K H sp (List.map V.int ns) ∧ Q (.int (cellN ns k)) H
def sp_f_law_drawn (_ : PySem.W.Frag) : Sp := fun vs H Q _ => ∃ c b, vs = [.int c, .bl b] ∧ ∀ H' p, Same H H' → H p = none → H' p = some (dl (dOf c b)) → Q (.ref p) H'
def sp_f_law_draw (_ : PySem.W.Frag) : Sp := fun vs H Q _ => ∃ p s q, vs = [.ref p, .int q] ∧ H p = some (dl s) ∧ 0 < q ∧ q < 1000 ∧ Q (.int (dv s q)) (upd H p (dl (ds s q)))
def sp_f_law_row (_ : PySem.W.Frag) : Sp := fun vs H Q _ => ∃ p s S, vs = [.ref p] ∧ H p = some (dl s) ∧ S p ∧ (∀ b, S b → H b ≠ none) ∧ ∀ H' q, Same (del H p) H' → H' p = some (dl (afR s)) → DX (dels H' S) (.ref q) (.list (rwD (dn s 15) (rT (ds s 15)) (rW (ds s 15)))) → Q (.ref q) H'
def sp_f_law_notes (_ : PySem.W.Frag) : Sp := fun vs H Q _ => ∃ p s v n t w S, vs = [.ref p, v] ∧ H p = some (dl s) ∧ S p ∧ (∀ b, S b → H b ≠ none) ∧ DX (dels H S) v (.list (rwD n t w)) ∧ n ≤ 14 ∧ ∀ H' q, Same (del H p) H' → H' p = some (dl (afN s n)) → DX (dels H' S) (.ref q) (.list ((List.range (dn s 4)).map (ntD n (nG (ds s 4) n)))) → Q (.ref q) H'
def sp_f_law_table (_ : PySem.W.Frag) : Sp := fun vs H Q _ => ∃ p s S, vs = [.ref p] ∧ H p = some (dl s) ∧ S p ∧ (∀ b, S b → H b ≠ none) ∧ ∀ H' q s', Same (del H p) H' → H' p = some (dl s') → DX (dels H' S) (.ref q) (tbD (dn s 4) (dn (ds s 4) 4) (tX (ds (ds s 4) 4) (dn (ds s 4) 4))) → Q (.ref q) H'
def sp_f_law_document (K : PySem.W.Frag) : Sp := fun vs H Q _ => ∃ sp ns, vs = [.ref sp] ∧ SqL K H sp (List.map V.int ns) ∧ ∀ H' q, Same H H' → DX H' (.ref q) (docD (docN ns) (docE ns)) → Q (.ref q) H'
def sp_f_law_value (_ : PySem.W.Frag) : Sp := fun vs H Q _ => ∃ v i t w k, vs = [v, .str (kiS i)] ∧ DX H v (sgD t w k) ∧ i < 3 ∧ (∀ j, w j k ≤ 2) ∧ ∀ H', Same H H' → Q (.str (vl (w i k))) H'
def sp_f_law_marks (_ : PySem.W.Frag) : Sp := fun vs H Q _ => ∃ v n t w, vs = [v] ∧ DX H v (.list (rwD n t w)) ∧ n ≤ 14 ∧ (∀ i k, w i k ≤ 2) ∧ ∀ H' q, Same H H' → H' q = some (.lst ((runs w n).map fun c => .str (mT w c))) → Q (.ref q) H'
def sp_f_law_due (_ : PySem.W.Frag) : Sp := fun vs H Q _ => ∃ v N E, vs = [v] ∧ DX H v (docD N E) ∧ N ≤ 5 ∧ (∀ k, EnW (E k)) ∧ ∀ H', Same H H' → Q (.str (docT N E)) H'
def sp_fstretches_of (_ : PySem.W.Frag) : Sp := fun vs H Q _ => ∃ v n t w, vs = [v] ∧ DX H v (.list (rwD n t w)) ∧ n ≤ 14 ∧ (∀ i k, w i k ≤ 2) ∧ ∀ H' q, Same H H' → DX H' (.ref q) (.list ((runs w n).map (rD w))) → Q (.ref q) H'
def sp_fshown_mark (_ : PySem.W.Frag) : Sp := fun vs H Q _ => ∃ v w c, vs = [v] ∧ DX H v (rD w c) ∧ c.2.1 < 64 ∧ c.2.2 < 64 ∧ Q (.str (mT w c)) H
def PlK (H : Hp) (n : Nat) (kvs : List (KD × V × V)) : Prop := kvs.length = n ∧ ∀ (i : Nat) (e : KD × V × V), kvs[i]? = some e → e.1 = KD.tup (nmK i) ∧ e.2.2 = V.int (i : Nat)
def sp_fshown_note (_ : PySem.W.Frag) : Sp := fun vs H Q _ => ∃ dq kvs v n g k, vs = [.ref dq, v] ∧ H dq = some (.dG kvs) ∧ PlK H n kvs ∧ DX H v (ntD n g k) ∧ n ≤ 14 ∧ g k ≤ n ∧ Q (.str (ntT n g k)) H
def sp_fshown_cells (_ : PySem.W.Frag) : Sp := fun vs H Q _ => ∃ v c x, vs = [v] ∧ DX H v (.list (wdL c x)) ∧ c ≤ 3 ∧ ∀ H', Same H H' → Q (.str (clT c x)) H'
def sp_frows_of_entry (_ : PySem.W.Frag) : Sp := fun vs H Q _ => ∃ v k e, vs = [v] ∧ DX H v (enD k e) ∧ EnW e ∧ ∀ H' q, Same H H' → H' q = some (.lst ((rowsT k e).map .str)) → Q (.ref q) H'
def sp_fshown (_ : PySem.W.Frag) : Sp := fun vs H Q _ => ∃ v N E, vs = [v] ∧ DX H v (docD N E) ∧ N ≤ 5 ∧ (∀ k, EnW (E k)) ∧ ∀ H', Same H H' → Q (.str (docT N E)) H'
def sp_flaw (K : PySem.W.Frag) : Sp := fun vs H Q _ => ∃ sp ns, vs = [.ref sp] ∧ SqL K H sp (List.map V.int ns) ∧ ns.length ≤ 63 ∧ ∀ H', Q (.bl true) H'
section
variable {K : PySem.W.Frag} {vs : List V} {H : Hp} {Q : VK} {E : XK}
theorem len_f_law_cell_at (h : sp_f_law_cell_at K vs H Q E) : vs.length = 2 := by obtain ⟨_, _, _, rfl, _⟩ := h; rfl
theorem len_f_law_drawn (h : sp_f_law_drawn K vs H Q E) : vs.length = 2 := by obtain ⟨_, _, rfl, _⟩ := h; rfl
theorem len_f_law_draw (h : sp_f_law_draw K vs H Q E) : vs.length = 2 := by obtain ⟨_, _, _, rfl, _⟩ := h; rfl
theorem len_f_law_row (h : sp_f_law_row K vs H Q E) : vs.length = 1 := by obtain ⟨_, _, _, rfl, _⟩ := h; rfl
theorem len_f_law_notes (h : sp_f_law_notes K vs H Q E) : vs.length = 2 := by obtain ⟨_, _, _, _, _, _, _, rfl, _⟩ := h; rfl
theorem len_f_law_table (h : sp_f_law_table K vs H Q E) : vs.length = 1 := by obtain ⟨_, _, _, rfl, _⟩ := h; rfl
theorem len_f_law_document (h : sp_f_law_document K vs H Q E) : vs.length = 1 := by obtain ⟨_, _, rfl, _⟩ := h; rfl
theorem len_f_law_value (h : sp_f_law_value K vs H Q E) : vs.length = 2 := by obtain ⟨_, _, _, _, _, rfl, _⟩ := h; rfl
theorem len_f_law_marks (h : sp_f_law_marks K vs H Q E) : vs.length = 1 := by obtain ⟨_, _, _, _, rfl, _⟩ := h; rfl
theorem len_f_law_due (h : sp_f_law_due K vs H Q E) : vs.length = 1 := by obtain ⟨_, _, _, rfl, _⟩ := h; rfl
theorem len_fstretches_of (h : sp_fstretches_of K vs H Q E) : vs.length = 1 := by obtain ⟨_, _, _, _, rfl, _⟩ := h; rfl
theorem len_fshown_mark (h : sp_fshown_mark K vs H Q E) : vs.length = 1 := by obtain ⟨_, _, _, rfl, _⟩ := h; rfl
theorem len_fshown_note (h : sp_fshown_note K vs H Q E) : vs.length = 2 := by obtain ⟨_, _, _, _, _, _, rfl, _⟩ := h; rfl
theorem len_fshown_cells (h : sp_fshown_cells K vs H Q E) : vs.length = 1 := by obtain ⟨_, _, _, rfl, _⟩ := h; rfl
theorem len_frows_of_entry (h : sp_frows_of_entry K vs H Q E) : vs.length = 1 := by obtain ⟨_, _, _, rfl, _⟩ := h; rfl
theorem len_fshown (h : sp_fshown K vs H Q E) : vs.length = 1 := by obtain ⟨_, _, _, rfl, _⟩ := h; rfl
theorem len_flaw (h : sp_flaw K vs H Q E) : vs.length = 1 := by obtain ⟨_, _, rfl, _⟩ := h; rfl
end
theorem strs_inv {H : Hp} {f : Nat → Str} {l : List Nat} {ys : List V} (h : DXs H ys (l.map fun j => PyData.str (f j))) : ys = l.map fun j => V.str (f j) := by
  induction l generalizing ys with
  | nil => cases h; rfl
  | cons a l ih => cases h with | cons h1 h2 => rw [h1.str_inv, ih h2]; rfl
def mkI (w : Nat → Nat → Nat) (k : Nat) : List Nat := (List.range 3).filter fun i => w i k != 0
theorem mkL_eq (w : Nat → Nat → Nat) (k : Nat) : mkL w k 3 = (mkI w k).map fun i => .tuple [.str (kiS i), .str (vl (w i k))] := rfl
theorem mkI_mem {w : Nat → Nat → Nat} {k i : Nat} (h : i ∈ mkI w k) : i < 3 ∧ w i k ≠ 0 := by
  have := List.mem_filter.mp h
  exact ⟨List.mem_range.mp this.1, by simpa using this.2⟩
theorem kiS_inj {i j : Nat} (hi : i < 3) (hj : j < 3) (h : kiS i = kiS j) : i = j := by
  have : ∀ i j : Fin 3, kiS i.val = kiS j.val → i = j := by decide +kernel
  exact congrArg Fin.val (this ⟨i, hi⟩ ⟨j, hj⟩ h)
theorem pl_nodup {H : Hp} {n : Nat} {kvs : List (KD × V × V)} (h : PlK H n kvs) : (kvs.map (·.1)).Nodup := by
  rw [List.nodup_iff_pairwise_ne, List.pairwise_iff_getElem]
  intro i j hi hj hij z
  rw [List.length_map] at hi hj
  rw [List.getElem_map, List.getElem_map, (h.2 i _ (List.getElem?_eq_getElem hi)).1, (h.2 j _ (List.getElem?_eq_getElem hj)).1] at z
  injection z with z
  have := nmK_inj z
  omega
theorem pl_in {H : Hp} {n i : Nat} {kvs : List (KD × V × V)} (h : PlK H n kvs) (hi : i < n) : vG kvs (.tup (nmK i)) = some (.int (i : Nat)) := by
  have hi' : i < kvs.length := by rw [h.1]; exact hi
  have e := h.2 i _ (List.getElem?_eq_getElem hi')
  rw [vG_some (pl_nodup h) (List.getElem?_eq_getElem hi') e.1, e.2]
theorem pl_out {H : Hp} {n : Nat} {kvs : List (KD × V × V)} (h : PlK H n kvs) : vG kvs .non = none := vG_none fun e he z => by
  obtain ⟨i, hi, rfl⟩ := List.mem_iff_getElem.mp he
  rw [(h.2 i _ (List.getElem?_eq_getElem hi)).1] at z
  cases z
theorem ds_grow {H H' : Hp} {S S' : Addr → Prop} (s : Same H H') (h : ∀ b, S' b → S b ∨ H b = none) : Same (dels H S) (dels H' S') := fun b o e => by
  by_cases z : S b
  · rw [dels_at z] at e; cases e
  · rw [dels_ne z] at e
    rw [dels_ne fun y => by rcases h b y with y | y
                            · exact z y
                            · rw [y] at e; cases e]
    exact s _ _ e
theorem ds_wr {H : Hp} {S : Addr → Prop} {p : Addr} {o : HO} (h : S p) : Same (dels H S) (dels (upd H p o) S) := fun b u e => by
  by_cases z : S b
  · rw [dels_at z] at e; cases e
  · rw [dels_ne z] at e ⊢
    rw [upd_ne (fun y : b = p => z (by rw [y]; exact h))]; exact e
theorem fresh_no {H X : Hp} {S : Addr → Prop} {p b : Addr} (hS : ∀ b, S b → H b ≠ none) (sF : Same (del H p) X) (g : X b = none) (hb : b ≠ p) : ¬ S b := fun z => by
  cases e : H b with
  | none => exact hS b z e
  | some o =>
    have := sF b o (by rw [del_ne hb]; exact e)
    rw [g] at this
    cases this
theorem del_fresh {H X : Hp} {p b : Addr} (sF : Same (del H p) X) (g : X b = none) : del H p b = none := by
  cases e : del H p b with
  | none => rfl
  | some o => rw [sF b o e] at g; cases g
theorem ds_get {H : Hp} {S : Addr → Prop} {b : Addr} {o : HO} (e : H b = some o) (h : ¬ S b) : dels H S b = some o := by rw [dels_ne h]; exact e
theorem mkL_succ (w : Nat → Nat → Nat) (k j : Nat) : mkL w k (j + 1) = mkL w k j ++ if w j k = 0 then [] else [.tuple [.str (kiS j), .str (vl (w j k))]] := by
  unfold mkL
  rw [List.range_succ, List.filter_append, List.map_append]
  by_cases h : w j k = 0
  · rw [if_pos h, List.filter_cons_of_neg (by simp [h])]; rfl
  · rw [if_neg h, List.filter_cons_of_pos (by simpa using h)]; rfl
theorem rwD_succ (n : Nat) (t : Nat → Nat) (w : Nat → Nat → Nat) : rwD (n + 1) t w = rwD n t w ++ [sgD t w n] := by
  unfold rwD
  rw [List.range_succ, List.map_append]; rfl
theorem vl_at {r : Nat} (h : r ≤ 2) (h0 : r ≠ 0) : atI [V.str "thin", V.str "x"] ((r : Int) - 1) = some (.str (vl r)) := by
  have : r = 1 ∨ r = 2 := by omega
  rcases this with rfl | rfl <;> rfl
theorem str_at {l : List Str} {r : Nat} (h : r < l.length) : atI (l.map V.str) ((r : Nat) : Int) = some (.str (l.getD r "")) := by
  refine atI_nat ?_
  rw [List.getElem?_map, List.getD_eq_getElem?_getD, List.getElem?_eq_getElem h]
  rfl
theorem dels_up {H : Hp} {S S' : Addr → Prop} (h : ∀ b, S' b → S b) : Same (dels H S) (dels H S') := ds_grow (Same.refl _) fun b z => .inl (h b z)
theorem nt_at (k : Nat) : atI [V.str "hm", V.str "look"] ((k : Int) % 2) = some (.str (ntW k)) := by
  have h : (k : Int) % 2 = ((k % 2 : Nat) : Int) := by omega
  rw [h]
  exact str_at (l := ["hm", "look"]) (by show k % 2 < 2; omega)
theorem nu_at {k : Nat} (h : k < 5) : atI [V.str "", V.str "1", V.str "1.1", V.str "1.1.12", V.str "2"] ((k : Nat) : Int) = some (.str (nu k)) := str_at (l := nus) h
theorem docN_le (ns : List Int) : docN ns ≤ 5 := by
  unfold docN
  have h1 := Int.emod_nonneg (cellN ns 0 / 2) (b := 5) (by decide)
  have h2 := Int.emod_lt_of_pos (cellN ns 0 / 2) (b := 5) (by decide)
  omega
def rpr (W : Nat → Nat → Nat) (n : Nat) : Nat → List Rn
  | 0 => []
  | i + 1 => rpr W n i ++ (ed W i n ++ op W i n)
theorem rpr_3 (W : Nat → Nat → Nat) (n : Nat) : rpr W n 3 = runs W n := by
  unfold runs
  simp only [rpr, List.nil_append, List.append_assoc]
def acc (W : Nat → Nat → Nat) (n i j : Nat) : List Rn := if j = n then ed W i n ++ op W i n else ed W i (j + 1)
theorem acc_0 (W : Nat → Nat → Nat) (n i : Nat) : acc W n i 0 = [] := by
  unfold acc
  split
  · rename_i h; subst h; simp [ed, op]
  · simp [ed, op]
theorem op_succ (W : Nat → Nat → Nat) (i j : Nat) : op W i (j + 1) = if W i j = 0 then [] else [(i, fb W i j, j)] := by
  unfold op
  rw [if_neg (by omega), Nat.add_sub_cancel]
theorem acc_end {W : Nat → Nat → Nat} {n i j : Nat} (h : j + 1 = n) : acc W n i (j + 1) = acc W n i j ++ op W i (j + 1) := by
  unfold acc
  rw [if_pos h, if_neg (by omega), h]
theorem acc_go {W : Nat → Nat → Nat} {n i j : Nat} (h : j + 1 < n) : acc W n i (j + 1) = acc W n i j ++ if W i (j + 1) = W i j then [] else op W i (j + 1) := by
  unfold acc
  rw [if_neg (by omega), if_neg (by omega)]
  rfl
theorem vl_inj {a b : Nat} (ha : a ≤ 2) (hb : b ≤ 2) (h : vl a = vl b) : a = b := by
  have : ∀ i j : Fin 3, vl i.val = vl j.val → i = j := by decide +kernel
  exact congrArg Fin.val (this ⟨a, by omega⟩ ⟨b, by omega⟩ h)
theorem acc_mem {W : Nat → Nat → Nat} {n i j : Nat} (h : j ≤ n) : (acc W n i j).length ≤ n + 1 := by
  unfold acc
  have a := ed_len (W := W) i n
  have b := op_len (W := W) i n
  have c := ed_len (W := W) i (j + 1)
  split
  · rw [List.length_append]; omega
  · omega
theorem rpr_len (W : Nat → Nat → Nat) (n i : Nat) : (rpr W n i).length ≤ i * (n + 1) := by
  induction i with
  | zero => exact Nat.zero_le _
  | succ i ih =>
    have a := ed_len (W := W) i n
    have b := op_len (W := W) i n
    show (rpr W n i ++ (ed W i n ++ op W i n)).length ≤ _
    rw [List.length_append, List.length_append, Nat.succ_mul]
    omega
theorem mark_join (W : Nat → Nat → Nat) (i a b : Nat) : Txt.join " " ["mark", kiS i, vl (W i a), sN a, sN b] = mT W (i, a, b) := by
  unfold Txt.join mT
  rw [StrLaws.glued_eq_join]
  have h : ("mark " : Str) = "mark" ++ " " := by decide +kernel
  rw [h]
  simp only [Str.join, Str.append_assoc]
theorem sg_at {H : Hp} {rs : List V} {n k : Nat} {t : Nat → Nat} {w : Nat → Nat → Nat} (d : DXs H rs (rwD n t w)) (h : k < n) : ∃ x, rs[k]? = some x ∧ DX H x (sgD t w k) :=
  d.at (by unfold rwD; rw [List.getElem?_map, List.getElem?_range h]; rfl)
def rk (W : Nat → Nat → Nat) (c : Rn) : List Key := [.inr (kiS c.1), .inr (vl (W c.1 c.2.1))]
def TD (W : Nat → Nat → Nat) (H : Hp) (v : V) (c : Rn) : Prop := ∃ b, v = .ref b ∧ H b = some (.tup [.str (kiS c.1), .int (c.2.1 : Nat), .str (vl (W c.1 c.2.1)), .int (c.2.2 : Nat)])
theorem TD.tups {W : Nat → Nat → Nat} {H H' : Hp} {v : V} {c : Rn} (h : TD W H v c) (t : Tups H H') : TD W H' v c := let ⟨b, e, g⟩ := h; ⟨b, e, t _ _ g⟩
theorem TD.dx {W : Nat → Nat → Nat} {H : Hp} {v : V} {c : Rn} (h : TD W H v c) : DX H v (rD W c) := by
  obtain ⟨b, rfl, e⟩ := h
  exact .tup e (.cons (.str _) (.cons (.int _) (.cons (.str _) (.cons (.int _) .nil))))
def RE (W : Nat → Nat → Nat) (H : Hp) (e : KD × V × V) (c : Rn) : Prop := e.1 = .tup (rk W c) ∧ GK H (.tup (rk W c)) e.2.1 ∧ TD W H e.2.2 c
theorem RE.tups {W : Nat → Nat → Nat} {H H' : Hp} {e : KD × V × V} {c : Rn} (h : RE W H e c) (t : Tups H H') : RE W H' e c := ⟨h.1, GK.tups h.2.1 t, h.2.2.tups t⟩
def ops (W : Nat → Nat → Nat) (k : Nat) : List Rn := op W 0 k ++ (op W 1 k ++ op W 2 k)
theorem ops_succ (W : Nat → Nat → Nat) (k : Nat) : ops W (k + 1) = (mkI W k).map fun i => (i, fb W i k, k) := by
  unfold ops mkI
  rw [op_succ, op_succ, op_succ, show List.range 3 = [0, 1, 2] from rfl]
  by_cases h0 : W 0 k = 0 <;> by_cases h1 : W 1 k = 0 <;> by_cases h2 : W 2 k = 0 <;> simp [h0, h1, h2, List.filter_cons]
theorem ops_mem {W : Nat → Nat → Nat} {k : Nat} {c : Rn} (h : c ∈ ops W k) : k ≠ 0 ∧ c.1 < 3 ∧ W c.1 (k - 1) ≠ 0 ∧ c.2.1 = fb W c.1 (k - 1) ∧ c.2.2 = k - 1 := by
  unfold ops at h
  rcases List.mem_append.mp h with h | h
  · obtain ⟨a, b, rfl⟩ := op_ok h; exact ⟨a, (by decide : (0 : Nat) < 3), b, rfl, rfl⟩
  · rcases List.mem_append.mp h with h | h
    · obtain ⟨a, b, rfl⟩ := op_ok h; exact ⟨a, (by decide : (1 : Nat) < 3), b, rfl, rfl⟩
    · obtain ⟨a, b, rfl⟩ := op_ok h; exact ⟨a, (by decide : (2 : Nat) < 3), b, rfl, rfl⟩
theorem ops_in {W : Nat → Nat → Nat} {k i : Nat} (hi : i < 3) (hk : k ≠ 0) (h : W i (k - 1) ≠ 0) : (i, fb W i (k - 1), k - 1) ∈ ops W k := by
  have : ∀ i, W i (k - 1) ≠ 0 → (i, fb W i (k - 1), k - 1) ∈ op W i k := fun i h => by
    unfold op
    rw [if_neg hk, if_neg h]
    exact List.mem_singleton.mpr rfl
  unfold ops
  have hh : i = 0 ∨ i = 1 ∨ i = 2 := by omega
  rcases hh with rfl | rfl | rfl
  · exact List.mem_append_left _ (this _ h)
  · exact List.mem_append_right _ (List.mem_append_left _ (this _ h))
  · exact List.mem_append_right _ (List.mem_append_right _ (this _ h))
theorem rk_eq {W : Nat → Nat → Nat} (hw : ∀ i k, W i k ≤ 2) {k i a : Nat} {c : Rn} (hi : i < 3) (ha : a ≤ 2) (hc : c ∈ ops W k) (h : rk W c = [.inr (kiS i), .inr (vl a)]) : k ≠ 0 ∧ W i (k - 1) = a ∧ c = (i, fb W i (k - 1), k - 1) := by
  obtain ⟨h1, h2, h3, h4, h5⟩ := ops_mem hc
  obtain ⟨c1, c2, c3⟩ := c
  unfold rk at h
  injection h with e1 e2
  injection e2 with e2 _
  injection e1 with e1
  injection e2 with e2
  have := kiS_inj h2 hi e1
  change c1 = i at this
  subst this
  change c2 = fb W c1 (k - 1) at h4
  change c3 = k - 1 at h5
  subst h4 h5
  have e3 := vl_inj (hw _ _) ha e2
  change W c1 (fb W c1 (k - 1)) = a at e3
  rw [fb_w (W := W)] at e3
  exact ⟨h1, e3, rfl⟩
theorem look {W : Nat → Nat → Nat} {H : Hp} (hw : ∀ i k, W i k ≤ 2) {k i a : Nat} {kvs : List (KD × V × V)} (hA : AL (RE W H) kvs (ops W k)) (hi : i < 3) (ha : a ≤ 2) (h0 : a ≠ 0) :
    (k ≠ 0 ∧ W i (k - 1) = a → ∃ v, vG kvs (.tup [.inr (kiS i), .inr (vl a)]) = some v ∧ TD W H v (i, fb W i (k - 1), k - 1)) ∧ (¬ (k ≠ 0 ∧ W i (k - 1) = a) → vG kvs (.tup [.inr (kiS i), .inr (vl a)]) = none) := by
  refine ⟨fun ⟨hk, hh⟩ => ?_, fun hn => vG_none fun e he z => ?_⟩
  · obtain ⟨e, he, hr⟩ := hA.mem' (ops_in hi hk (by rw [hh]; exact h0))
    have ek : e.1 = .tup [.inr (kiS i), .inr (vl a)] := by
      rw [hr.1]
      show KD.tup [.inr (kiS i), .inr (vl (W i (fb W i (k - 1))))] = _
      rw [fb_w (W := W), hh]
    cases q : vG kvs (.tup [.inr (kiS i), .inr (vl a)]) with
    | none => exact absurd ek (vG_no q e he)
    | some v =>
      obtain ⟨m, e', hm, hk', hv⟩ := vG_get q
      obtain ⟨c, hc, hr'⟩ := hA.at hm
      have := rk_eq hw hi ha (List.mem_of_getElem? hc) (by have := hr'.1; rw [hk'] at this; injection this with this; exact this.symm)
      rw [← hv]
      rw [← this.2.2]
      exact ⟨_, rfl, hr'.2.2⟩
  · obtain ⟨c, hc, hr⟩ := hA.mem he
    have := rk_eq hw hi ha hc (by have := hr.1; rw [z] at this; injection this with this; exact this.symm)
    exact hn ⟨this.1, this.2.1⟩
theorem ops_len (W : Nat → Nat → Nat) (k : Nat) : (ops W k).length ≤ 3 := by
  unfold ops
  have a := op_len (W := W) 0 k
  have b := op_len (W := W) 1 k
  have c := op_len (W := W) 2 k
  simp only [List.length_append]
  omega
theorem ops_filter (W : Nat → Nat → Nat) (k : Nat) : (ops W k).filter (fun c => decide (W c.1 k ≠ W c.1 (k - 1))) = (if W 0 k = W 0 (k - 1) then [] else op W 0 k) ++ ((if W 1 k = W 1 (k - 1) then [] else op W 1 k) ++ if W 2 k = W 2 (k - 1) then [] else op W 2 k) := by
  have one : ∀ i, (op W i k).filter (fun c => decide (W c.1 k ≠ W c.1 (k - 1))) = if W i k = W i (k - 1) then [] else op W i k := fun i => by
    split
    · rename_i h
      refine List.filter_eq_nil_iff.mpr fun c hc => ?_
      obtain ⟨_, _, rfl⟩ := op_ok hc
      simp [h]
    · rename_i h
      refine List.filter_eq_self.mpr fun c hc => ?_
      obtain ⟨_, _, rfl⟩ := op_ok hc
      simp [h]
  unfold ops
  rw [List.filter_append, List.filter_append, one, one, one]
theorem al_dxs {α : Type} {P : V → α → Prop} {H : Hp} {D : α → PyData} (hD : ∀ v r, P v r → DX H v (D r)) : ∀ {vs : List V} {rs : List α}, AL P vs rs → DXs H vs (rs.map D)
  | [], [], _ => .nil
  | [], _ :: _, h => absurd h.none id
  | _ :: _, [], h => absurd h.nothing id
  | v :: vs, r :: rs, h => .cons (hD v r h.head) (al_dxs hD h.tail)
theorem fb_same {W : Nat → Nat → Nat} {k i : Nat} (h : k ≠ 0) (e : W i (k - 1) = W i k) : fb W i k = fb W i (k - 1) := by
  cases k with
  | zero => exact absurd rfl h
  | succ k => rw [Nat.add_sub_cancel] at e ⊢; rw [fb, if_pos e.symm]
theorem fb_new {W : Nat → Nat → Nat} {k i : Nat} (h : ¬ (k ≠ 0 ∧ W i (k - 1) = W i k)) : fb W i k = k := by
  cases k with
  | zero => rfl
  | succ k =>
    rw [Nat.add_sub_cancel] at h
    rw [fb, if_neg fun z => h ⟨by omega, z.symm⟩]
theorem mkI_len (w : Nat → Nat → Nat) (k : Nat) : (mkI w k).length ≤ 3 := by
  have := List.length_filter_le (fun i => w i k != 0) (List.range 3)
  rw [List.length_range] at this
  exact this
theorem mkI_take {w : Nat → Nat → Nat} {k j i : Nat} (h : (mkI w k)[j]? = some i) (h2 : i ∈ (mkI w k).take j) : False := by
  have nd : (mkI w k).Nodup := List.nodup_range.filter _
  obtain ⟨m, hm, e⟩ := List.mem_iff_getElem.mp h2
  rw [List.length_take] at hm
  rw [List.getElem_take] at e
  have hj := (List.getElem?_eq_some_iff.mp h)
  obtain ⟨hj1, hj2⟩ := hj
  have := (List.nodup_iff_pairwise_ne.mp nd)
  rw [List.pairwise_iff_getElem] at this
  exact this m j (by omega) hj1 (by omega) (by rw [e, hj2])
theorem docR_len {E : Nat → En} (h : ∀ k, EnW (E k)) (i : Nat) : ((List.range i).flatMap fun k => rowsT k (E k)).length ≤ 60 * i := by
  induction i with
  | zero => exact Nat.le_refl _
  | succ i ih =>
    have := (rowsT_len (k := i) (h i)).2
    rw [List.range_succ, List.flatMap_append, List.length_append, List.flatMap_singleton]
    omega
theorem docR_mem {E : Nat → En} (h : ∀ k, EnW (E k)) {i : Nat} : ∀ s ∈ (List.range i).flatMap fun k => rowsT k (E k), s.length ≤ 100 := fun s hs => by
  obtain ⟨k, _, hk⟩ := List.mem_flatMap.mp hs
  exact (rowsT_len (h k)).1 s hk
theorem sum_le100 : ∀ {ws : List Str}, (∀ w ∈ ws, w.length ≤ 100) → (ws.map (·.length)).sum ≤ 100 * ws.length
  | [], _ => Nat.le_refl _
  | w :: ws, h => by
    have a := h w List.mem_cons_self
    have b := sum_le100 fun x hx => h x (List.mem_cons_of_mem _ hx)
    simp only [List.map_cons, List.sum_cons, List.length_cons]
    omega
theorem docR_sum {E : Nat → En} (h : ∀ k, EnW (E k)) {N : Nat} (hN : N ≤ 5) : (((List.range N).flatMap fun k => rowsT k (E k)).map (·.length)).sum + ((List.range N).flatMap fun k => rowsT k (E k)).length * ("\n" : Str).length ≤ 16777216 := by
  have a := docR_len h N
  have b := sum_le100 (docR_mem h (i := N))
  have l : ("\n" : Str).length = 1 := by decide
  rw [l]
  omega
theorem join0_snoc (l : List Str) (x : Str) : Txt.join "" (l ++ [x]) = Txt.join "" l ++ x := by
  unfold Txt.join
  rw [StrLaws.glued_eq_join, StrLaws.glued_eq_join]
  have e0 : (Str.ofString "") = Str.empty := by decide +kernel
  rw [e0]
  induction l with
  | nil => exact (Str.empty_append x).symm
  | cons a l ih =>
    cases l with
    | nil =>
      show a ++ Str.empty ++ x = a ++ x
      rw [Str.append_empty]
    | cons b l =>
      show a ++ Str.empty ++ Str.join Str.empty ((b :: l) ++ [x]) = a ++ Str.empty ++ Str.join Str.empty (b :: l) ++ x
      rw [ih, Str.append_assoc (a ++ Str.empty)]
theorem cells_join {c : Nat} {x : Nat → Nat} (h : c > 0) : ("cells " : Str) ++ Txt.join " " ((List.range c).map fun j => wdT (x j)) = clT c x := by
  unfold clT Txt.join
  rw [StrLaws.glued_eq_join, StrLaws.glued_eq_join]
  have e : ("cells " : Str) = "cells" ++ " " := by decide +kernel
  rw [e]
  cases q : (List.range c).map fun j => wdT (x j) with
  | nil =>
    have := congrArg List.length q
    rw [List.length_map, List.length_range] at this
    simp at this
    omega
  | cons a l => rfl
theorem hd_text (k : Nat) : ("part " : Str) ++ nu k ++ (if decide (V.str (nu k) = V.str "") = true then ("." : Str) else Str.empty) = hdT k := by
  unfold hdT
  by_cases h : nu k = ""
  · rw [if_pos h, h, if_pos (decide_eq_true rfl)]
    decide +kernel
  · rw [if_neg h, if_neg (by rw [decide_eq_false fun z => h (by injection z)]; exact Bool.false_ne_true), Str.append_empty]
theorem wd_text (i : Nat) : wd i ++ (if decide (V.str (wd i) = V.str "") = true then ("-" : Str) else Str.empty) = wdT i := by
  unfold wdT
  by_cases h : wd i = ""
  · rw [if_pos h, h, if_pos (decide_eq_true rfl)]
    decide +kernel
  · rw [if_neg h, if_neg (by rw [decide_eq_false fun z => h (by injection z)]; exact Bool.false_ne_true), Str.append_empty]
theorem nil_eqv {k : Nat} {ds : List PyData} (h : GD k (.list ds)) : PyData.eqv (.list ds) (.list []) = decide (ds.length = 0) := by
  cases ds with
  | nil => rfl
  | cons a l =>
    rw [gd_ne h (GD.lst (k := 0) (ds := []) (fun d hd => by cases hd)) (fun z => by injection z with z; cases z)]
    rfl
theorem nm_eqv (i j : Nat) : PyData.eqv (nmD i) (nmD j) = decide (i = j) := by
  by_cases h : i = j
  · subst h; rw [gd_self (gd_nm i), decide_eq_true rfl]
  · rw [gd_ne (gd_nm i) (gd_nm j), decide_eq_false h]
    intro z
    unfold nmD at z
    injection z with z
    injection z with _ z
    injection z with z _
    injection z with z
    omega
theorem filt_eq (n g : Nat) : (List.range n).filter (fun i => decide (i = g)) = if g < n then [g] else [] := by
  induction n with
  | zero => rfl
  | succ n ih =>
    rw [List.range_succ, List.filter_append, ih]
    by_cases h : g < n
    · rw [if_pos h, if_pos (by omega), List.filter_cons_of_neg (by simpa using (by omega : n ≠ g))]
      rfl
    · rw [if_neg h]
      by_cases h2 : n = g
      · subst h2
        rw [if_pos (by omega), List.filter_cons_of_pos (by simp)]
        rfl
      · rw [if_neg (by omega), List.filter_cons_of_neg (by simpa using h2)]
        rfl
theorem en_parts {H : Hp} {v : V} {k : Nat} {e : En} (hv : DX H v (enD k e)) : ∃ p x1 x2 x3 x4, v = .ref p ∧ H p = some (.tup [.str (nu k), x1, x2, x3, x4]) ∧ ((e.cl = true ∧ x2 = .non) ∨ (e.cl = false ∧ DX H x2 (.list (rwD e.n e.t e.w)) ∧ DX H x3 (.list ((List.range e.m).map (ntD e.n e.g))) ∧ DX H x4 (tbD e.r e.c e.x))) := by
  unfold enD at hv
  cases hc : e.cl with
  | true =>
    rw [if_pos hc] at hv
    obtain ⟨p, x, y, z, w, u, rfl, ep, d1, d2, d3, d4, d5⟩ := hv.five
    rw [d1.str_inv] at ep
    cases d3
    exact ⟨p, y, _, w, u, rfl, ep, .inl ⟨rfl, rfl⟩⟩
  | false =>
    rw [if_neg (by rw [hc]; exact Bool.false_ne_true)] at hv
    obtain ⟨p, x, y, z, w, u, rfl, ep, d1, d2, d3, d4, d5⟩ := hv.five
    rw [d1.str_inv] at ep
    exact ⟨p, y, z, w, u, rfl, ep, .inr ⟨rfl, d3, d4, d5⟩⟩
theorem huge {n : Nat} (h : n ≤ 100000) : n < sizeLine := by rw [sizeLine_eq]; omega
theorem log_small {k : Nat} (h : k < 64) : ((k : Nat) : Int).natAbs.log2 < 1920 := by
  rw [Int.natAbs_natCast]
  exact Nat.lt_of_le_of_lt (Nat.log2_le_self k) (by omega)
theorem law_spec : ∀ (K : PySem.W.Frag) (H : Hp) (a : Addr) (ns : List Int), ns.length ≤ 63 → Only H → SqL K H a (ns.map V.int) → sp_flaw K [.ref a] H (fun v _ => v = .bl true) fun _ _ _ => False :=
  fun K H a ns h1 _ h3 => ⟨a, ns, rfl, h3, h1, fun _ => rfl⟩
theorem sc_fstretches_of : FnScope ["row", "found", "running", "place", "sign", "still", "kind", "value", "first"] ["row"] (defScope s_fstretches_of) := ⟨rfl, rfl, rfl, by decide +kernel, rfl, by decide +kernel, by decide +kernel⟩
theorem sc_fshown_mark : FnScope ["told", "kind", "value"] ["told"] (defScope s_fshown_mark) := ⟨rfl, rfl, rfl, by decide +kernel, rfl, by decide +kernel, by decide +kernel⟩
theorem sc_fshown_note : FnScope ["places", "note"] ["places", "note"] (defScope s_fshown_note) := ⟨rfl, rfl, rfl, by decide +kernel, rfl, by decide +kernel, by decide +kernel⟩
theorem sc_fshown_cells : FnScope ["words"] ["words"] (defScope s_fshown_cells) := ⟨rfl, rfl, rfl, by decide +kernel, rfl, by decide +kernel, by decide +kernel⟩
theorem sc_f_law_cell_at : FnScope ["_law_script", "_law_k"] ["_law_script", "_law_k"] (defScope s_f_law_cell_at) := ⟨rfl, rfl, rfl, by decide +kernel, rfl, by decide +kernel, by decide +kernel⟩
theorem sc_f_law_drawn : FnScope ["_law_cell", "_law_digits"] ["_law_cell", "_law_digits"] (defScope s_f_law_drawn) := ⟨rfl, rfl, rfl, by decide +kernel, rfl, by decide +kernel, by decide +kernel⟩
theorem sc_f_law_draw : FnScope ["_law_drawn_here", "_law_many", "_law_number"] ["_law_drawn_here", "_law_many"] (defScope s_f_law_draw) := ⟨rfl, rfl, rfl, by decide +kernel, rfl, by decide +kernel, by decide +kernel⟩
theorem sc_f_law_value : FnScope ["_law_told", "_law_kind", "_law_one", "_law_value_here"] ["_law_told", "_law_kind"] (defScope s_f_law_value) := ⟨rfl, rfl, rfl, by decide +kernel, rfl, by decide +kernel, by decide +kernel⟩
theorem sc_frows_of_entry : FnScope ["entry", "head", "row", "text", "marks", "places", "notes", "table", "cells"] ["entry"] (defScope s_frows_of_entry) := ⟨rfl, rfl, rfl, by decide +kernel, rfl, by decide +kernel, by decide +kernel⟩
theorem sc_f_law_row : FnScope ["_law_drawn_here", "_law_row_here", "_law_k", "_law_marks_here", "_law_kind", "_law_way", "_law_text"] ["_law_drawn_here"] (defScope s_f_law_row) := ⟨rfl, rfl, rfl, by decide +kernel, rfl, by decide +kernel, by decide +kernel⟩
theorem sc_f_law_notes : FnScope ["_law_drawn_here", "_law_row_here", "_law_notes_here", "_law_k", "_law_names"] ["_law_drawn_here", "_law_row_here"] (defScope s_f_law_notes) := ⟨rfl, rfl, rfl, by decide +kernel, rfl, by decide +kernel, by decide +kernel⟩
theorem sc_f_law_table : FnScope ["_law_drawn_here", "_law_rows", "_law_columns", "_law_words", "_law_row_here"] ["_law_drawn_here"] (defScope s_f_law_table) := ⟨rfl, rfl, rfl, by decide +kernel, rfl, by decide +kernel, by decide +kernel⟩
theorem sc_f_law_marks : FnScope ["_law_row_here", "_law_rows", "_law_kind", "_law_begin", "_law_k", "_law_value_here"] ["_law_row_here"] (defScope s_f_law_marks) := ⟨rfl, rfl, rfl, by decide +kernel, rfl, by decide +kernel, by decide +kernel⟩
theorem sc_fshown : FnScope ["entries", "rows", "entry"] ["entries"] (defScope s_fshown) := ⟨rfl, rfl, rfl, by decide +kernel, rfl, by decide +kernel, by decide +kernel⟩
theorem sc_f_law_document : FnScope ["_law_script", "_law_digits", "_law_entries", "_law_k", "_law_drawn_here", "_law_number", "_law_part", "_law_row_here"] ["_law_script"] (defScope s_f_law_document) := ⟨rfl, rfl, rfl, by decide +kernel, rfl, by decide +kernel, by decide +kernel⟩
theorem sc_f_law_due : FnScope ["_law_entries", "_law_rows", "_law_number", "_law_part", "_law_row_here", "_law_notes_here", "_law_table_here", "_law_text", "_law_told", "_law_name", "_law_word", "_law_sign", "_law_places", "_law_line_words", "_law_cells"] ["_law_entries"] (defScope s_f_law_due) := ⟨rfl, rfl, rfl, by decide +kernel, rfl, by decide +kernel, by decide +kernel⟩
theorem sc_flaw : FnScope ["_law_script", "_law_entries", "_law_again", "_law_found"] ["_law_script"] (defScope s_flaw) := ⟨rfl, rfl, rfl, by decide +kernel, rfl, by decide +kernel, by decide +kernel⟩
section
variable {P : Program} {w : World} {K : PySem.W.Frag} {mg : Str → Option Value} {base : Heap} {d : Adr} {tk : Str → Tok}
theorem ok_fstretches_of (T : Txt K mg d tk) : FnOk P w K mg base CX0 1 d.fstretches_of d.fstretches_ofd ["row"] (sp_fstretches_of K) := by
  refine T.F_fstretches_of.ok sc_fstretches_of (fun vs H Q E h => len_fstretches_of h) (fun cdv A outer s H vs Q E hr h => ?_)
  have hu : (A.deeper (envOfC "stretches_of" (defScope s_fstretches_of) s.heap.objs.size d.fstretches_of cdv)).units < cLine := hr.units0
  refine ⟨_, (@pss_cons _ _ _ _ _ (@ps_set _ _ (1) _ _ _ _ sc_fstretches_of.nd rfl (Or.inl rfl) (@pe_lstA _ _ _ _ (@pa_nil _)) (by rfl) (by first | exact .inl rfl | exact .inr rfl)) (@pss_cons _ _ _ _ _ (@ps_set _ _ (2) _ _ _ _ sc_fstretches_of.nd rfl (Or.inl rfl) (@pe_dctG _ _) (by rfl) (by first | exact .inl rfl | exact .inr rfl)) (@pss_cons _ _ _ _ _ (@ps_for _ _ _ _ _ _ _ _ PassesOwn.never rfl (@pi_enum _ _ _ _ _ _ _ _ (by rfl) T.b_enumerate (@pa_cons _ _ _ _ _ (@pv _ 0 _ _ rfl (Or.inl rfl) rfl rfl) (@pa_nil _) (by rfl)) (by rfl)) (@pg_tup _ _ _ _ _ _ rfl (@pgs_cons _ _ _ _ _ (@pg_name _ _ (3) _ sc_fstretches_of.nd rfl (Or.inl rfl) (by first | exact .inl rfl | exact .inr rfl)) (@pgs_cons _ _ _ _ _ (@pg_name _ _ (4) _ sc_fstretches_of.nd rfl (Or.inl rfl) (by first | exact .inl rfl | exact .inr rfl)) (@pgs_nil _) (by rfl)) (by rfl)) (by rfl) (by rfl)) (@pss_cons _ _ _ _ _ (@ps_set _ _ (5) _ _ _ _ sc_fstretches_of.nd rfl (Or.inr rfl) (@pe_dctG _ _) (by rfl) (by first | exact .inl rfl | exact .inr rfl)) (@pss_cons _ _ _ _ _ (@ps_for _ _ _ _ _ _ _ _ PassesOwn.never rfl (@pi_list _ _ _ _ (@pe_ix _ _ _ _ _ _ _ ix_tup (@pv _ 4 _ _ rfl (Or.inl rfl) rfl rfl) (@pe_int _ _ _ _) (fun _ _ => rfl))) (@pg_tup _ _ _ _ _ _ rfl (@pgs_cons _ _ _ _ _ (@pg_name _ _ (6) _ sc_fstretches_of.nd rfl (Or.inl rfl) (by first | exact .inl rfl | exact .inr rfl)) (@pgs_cons _ _ _ _ _ (@pg_name _ _ (7) _ sc_fstretches_of.nd rfl (Or.inl rfl) (by first | exact .inl rfl | exact .inr rfl)) (@pgs_nil _) (by rfl)) (by rfl)) (by rfl) (by rfl)) (@pss_cut _ _ _ _ _ (@ps_set _ _ (8) _ _ _ _ sc_fstretches_of.nd rfl (Or.inl rfl) (@pe_ifExp _ _ _ _ _ _ _ _ (@pt_cmpR _ _ _ _ _ _ _ _ (op_inG (hu2 hr)) (@pe_tupA _ _ _ _ _ (@pa_cons _ _ _ _ _ (@pv _ 6 _ _ rfl (Or.inl rfl) rfl rfl) (@pa_cons _ _ _ _ _ (@pv _ 7 _ _ rfl (Or.inl rfl) rfl rfl) (@pa_nil _) (by rfl)) (by rfl))) (@pv _ 2 _ _ rfl (Or.inl rfl) rfl rfl) rfl) (@pe_ix _ _ _ _ _ _ _ ix_tup (@pe_dgetG _ _ _ _ _ _ (hu2 hr) (@pv _ 2 _ _ rfl (Or.inl rfl) rfl rfl) (@pe_tupA _ _ _ _ _ (@pa_cons _ _ _ _ _ (@pv _ 6 _ _ rfl (Or.inl rfl) rfl rfl) (@pa_cons _ _ _ _ _ (@pv _ 7 _ _ rfl (Or.inl rfl) rfl rfl) (@pa_nil _) (by rfl)) (by rfl))) (fun _ _ => rfl)) (@pe_int _ _ _ _) (fun _ _ => rfl)) (@pv _ 3 _ _ rfl (Or.inl rfl) rfl rfl)) (by rfl) (by first | exact .inl rfl | exact .inr rfl)) (@pss_one _ _ _ (@ps_dputG _ _ _ _ _ _ _ _ _ (hu2 hr) (@pv _ 5 _ _ rfl (Or.inr (Or.inl rfl)) rfl rfl) (@pe_tupA _ _ _ _ _ (@pa_cons _ _ _ _ _ (@pv _ 6 _ _ rfl (Or.inl rfl) rfl rfl) (@pa_cons _ _ _ _ _ (@pv _ 7 _ _ rfl (Or.inl rfl) rfl rfl) (@pa_nil _) (by rfl)) (by rfl))) (@pe_tupA _ _ _ _ _ (@pa_cons _ _ _ _ _ (@pv _ 6 _ _ rfl (Or.inl rfl) rfl rfl) (@pa_cons _ _ _ _ _ (@pv _ 8 _ _ rfl (Or.inl rfl) rfl rfl) (@pa_cons _ _ _ _ _ (@pv _ 7 _ _ rfl (Or.inl rfl) rfl rfl) (@pa_cons _ _ _ _ _ (@pv _ 3 _ _ rfl (Or.inl rfl) rfl rfl) (@pa_nil _) (by rfl)) (by rfl)) (by rfl)) (by rfl))) rfl))) (by intro _; rfl)) (@pss_cons _ _ _ _ _ (@ps_expr _ _ _ _ (@pe_bm _ _ _ _ _ _ _ _ _ _ _ _ PySem.F.plainAttrs_list PySem.F.slot_list_extend PySem.F.type_list_extend mt_extend (@pv _ 1 _ _ rfl (Or.inl rfl) rfl rfl) (@pa_cons _ _ _ _ _ (@pe_lcomp _ _ _ _ _ _ _ (["key", "told"]) ([("still", 5)]) _ _ _ _ _ rfl (@pi_itemsG _ _ _ _ _ _ _ _ (@pv _ 2 _ _ rfl (Or.inl rfl) rfl rfl) (by rfl) (by rfl)) ⟨rfl, by decide +kernel, by decide +kernel⟩ (caps_def (defScope s_fstretches_of) ["row", "found", "running", "place", "sign", "still", "kind", "value", "first"] rfl rfl (fun _ h => cell_has h) (by decide +kernel) (by decide +kernel) (by decide +kernel)) (fun _ _ _ => (@pg_tup _ _ _ _ _ (2) rfl (@pgs_cons _ _ _ _ _ (@pg_name _ _ (0) _ (by show List.Nodup (["key", "told", "still"] : List Str); decide +kernel) rfl (Or.inl rfl) (by first | exact .inl rfl | exact .inr rfl)) (@pgs_cons _ _ _ _ _ (@pg_name _ _ (1) _ (by show List.Nodup (["key", "told", "still"] : List Str); decide +kernel) rfl (Or.inl rfl) (by first | exact .inl rfl | exact .inr rfl)) (@pgs_nil _) (by rfl)) (by rfl)) (by rfl) (by rfl))) (fun _ => fresh_pair rfl rfl (by decide)) (fun _ _ _ => (@pts_one _ _ _ (@pt_cmpR _ _ _ _ _ _ _ _ (op_notInG (hu2 hr)) (@pv _ 0 _ _ rfl (Or.inl rfl) rfl rfl) (@pv _ 2 _ _ rfl (Or.inr (Or.inl rfl)) rfl rfl) rfl))) (fun _ _ _ => (@pv _ 1 _ _ rfl (Or.inl rfl) rfl rfl)) (by intro _; rfl)) (@pa_nil _) (by rfl)) (by rfl) (by rfl) (by rfl) (by rfl) (by rfl)) (by rfl)) (@pss_one _ _ _ (@ps_set _ _ (2) _ _ _ _ sc_fstretches_of.nd rfl (Or.inl rfl) (@pv _ 5 _ _ rfl (Or.inr (Or.inl rfl)) rfl rfl) (by rfl) (by first | exact .inl rfl | exact .inr rfl)))))) (by intro _; rfl)) (@pss_one _ _ _ (@ps_ret _ _ _ _ (@pe_callB _ _ _ _ _ _ _ _ _ (call_sortedD (hu61 hr)) (by rfl) T.b_sorted boot_sorted (@pa_cons _ _ _ _ _ (@pe_op _ _ _ _ _ _ _ _ op_catA (@pv _ 1 _ _ rfl (Or.inl rfl) rfl rfl) (@pe_listVals _ _ _ _ _ _ _ rfl (by rfl) T.b_list (@pv _ 2 _ _ rfl (Or.inl rfl) rfl rfl) (by rfl) (by rfl) (by rfl))) (@pa_nil _) (by rfl)) (by decide) (by decide) (by rfl) (by rfl))))))), ?_⟩
  obtain ⟨v, n, t, ww, rfl, hv, hn, hw, kk⟩ := h
  obtain ⟨p, rs, rfl, er, dr⟩ := hv.lst_inv
  have hrl : rs.length = n := by rw [dr.len]; unfold rwD; rw [List.length_map, List.length_range]
  refine ⟨szOk rfl, fun fq H1 g1 s1 e1 => ?_⟩
  intro rq0 H2 g2 s2 e2
  have s12 := s1.trans s2
  refine ⟨_, rfl, p, rfl, ⟨_, SqL.of (s12 _ _ er)⟩, for_enum (xs := rs) (fun k σ X => ∃ rq kvs fxs fd u3 u4 u5 u6 u7 u8, σ = [some (.ref p), some (.ref fq), some (.ref rq), u3, u4, u5, u6, u7, u8] ∧ Same H X ∧ H rq = none ∧ rq ≠ fq ∧ X fq = some (.lst fxs) ∧ AL (TD ww X) fxs fd ∧ fd.Perm (ed ww 0 k ++ (ed ww 1 k ++ ed ww 2 k)) ∧ X rq = some (.dG kvs) ∧ AL (RE ww X) kvs (ops ww k)) ⟨rq0, [], [], [], none, none, none, none, none, none, rfl, s12, s1.free g2, (ne_of_none e1 g2).symm, s2 _ _ e1, .nil, .refl _, e2, .nil⟩ (fun k σ X _ ⟨_, _, _, _, _, _, _, _, _, _, _, s', _⟩ => SqL.of (s' _ _ er)) ?_ ?_⟩
  · rintro k x σ X tp hx ⟨rq, kvs, fxs, fd, u3, u4, u5, u6, u7, u8, rfl, sX, hrq, nrf, eXf, aF, pF, eXr, aR⟩ htp
    have hk : k < n := by rw [← hrl]; exact (List.getElem?_eq_some_iff.mp hx).1
    refine ⟨tp, _, rfl, SqT.of upd_same, rfl, _, _, rfl, _, _, rfl, rfl, ?_⟩
    intro sq X2 g3 s3 e3
    have sT : Same X X2 := (Same.new htp).trans s3
    have hsq : H sq = none := (sX.trans (Same.new htp)).free g3
    have nsf : sq ≠ fq := (ne_of_none ((Same.new htp) _ _ eXf) g3).symm
    have nsr : sq ≠ rq := (ne_of_none ((Same.new htp) _ _ eXr) g3).symm
    have sX2 := sX.trans sT
    obtain ⟨dd, hd, hdx⟩ := dr.get hx
    unfold rwD at hd
    rw [List.getElem?_map, List.getElem?_range hk] at hd
    cases hd
    obtain ⟨b, x1, x2, x3, rfl, eb, d1, d2, d3⟩ := hdx.three
    obtain ⟨mq, ms, rfl, em, dm⟩ := d3.lst_inv
    have hml : ms.length = (mkI ww k).length := by rw [dm.len, mkL_eq, List.length_map]
    refine ⟨_, rfl, b, _, 2, .ref mq, rfl, rfl, SqT.of (sX2 _ _ eb), rfl, mq, rfl, ⟨_, SqL.of (sX2 _ _ em)⟩, ?_⟩
    have tX2 := sT.tups
    have aF2 := aF.imp fun v c h => h.tups tX2
    have aR2 := aR.imp fun v c h => h.tups tX2
    have eX2f := sT _ _ eXf
    have eX2r := sT _ _ eXr
    have tk : ∀ {Y : Hp}, Same (del X2 sq) Y → Tups X2 Y := fun s b xs e => s b _ (by rw [del_ne fun z => by rw [z, e3] at e; cases e]; exact e)
    have kf : ∀ {Y : Hp}, Same (del X2 sq) Y → ∀ {b : Addr} {o : HO}, b ≠ sq → X2 b = some o → Y b = some o := fun s b o h e => s b o (by rw [del_ne h]; exact e)
    have kH : ∀ {Y : Hp}, Same (del X2 sq) Y → Same H Y := fun s b o e => kf s (ne_of_none e hsq) (sX2 _ _ e)
    refine for_list (xs := ms) (fun j σ Y => ∃ kv2 u6 u7 u8, σ = [some (.ref p), some (.ref fq), some (.ref rq), some (.int (k : Nat)), some (.ref b), some (.ref sq), u6, u7, u8] ∧ Same (del X2 sq) Y ∧ Y sq = some (.dG kv2) ∧ kv2.length ≤ j ∧ AL (RE ww Y) kv2 (((mkI ww k).take j).map fun i => (i, fb ww i k, k))) ⟨[], u6, u7, u8, rfl, del_same, e3, Nat.le_refl _, .nil⟩ (fun j σ Y _ ⟨_, _, _, _, _, s', _⟩ => SqL.of (kH s' _ _ em)) ?_ ?_
    · rintro j y σ Y hy ⟨kv2, u6, u7, u8, rfl, sY, eYs, hkl, a2⟩
      have hjm : j < ms.length := (List.getElem?_eq_some_iff.mp hy).1
      obtain ⟨dd, hd, hdy⟩ := dm.get hy
      rw [mkL_eq, List.getElem?_map] at hd
      obtain ⟨i, hi', rfl⟩ := Option.map_eq_some_iff.mp hd
      obtain ⟨hi3, hi0⟩ : i < 3 ∧ ww i k ≠ 0 := mkI_mem (List.mem_of_getElem? hi')
      obtain ⟨b2, y1, y2, rfl, eb2, dy1, dy2⟩ := hdy.two
      rw [dy1.str_inv, dy2.str_inv] at eb2
      refine ⟨b2, _, rfl, SqT.of (kH sY _ _ eb2), rfl, _, _, rfl, _, _, rfl, rfl, ?_⟩
      have aRY := aR2.imp fun v c h => h.tups (tk sY)
      have eYr := kf sY nsr.symm eX2r
      refine ⟨fun σ' Y' => σ' = [some (.ref p), some (.ref fq), some (.ref rq), some (.int (k : Nat)), some (.ref b), some (.ref sq), some (.str (kiS i)), some (.str (vl (ww i k))), some (.int (fb ww i k : Nat))] ∧ Same Y Y', ?_, ?_⟩
      · refine ⟨_, rfl, _, rfl, szOk rfl, fun tq Y1 g4 s4 e4 => ⟨_, rfl, rq, kvs, .tup [.inr (kiS i), .inr (vl (ww i k))], rfl, .inl (s4 _ _ eYr), ⟨tq, rfl, e4⟩, _, rfl, ?_⟩⟩
        rw [if_neg (by decide)]
        have lk := look hw aRY hi3 (hw i k) hi0
        by_cases hc : k ≠ 0 ∧ ww i (k - 1) = ww i k
        · obtain ⟨v', hv', td⟩ := lk.1 hc
          rw [hv']
          refine itT rfl ⟨_, rfl, _, rfl, _, rfl, szOk rfl, fun tq2 Y2 g5 s5 e5 => ⟨rq, kvs, .tup [.inr (kiS i), .inr (vl (ww i k))], v', rfl, .inl (s5 _ _ (s4 _ _ eYr)), ⟨tq2, rfl, e5⟩, hv', ?_⟩⟩
          obtain ⟨b', rfl, eb'⟩ := td
          refine ⟨b', _, 1, _, rfl, rfl, SqT.of (s5 _ _ (s4 _ _ eb')), rfl, ?_, s4.trans s5⟩
          rw [fb_same hc.1 hc.2]
          rfl
        · rw [lk.2 hc]
          refine itF rfl ⟨_, rfl, ?_, s4⟩
          rw [fb_new hc]
          rfl
      · rintro σ' Y' ⟨rfl, sY'⟩
        refine ⟨_, rfl, _, rfl, _, rfl, _, rfl, szOk rfl, fun vq Y2 gv sv ev => ⟨_, rfl, _, rfl, _, rfl, szOk rfl, fun kq Y3 gk sk ek => ⟨sq, kv2, .tup [.inr (kiS i), .inr (vl (ww i k))], rfl, sk _ _ (sv _ _ (sY' _ _ eYs)), ⟨kq, rfl, ek⟩, huge (by have := (mkI_len ww k); omega), ?_⟩⟩⟩
        have sZ := (sY'.trans sv).trans sk
        have hno : vG kv2 (.tup [.inr (kiS i), .inr (vl (ww i k))]) = none := vG_none fun e he z => by
          obtain ⟨c, hc, hr⟩ := a2.mem he
          obtain ⟨i', hi2, rfl⟩ := List.mem_map.mp hc
          rw [hr.1] at z
          injection z with z
          injection z with z _
          injection z with z
          have hi2m := List.mem_of_mem_take hi2
          have := kiS_inj (mkI_mem hi2m).1 hi3 z
          subst this
          exact mkI_take hi' hi2
        have hpG : pG kv2 (.tup [.inr (kiS i), .inr (vl (ww i k))]) (.ref kq) (.ref vq) = kv2 ++ [(.tup [.inr (kiS i), .inr (vl (ww i k))], .ref kq, .ref vq)] := by
          unfold pG
          rw [hno]
          rfl
        rw [hpG]
        have tW : Tups Y3 (upd Y3 sq (.dG (kv2 ++ [(.tup [.inr (kiS i), .inr (vl (ww i k))], .ref kq, .ref vq)]))) := Tups.wr (sZ _ _ eYs) fun ys z => by cases z
        refine ⟨_, _, _, _, rfl, (sY.trans sZ).wr del_at, upd_same, by rw [List.length_append, List.length_singleton]; omega, ?_⟩
        rw [List.take_add_one, hi', List.map_append]
        refine (a2.imp fun e c h => h.tups (sZ.tups.trans tW)).snoc ⟨?_, ⟨kq, rfl, ?_⟩, ⟨vq, rfl, ?_⟩⟩
        · show KD.tup _ = KD.tup [.inr (kiS i), .inr (vl (ww i (fb ww i k)))]
          rw [fb_w (W := ww)]
        · refine (tW _ _ ek).trans ?_
          show _ = some (HO.tup [.str (kiS i), .str (vl (ww i (fb ww i k)))])
          rw [fb_w (W := ww)]
        · refine (tW _ _ (sk _ _ ev)).trans ?_
          show _ = some (HO.tup [.str (kiS i), .int (fb ww i k : Nat), .str (vl (ww i (fb ww i k))), .int (k : Nat)])
          rw [fb_w (W := ww)]
    · rintro σ Y ⟨kv2, u6, u7, u8, rfl, sY, eYs, hkl, a2⟩
      rw [hml, List.take_length, ← ops_succ] at a2
      have eYf := kf sY nsf.symm eX2f
      have eYr := kf sY nsr.symm eX2r
      have aRY := aR2.imp fun v c h => h.tups (tk sY)
      have aFY := aF2.imp fun v c h => h.tups (tk sY)
      have hk3 : kvs.length ≤ 3 := by rw [aR.1]; exact ops_len ww k
      have hfl : fxs.length ≤ 42 := by
        rw [aF.1, pF.length_eq]
        have c0 := ed_len (W := ww) 0 k
        have c1 := ed_len (W := ww) 1 k
        have c2 := ed_len (W := ww) 2 k
        simp only [List.length_append]
        omega
      refine ⟨_, rfl, .inl ⟨rfl, _, SqL.of eYf⟩, _, rfl, rq, kvs, rfl, .inl ⟨eYr, fun o => ?_⟩⟩
      have tZ : Tups Y (upd Y rq (.frz o (.dG kvs))) := Tups.wr eYr fun ys z => by cases z
      have eZr : (upd Y rq (.frz o (.dG kvs))) rq = some (.frz o (.dG kvs)) := upd_same
      have eZs : (upd Y rq (.frz o (.dG kvs))) sq = some (.dG kv2) := by rw [upd_ne nsr]; exact eYs
      have eZf : (upd Y rq (.frz o (.dG kvs))) fq = some (.lst fxs) := by rw [upd_ne nrf.symm]; exact eYf
      have sZ : Same H (upd Y rq (.frz o (.dG kvs))) := (kH sY).wr hrq
      have aRZ := aRY.imp fun v c h => h.tups tZ
      have aFZ := aFY.imp fun v c h => h.tups tZ
      have a2Z := a2.imp fun v c h => h.tups tZ
      generalize upd Y rq (.frz o (.dG kvs)) = Z at tZ eZr eZs eZf sZ aRZ aFZ a2Z
      refine lc_itemsG (big (by omega)) (fun j ys W => Same Z W ∧ AL (TD ww W) ys (((ops ww k).take j).filter fun c => decide (ww c.1 k ≠ ww c.1 (k - 1)))) ⟨Same.refl _, .nil⟩ (fun _ _ W s' => s'.1 _ _ eZr) (fun j e ys W pp K1 K0 hx ⟨sW, aW⟩ hp k1 k0 => ?_) fun W lq ys ⟨sW, aW⟩ hyl hq => ?_
      · obtain ⟨c, hc, hre⟩ := aRZ.at hx
        have hcm := List.mem_of_getElem? hc
        obtain ⟨hk0, hc3, hcw, hc4, hc5⟩ := ops_mem hcm
        have sP : Same W (upd W pp (.tup [e.2.1, e.2.2])) := Same.new hp
        have sZP := sW.trans sP
        refine ⟨pp, _, rfl, SqT.of upd_same, rfl, _, _, rfl, _, _, rfl, rfl, ?_⟩
        refine ⟨_, rfl, _, rfl, sq, kv2, .tup (rk ww c), rfl, .inl (sZP _ _ eZs), GK.tups hre.2.1 sZP.tups, _, rfl, ?_⟩
        rw [if_pos rfl]
        have hrk : rk ww c = [.inr (kiS c.1), .inr (vl (ww c.1 (k - 1)))] := by
          unfold rk
          rw [hc4, fb_w (W := ww)]
        rw [hrk]
        have lk := look hw a2Z hc3 (hw c.1 (k - 1)) hcw
        rw [Nat.add_sub_cancel] at lk
        have htk : (ops ww k).take (j + 1) = (ops ww k).take j ++ [c] := by rw [List.take_add_one, hc]; rfl
        by_cases hh : ww c.1 k = ww c.1 (k - 1)
        · obtain ⟨v', hv', _⟩ := lk.1 ⟨by omega, hh⟩
          rw [hv']
          refine itF rfl (k0 _ ⟨sZP, ?_⟩)
          rw [htk, List.filter_append, List.filter_cons_of_neg (by simp [hh]), List.filter_nil, List.append_nil]
          exact aW.imp fun v c h => h.tups sP.tups
        · rw [lk.2 (fun z => hh z.2)]
          refine itT rfl ⟨_, rfl, k1 _ _ ⟨sZP, ?_⟩⟩
          rw [htk, List.filter_append, List.filter_cons_of_pos (by simp [hh]), List.filter_nil]
          exact (aW.imp fun v c h => h.tups sP.tups).snoc (hre.2.2.tups sZP.tups)
      · rw [show kvs.length = (ops ww k).length from aR.1, List.take_length] at aW
        have sQ : Same W (upd W lq (.lst ys)) := Same.new hq
        have sZQ := sW.trans sQ
        refine ⟨fq, lq, _, _, rfl, rfl, sZQ _ _ eZf, upd_same, big (by omega), ?_⟩
        have tE : Tups (upd W lq (.lst ys)) (upd (upd W lq (.lst ys)) fq (.lst (fxs ++ ys))) := Tups.wl (sZQ _ _ eZf)
        refine ⟨_, rfl, sq, kv2, fxs ++ ys, fd ++ (ops ww k).filter (fun c => decide (ww c.1 k ≠ ww c.1 (k - 1))), _, _, _, _, _, _, rfl, (sZ.trans sZQ).wr g1, hsq, nsf, upd_same, ?_, ?_, by rw [upd_ne nsf]; exact sZQ _ _ eZs, a2Z.imp fun e c h => h.tups (sZQ.tups.trans tE)⟩
        · exact (aFZ.imp fun v c h => h.tups (sZQ.tups.trans tE)).app (aW.imp fun v c h => h.tups (sQ.tups.trans tE))
        · rw [ops_filter]
          exact found_step pF (fun i => if ww i k = ww i (k - 1) then [] else op ww i k) fun i => rfl
  · rintro σ X ⟨rq, kvs, fxs, fd, u3, u4, u5, u6, u7, u8, rfl, sX, hrq, nrf, eXf, aF, pF, eXr, aR⟩
    rw [hrl] at pF aR
    have hfl : fxs.length ≤ 42 := by
      rw [aF.1, pF.length_eq]
      have c0 := ed_len (W := ww) 0 n
      have c1 := ed_len (W := ww) 1 n
      have c2 := ed_len (W := ww) 2 n
      simp only [List.length_append]
      omega
    have hkl : kvs.length ≤ 3 := by rw [aR.1]; exact ops_len ww n
    refine ⟨_, rfl, _, rfl, rq, kvs, rfl, .inl eXr, by omega, fun lq X1 g1' s1' e1' => ?_⟩
    refine ⟨fq, lq, _, _, rfl, rfl, s1' _ _ eXf, e1', big (by rw [List.length_map]; omega), fun cq X2 g2' s2' e2' => ?_⟩
    have sAll := s1'.trans s2'
    have aV : AL (TD ww X2) (fxs ++ kvs.map (·.2.2)) (fd ++ ops ww n) := (aF.imp fun v c h => h.tups sAll.tups).app ((aR.map (P2 := TD ww X) fun e c _ _ h => h.2.2).imp fun v c h => h.tups sAll.tups)
    have aD : DXs X2 (fxs ++ kvs.map (·.2.2)) ((fd ++ ops ww n).map (rD ww)) := al_dxs (fun v c h => h.dx) aV
    have hP := runs_perm pF
    refine ⟨cq, _, (fd ++ ops ww n).map (rD ww), 3, rfl, SqL.of e2', aD.dv, rD_keys ww _, by rw [List.length_append, List.length_map]; omega, fun q Z ix hq sZ hix eZ => ?_⟩
    have hs := sort_byA (D := rD ww) (0, 0, 0) hP (runs_up n) hix
    refine kk Z q ((sX.trans sAll).trans sZ) (.lst eZ ?_)
    rw [← hs]
    have hix2 := hix.1
    rw [List.length_map] at hix2
    have aZ : AL (TD ww Z) (ix.map fun i => (fxs ++ kvs.map (·.2.2)).getD i .non) (ix.map fun i => (fd ++ ops ww n).getD i (0, 0, 0)) := by
      refine ⟨by rw [List.length_map, List.length_map], fun m v c h1 h2 => ?_⟩
      rw [List.getElem?_map] at h1 h2
      obtain ⟨i, hi, rfl⟩ := Option.map_eq_some_iff.mp h1
      rw [hi] at h2
      cases h2
      have hil : i < (fd ++ ops ww n).length := List.mem_range.mp (hix2.mem_iff.mp (List.mem_of_getElem? hi))
      have hil2 : i < (fxs ++ kvs.map (·.2.2)).length := by rw [aV.1]; exact hil
      show TD ww Z ((fxs ++ kvs.map (·.2.2)).getD i .non) ((fd ++ ops ww n).getD i (0, 0, 0))
      rw [List.getD_eq_getElem?_getD, List.getD_eq_getElem?_getD, List.getElem?_eq_getElem hil, List.getElem?_eq_getElem hil2]
      exact (aV.2 i _ _ (List.getElem?_eq_getElem hil2) (List.getElem?_eq_getElem hil)).tups sZ.tups
    exact al_dxs (fun v c h => h.dx) aZ
theorem ok_fshown_mark (T : Txt K mg d tk) : FnOk P w K mg base CX0 1 d.fshown_mark d.fshown_markd ["told"] (sp_fshown_mark K) := by
  refine T.F_fshown_mark.ok sc_fshown_mark (fun vs H Q E h => len_fshown_mark h) (fun cdv A outer s H vs Q E hr h => ?_)
  have hu : (A.deeper (envOfC "shown_mark" (defScope s_fshown_mark) s.heap.objs.size d.fshown_mark cdv)).units < cLine := hr.units0
  refine ⟨_, (@pss_cons _ _ _ _ _ (@ps_set _ _ (1) _ _ _ _ sc_fshown_mark.nd rfl (Or.inl rfl) (@pe_ix _ _ _ _ _ _ _ ix_tup (@pv _ 0 _ _ rfl (Or.inl rfl) rfl rfl) (@pe_int _ _ _ _) (fun _ _ => rfl)) (by rfl) (by first | exact .inl rfl | exact .inr rfl)) (@pss_cons _ _ _ _ _ (@ps_set _ _ (2) _ _ _ _ sc_fshown_mark.nd rfl (Or.inl rfl) (@pe_ix _ _ _ _ _ _ _ ix_tup (@pv _ 0 _ _ rfl (Or.inl rfl) rfl rfl) (@pe_int _ _ _ _) (fun _ _ => rfl)) (by rfl) (by first | exact .inl rfl | exact .inr rfl)) (@pss_one _ _ _ (@ps_ret _ _ _ _ (@pe_op _ _ _ _ _ _ _ _ op_add_str (@pe_op _ _ _ _ _ _ _ _ op_add_str (@pe_op _ _ _ _ _ _ _ _ op_add_str (@pe_fst _ _ _ _ _ _ (@pj_cons _ _ _ _ _ (@pe_str _ _ _ _) (@pj_cons _ _ _ _ _ (@pe_fv _ _ _ _ (@pv _ 1 _ _ rfl (Or.inl rfl) rfl rfl)) (@pj_cons _ _ _ _ _ (@pe_str _ _ _ _) (@pj_cons _ _ _ _ _ (@pe_fv _ _ _ _ (@pv _ 2 _ _ rfl (Or.inl rfl) rfl rfl)) (@pj_cons _ _ _ _ _ (@pe_str _ _ _ _) (@pj_nil _))))))) (@pe_callTy _ _ _ _ _ _ _ _ _ call_strV (by rfl) T.b_str boot_str (@pa_cons _ _ _ _ _ (@pe_ix _ _ _ _ _ _ _ ix_tup (@pv _ 0 _ _ rfl (Or.inl rfl) rfl rfl) (@pe_int _ _ _ _) (fun _ _ => rfl)) (@pa_nil _) (by rfl)) (by decide) (by decide) (by rfl) (by rfl))) (@pe_str _ _ _ _)) (@pe_callTy _ _ _ _ _ _ _ _ _ call_strV (by rfl) T.b_str boot_str (@pa_cons _ _ _ _ _ (@pe_ix _ _ _ _ _ _ _ ix_tup (@pv _ 0 _ _ rfl (Or.inl rfl) rfl rfl) (@pe_int _ _ _ _) (fun _ _ => rfl)) (@pa_nil _) (by rfl)) (by decide) (by decide) (by rfl) (by rfl))))))), ?_⟩
  obtain ⟨v, w, c, rfl, hv, h1, h2, kk⟩ := h
  obtain ⟨p, x, y, z, u, rfl, e, d1, d2, d3, d4⟩ := hv.four
  rw [d1.str_inv, d2.int_inv, d3.str_inv, d4.int_inv] at e
  have a1 := ki_len c.1
  have a2 := vl_len (w c.1 c.2.1)
  have a3 := sN_len h1
  have a4 := sN_len h2
  have l1 : ("mark " : Str).length = 5 := by decide
  have l2 : (" " : Str).length = 1 := by decide
  have l3 : Str.empty.length = 0 := by decide
  refine ⟨_, rfl, p, _, 0, _, rfl, rfl, SqT.of e, rfl, _, rfl, p, _, 2, _, rfl, rfl, SqT.of e, rfl, ?_⟩
  refine ⟨_, rfl, by simp only [Str.length_append]; omega, _, rfl, _, rfl, by omega, _, rfl, by simp only [Str.length_append]; omega, _, rfl, by simp only [Str.length_append]; omega, _, rfl, _, rfl, by omega, _, rfl, by simp only [Str.length_append]; omega, _, rfl, by simp only [Str.length_append]; omega, by simp only [Str.length_append]; omega, ?_⟩
  refine ⟨_, rfl, p, _, 1, _, rfl, rfl, SqT.of e, rfl, _, rfl, .inr ⟨_, rfl, log_small h1⟩, _, _, rfl, rfl, (by show _ + (sN c.2.1).length ≤ sizeLine; rw [sizeLine_eq]; simp only [Str.length_append]; omega), _, _, rfl, rfl, (by rw [sizeLine_eq]; show (_ ++ sN c.2.1).length + _ ≤ _; simp only [Str.length_append]; omega), ?_⟩
  refine ⟨_, rfl, p, _, 3, _, rfl, rfl, SqT.of e, rfl, _, rfl, .inr ⟨_, rfl, log_small h2⟩, _, _, rfl, rfl, (by rw [sizeLine_eq]; show (_ ++ sN c.2.1 ++ _).length + (sN c.2.2).length ≤ _; simp only [Str.length_append]; omega), ?_⟩
  rw [Str.empty_append]
  exact kk
theorem ok_fshown_note (T : Txt K mg d tk) : FnOk P w K mg base CX0 1 d.fshown_note d.fshown_noted ["places", "note"] (sp_fshown_note K) := by
  refine T.F_fshown_note.ok sc_fshown_note (fun vs H Q E h => len_fshown_note h) (fun cdv A outer s H vs Q E hr h => ?_)
  have hu : (A.deeper (envOfC "shown_note" (defScope s_fshown_note) s.heap.objs.size d.fshown_note cdv)).units < cLine := hr.units0
  refine ⟨_, (@pss_one _ _ _ (@ps_ret _ _ _ _ (@pe_op _ _ _ _ _ _ _ _ op_add_str (@pe_op _ _ _ _ _ _ _ _ op_add_str (@pe_op _ _ _ _ _ _ _ _ op_add_str (@pe_str _ _ _ _) (@pe_ix _ _ _ _ _ _ _ ix_tup (@pv _ 1 _ _ rfl (Or.inl rfl) rfl rfl) (@pe_int _ _ _ _) (fun _ _ => rfl))) (@pe_str _ _ _ _)) (@pe_ifExp _ _ _ _ _ _ _ _ (@pt_cmpR _ _ _ _ _ _ _ _ (op_inG (hu2 hr)) (@pe_ix _ _ _ _ _ _ _ ix_tup (@pv _ 1 _ _ rfl (Or.inl rfl) rfl rfl) (@pe_int _ _ _ _) (fun _ _ => rfl)) (@pv _ 0 _ _ rfl (Or.inl rfl) rfl rfl) rfl) (@pe_callTy _ _ _ _ _ _ _ _ _ call_strV (by rfl) T.b_str boot_str (@pa_cons _ _ _ _ _ (@pe_dgetG _ _ _ _ _ _ (hu2 hr) (@pv _ 0 _ _ rfl (Or.inl rfl) rfl rfl) (@pe_ix _ _ _ _ _ _ _ ix_tup (@pv _ 1 _ _ rfl (Or.inl rfl) rfl rfl) (@pe_int _ _ _ _) (fun _ _ => rfl)) (fun _ _ => rfl)) (@pa_nil _) (by rfl)) (by decide) (by decide) (by rfl) (by rfl)) (@pe_str _ _ _ _))))), ?_⟩
  obtain ⟨dq, kvs, v, n, g, k, rfl, hd, pl, hv, hn, hg, kk⟩ := h
  obtain ⟨p, x, y, z, rfl, e, d1, d2, d3⟩ := hv.three
  rw [d2.str_inv] at e
  have a1 := ntW_len k
  have l1 : ("note " : Str).length = 5 := by decide
  have l2 : (" " : Str).length = 1 := by decide
  have l3 : ("loose" : Str).length = 5 := by decide
  refine ⟨_, rfl, p, _, 1, _, rfl, rfl, SqT.of e, rfl, _, _, rfl, rfl, (by rw [sizeLine_eq]; omega), _, _, rfl, rfl, (by rw [sizeLine_eq]; simp only [Str.length_append]; omega), ?_⟩
  refine ⟨_, rfl, p, _, 2, z, rfl, rfl, SqT.of e, rfl, _, rfl, ?_⟩
  by_cases h1 : g k < n
  · rw [if_pos h1] at d3
    have gk := nm_gk d3
    have hv : vG kvs (.tup (nmK (g k))) = some (.int (g k : Nat)) := pl_in pl h1
    refine ⟨dq, kvs, .tup (nmK (g k)), rfl, .inl hd, gk, _, rfl, ?_⟩
    rw [if_neg (by decide), hv]
    refine itT rfl ⟨_, rfl, _, rfl, p, _, 2, z, rfl, rfl, SqT.of e, rfl, dq, kvs, .tup (nmK (g k)), _, rfl, .inl hd, gk, hv, ?_⟩
    have a3 := sN_len (k := g k) (by omega)
    refine ⟨_, rfl, .inr ⟨_, rfl, log_small (by omega)⟩, _, _, rfl, rfl, (by rw [sizeLine_eq]; show _ + (sN (g k)).length ≤ _; simp only [Str.length_append]; omega), ?_⟩
    unfold ntT at kk
    rw [if_pos h1] at kk
    exact kk
  · rw [if_neg h1] at d3
    cases d3
    refine ⟨dq, kvs, .non, rfl, .inl hd, rfl, _, rfl, ?_⟩
    rw [if_neg (by decide), pl_out pl]
    refine itF rfl ⟨_, _, rfl, rfl, (by rw [sizeLine_eq]; simp only [Str.length_append]; omega), ?_⟩
    unfold ntT at kk
    rw [if_neg h1] at kk
    exact kk
theorem ok_fshown_cells (T : Txt K mg d tk) : FnOk P w K mg base CX0 1 d.fshown_cells d.fshown_cellsd ["words"] (sp_fshown_cells K) := by
  refine T.F_fshown_cells.ok sc_fshown_cells (fun vs H Q E h => len_fshown_cells h) (fun cdv A outer s H vs Q E hr h => ?_)
  have hu : (A.deeper (envOfC "shown_cells" (defScope s_fshown_cells) s.heap.objs.size d.fshown_cells cdv)).units < cLine := hr.units0
  refine ⟨_, (@pss_one _ _ _ (@ps_ret _ _ _ _ (@pe_bm _ _ _ _ _ _ _ _ _ _ _ _ PySem.F.plainAttrs_str PySem.F.slot_str_join PySem.F.type_str_join mt_join (@pe_str _ _ _ _) (@pa_cons _ _ _ _ _ (@pe_op _ _ _ _ _ _ _ _ op_catA (@pe_lstA _ _ _ _ (@pa_cons _ _ _ _ _ (@pe_str _ _ _ _) (@pa_nil _) (by rfl))) (@pe_lcomp _ _ _ _ _ _ _ (["word"]) ([]) _ _ _ _ _ rfl (@pi_list _ _ _ _ (@pv _ 0 _ _ rfl (Or.inl rfl) rfl rfl)) ⟨rfl, by decide +kernel, by decide +kernel⟩ (caps0 (by decide +kernel)) (fun _ _ _ => (@pg_name _ _ (0) _ (by show List.Nodup (["word"] : List Str); decide +kernel) rfl (Or.inl rfl) (by first | exact .inl rfl | exact .inr rfl))) (fun _ => fresh_name rfl) (fun _ _ _ => (@pts_nil _)) (fun _ _ _ => (@pe_ifExp _ _ _ _ _ _ _ _ (@pt_cmpR _ _ _ _ _ _ _ _ op_ne (@pv _ 0 _ _ rfl (Or.inl rfl) rfl rfl) (@pe_str _ _ _ _) (nomark _)) (@pv _ 0 _ _ rfl (Or.inl rfl) rfl rfl) (@pe_str _ _ _ _))) (by intro _; rfl))) (@pa_nil _) (by rfl)) (by rfl) (by rfl) (by rfl) (by rfl) (by rfl)))), ?_⟩
  obtain ⟨v, c, x, rfl, hv, hc, kk⟩ := h
  obtain ⟨p, xs, rfl, e, d⟩ := hv.lst_inv
  have hxs : xs = (List.range c).map fun j => V.str (wd (x j)) := strs_inv d
  have hl : xs.length = c := by rw [hxs, List.length_map, List.length_range]
  refine ⟨rfl, szOk rfl, fun q1 H1 g1 s1 e1 => ?_⟩
  refine ⟨_, rfl, p, rfl, ⟨_, SqL.of (s1 _ _ e)⟩, lc_any (xs := xs) (big (by omega)) (fun j zs X => X = H1 ∧ zs = (List.range j).map fun i => V.str (wdT (x i))) ⟨rfl, rfl⟩ (fun j zs X ⟨h, _⟩ => by rw [h]; exact SqL.of (s1 _ _ e)) (fun j y zs X K1 K0 hy ⟨hX, hz⟩ k1 k0 => ?_) fun X q ys ⟨hX, hz⟩ _ hq => ?_⟩
  · subst hX
    have hj : j < c := by rw [← hl]; exact (List.getElem?_eq_some_iff.mp hy).1
    rw [hxs, List.getElem?_map, List.getElem?_range hj] at hy
    cases hy
    refine ⟨_, rfl, rfl, _, rfl, ?_⟩
    by_cases h : wd (x j) = ""
    · refine itF (by show (!decide (V.str (wd (x j)) = V.str "")) = false; rw [h]; rfl) (k1 _ _ ⟨rfl, ?_⟩)
      rw [hz, List.range_succ, List.map_append]
      show _ = _ ++ [V.str (wdT (x j))]
      unfold wdT
      rw [if_pos h]
    · refine itT (by show (!decide (V.str (wd (x j)) = V.str "")) = true; rw [decide_eq_false fun z => h (by injection z)]; rfl) ⟨_, rfl, k1 _ _ ⟨rfl, ?_⟩⟩
      rw [hz, List.range_succ, List.map_append]
      show _ = _ ++ [V.str (wdT (x j))]
      unfold wdT
      rw [if_neg h]
  subst hX
  have hyl : ys.length = c := by rw [hz, List.length_map, List.length_range, hl]
  have s2 : Same X (upd X q (.lst ys)) := Same.new hq
  refine ⟨q1, q, _, _, rfl, rfl, s2 _ _ e1, upd_same, big (by show 1 + ys.length ≤ 1000; omega), fun l H' gl sl el => ?_⟩
  have ez : [V.str "cells"] ++ ys = List.map V.str ("cells" :: (List.range c).map fun j => wdT (x j)) := by
    rw [hz, hl, List.map_cons, List.map_map]; rfl
  refine ⟨_, l, "cells" :: (List.range c).map fun j => wdT (x j), rfl, rfl, SqL.of (by rw [el, ez]), ?_, kk _ ((s1.trans s2).trans sl)⟩
  have b := sums_le (f := fun j => wdT (x j)) (c := 8) (fun k => wdT_len _) (List.range c)
  have l2 : (" " : Str).length = 1 := by decide
  have l1 : ("cells" : Str).length = 5 := by decide
  simp only [List.map_cons, List.sum_cons, List.length_cons, List.length_map, List.length_range, l1, l2] at b ⊢
  omega
theorem ok_f_law_cell_at (T : Txt K mg d tk) : FnOk P w K mg base CX0 1 d.f_law_cell_at d.f_law_cell_atd ["_law_script", "_law_k"] (sp_f_law_cell_at K) := by
  refine T.F_f_law_cell_at.ok sc_f_law_cell_at (fun vs H Q E h => len_f_law_cell_at h) (fun cdv A outer s H vs Q E hr h => ?_)
  have hu : (A.deeper (envOfC "_law_cell_at" (defScope s_f_law_cell_at) s.heap.objs.size d.f_law_cell_at cdv)).units < cLine := hr.units0
  refine ⟨_, (@pss_cons _ _ _ _ _ (@ps_if _ _ _ _ _ _ _ _ (@pt_cmpR _ _ _ _ _ _ _ _ op_lt (@pv _ 1 _ _ rfl (Or.inl rfl) rfl rfl) (@pe_callB _ _ _ _ _ _ _ _ _ call_len_seq (by rfl) T.b_len boot_len (@pa_cons _ _ _ _ _ (@pv _ 0 _ _ rfl (Or.inl rfl) rfl rfl) (@pa_nil _) (by rfl)) (by decide) (by decide) (by rfl) (by rfl)) (nomark _)) (@pss_one _ _ _ (@ps_ret _ _ _ _ (@pe_ix _ _ _ _ _ _ _ ix_list (@pv _ 0 _ _ rfl (Or.inl rfl) rfl rfl) (@pv _ 1 _ _ rfl (Or.inl rfl) rfl rfl) (fun _ _ => rfl)))) (@pss_nil _)) (@pss_one _ _ _ (@ps_ret _ _ _ _ (@pe_int _ _ _ _)))), ?_⟩
  obtain ⟨sp, ns, k, rfl, hq, kk⟩ := h
  refine ⟨_, rfl, _, rfl, sp, _, rfl, .inl hq, _, _, rfl, rfl, _, rfl, ?_⟩
  by_cases h1 : (k : Int) < ((List.map V.int ns).length : Nat)
  · refine itT (decide_eq_true h1) ⟨_, rfl, _, rfl, sp, _, k, .int (cellN ns k), rfl, rfl, hq, ?_, kk⟩
    have h2 : k < ns.length := by rw [List.length_map] at h1; omega
    unfold cellN
    refine atI_nat ?_
    rw [List.getElem?_map, List.getD_eq_getElem?_getD, List.getElem?_eq_getElem h2]
    rfl
  · refine itF (decide_eq_false h1) ?_
    have h2 : ns.length ≤ k := by rw [List.length_map] at h1; omega
    have e : cellN ns k = 0 := by
      unfold cellN
      rw [List.getD_eq_getElem?_getD, List.getElem?_eq_none h2]
      rfl
    rw [e] at kk
    exact kk
theorem ok_f_law_drawn (T : Txt K mg d tk) : FnOk P w K mg base CX0 1 d.f_law_drawn d.f_law_drawnd ["_law_cell", "_law_digits"] (sp_f_law_drawn K) := by
  refine T.F_f_law_drawn.ok sc_f_law_drawn (fun vs H Q E h => len_f_law_drawn h) (fun cdv A outer s H vs Q E hr h => ?_)
  have hu : (A.deeper (envOfC "_law_drawn" (defScope s_f_law_drawn) s.heap.objs.size d.f_law_drawn cdv)).units < cLine := hr.units0
  refine ⟨_, (@pss_cons _ _ _ _ _ (@ps_if _ _ _ _ _ _ _ _ (@PW.pt _ _ _ (@pw_and _ _ _ _ _ _ _ (@pt_val _ _ _ (@pv _ 1 _ _ rfl (Or.inl rfl) rfl rfl) (by intro _; rfl)) (@pw_and1 _ _ _ _ (@pt_cmpR _ _ _ _ _ _ _ _ op_ge (@pv _ 0 _ _ rfl (Or.inl rfl) rfl rfl) (@pe_op _ _ _ _ _ _ _ _ op_pow (@pe_int _ _ _ _) (@pe_int _ _ _ _)) (nomark _))))) (@pss_one _ _ _ (@ps_ret _ _ _ _ (@pe_lstA _ _ _ _ (@pa_cons _ _ _ _ _ (@pv _ 0 _ _ rfl (Or.inl rfl) rfl rfl) (@pa_cons _ _ _ _ _ (@pe_int _ _ _ _) (@pa_nil _) (by rfl)) (by rfl))))) (@pss_nil _)) (@pss_one _ _ _ (@ps_ret _ _ _ _ (@pe_lstA _ _ _ _ (@pa_cons _ _ _ _ _ (@pe_op _ _ _ _ _ _ _ _ op_mod (@pv _ 0 _ _ rfl (Or.inl rfl) rfl rfl) (@pe_int _ _ _ _)) (@pa_cons _ _ _ _ _ (@pe_int _ _ _ _) (@pa_nil _) (by rfl)) (by rfl)))))), ?_⟩
  obtain ⟨c, b, rfl, kk⟩ := h
  refine ⟨_, rfl, b, rfl, ?_⟩
  cases b with
  | false =>
    refine itF rfl (itF rfl ⟨_, rfl, _, _, rfl, rfl, (by show (0 : Int) < 2147483629; decide), szOk rfl, fun p H' g s e => kk H' p s g ?_⟩)
    rw [e]
    unfold dOf
    rw [if_neg (by rintro ⟨z, _⟩; cases z)]
    rfl
  | true =>
    refine itT rfl ⟨_, rfl, _, _, rfl, rfl, ⟨by decide, by decide, by decide⟩, _, _, rfl, rfl, _, rfl, ?_⟩
    by_cases h1 : (10 : Int) ^ 18 ≤ c
    · refine itT (decide_eq_true h1) ⟨_, rfl, szOk rfl, fun p H' g s e => kk H' p s g ?_⟩
      rw [e]
      unfold dOf
      rw [if_pos ⟨rfl, h1⟩]
      rfl
    · refine itF (decide_eq_false h1) ⟨_, rfl, _, _, rfl, rfl, (by show (0 : Int) < 2147483629; decide), szOk rfl, fun p H' g s e => kk H' p s g ?_⟩
      rw [e]
      unfold dOf
      rw [if_neg (fun z => h1 z.2)]
      rfl
theorem ok_f_law_draw (T : Txt K mg d tk) : FnOk P w K mg base CX0 1 d.f_law_draw d.f_law_drawd ["_law_drawn_here", "_law_many"] (sp_f_law_draw K) := by
  refine T.F_f_law_draw.ok sc_f_law_draw (fun vs H Q E h => len_f_law_draw h) (fun cdv A outer s H vs Q E hr h => ?_)
  have hu : (A.deeper (envOfC "_law_draw" (defScope s_f_law_draw) s.heap.objs.size d.f_law_draw cdv)).units < cLine := hr.units0
  refine ⟨_, (@pss_cons _ _ _ _ _ (@ps_set _ _ (2) _ _ _ _ sc_f_law_draw.nd rfl (Or.inl rfl) (@pe_ix _ _ _ _ _ _ _ ix_list (@pv _ 0 _ _ rfl (Or.inl rfl) rfl rfl) (@pe_int _ _ _ _) (fun _ _ => rfl)) (by rfl) (by first | exact .inl rfl | exact .inr rfl)) (@pss_cons _ _ _ _ _ (@ps_if _ _ _ _ _ _ _ _ (@pt_cmpR _ _ _ _ _ _ _ _ op_eq (@pe_ix _ _ _ _ _ _ _ ix_list (@pv _ 0 _ _ rfl (Or.inl rfl) rfl rfl) (@pe_int _ _ _ _) (fun _ _ => rfl)) (@pe_int _ _ _ _) (nomark _)) (@pss_cons _ _ _ _ _ (@ps_asg _ _ _ _ _ _ (@pe_op _ _ _ _ _ _ _ _ op_fdiv (@pv _ 2 _ _ rfl (Or.inl rfl) rfl rfl) (@pv _ 1 _ _ rfl (Or.inl rfl) rfl rfl)) (@pg_sub _ _ _ _ _ _ _ (@pv _ 0 _ _ rfl (Or.inl rfl) rfl rfl) (@pe_int _ _ _ _) set_list (by intro _; rfl)) (by rfl) (by rfl) (by rfl)) (@pss_one _ _ _ (@ps_ret _ _ _ _ (@pe_op _ _ _ _ _ _ _ _ op_mod (@pv _ 2 _ _ rfl (Or.inl rfl) rfl rfl) (@pv _ 1 _ _ rfl (Or.inl rfl) rfl rfl))))) (@pss_nil _)) (@pss_cons _ _ _ _ _ (@ps_asg _ _ _ _ _ _ (@pe_op _ _ _ _ _ _ _ _ op_mod (@pe_op _ _ _ _ _ _ _ _ op_add (@pe_op _ _ _ _ _ _ _ _ op_mul (@pv _ 2 _ _ rfl (Or.inl rfl) rfl rfl) (@pe_int _ _ _ _)) (@pe_int _ _ _ _)) (@pe_int _ _ _ _)) (@pg_sub _ _ _ _ _ _ _ (@pv _ 0 _ _ rfl (Or.inl rfl) rfl rfl) (@pe_int _ _ _ _) set_list (by intro _; rfl)) (by rfl) (by rfl) (by rfl)) (@pss_one _ _ _ (@ps_ret _ _ _ _ (@pe_op _ _ _ _ _ _ _ _ op_mod (@pe_op _ _ _ _ _ _ _ _ op_fdiv (@pe_op _ _ _ _ _ _ _ _ op_mod (@pe_op _ _ _ _ _ _ _ _ op_mul (@pe_ix _ _ _ _ _ _ _ ix_list (@pv _ 0 _ _ rfl (Or.inl rfl) rfl rfl) (@pe_int _ _ _ _) (fun _ _ => rfl)) (@pe_int _ _ _ _)) (@pe_int _ _ _ _)) (@pe_int _ _ _ _)) (@pv _ 1 _ _ rfl (Or.inl rfl) rfl rfl))))))), ?_⟩
  obtain ⟨p, s, q, rfl, hp, hq, hq2, kk⟩ := h
  refine ⟨_, rfl, p, _, 0, .int s.1, rfl, rfl, SqL.of hp, rfl, _, rfl, p, _, 1, .int s.2, rfl, rfl, SqL.of hp, rfl, rfl, _, rfl, ?_⟩
  by_cases h0 : s.2 = 0
  · refine itT (by rw [h0]; rfl) ⟨_, rfl, _, rfl, _, _, rfl, rfl, ⟨hq, by omega⟩, _, rfl, p, _, 0, 0, rfl, rfl, hp, rfl, _, rfl, _, rfl, _, _, rfl, rfl, hq, ?_⟩
    unfold dv ds at kk
    rw [if_pos h0, if_pos h0] at kk
    exact kk
  · refine itF (decide_eq_false fun z => h0 (by injection z)) ⟨_, rfl, _, _, rfl, rfl, .inr ⟨by decide, by decide⟩, _, _, rfl, rfl, _, _, rfl, rfl, (by show (0 : Int) < 2147483629; decide), _, rfl, p, _, 0, 0, rfl, rfl, hp, rfl, ?_⟩
    refine ⟨_, rfl, p, _, 0, _, rfl, rfl, SqL.of upd_same, rfl, _, _, rfl, rfl, .inr ⟨by decide, by decide⟩, _, _, rfl, rfl, (by show (0 : Int) < 2147483647; decide), _, _, rfl, rfl, ⟨by decide, by decide⟩, _, rfl, _, _, rfl, rfl, hq, ?_⟩
    unfold dv ds at kk
    rw [if_neg h0, if_neg h0] at kk
    exact kk
theorem ok_f_law_value (T : Txt K mg d tk) : FnOk P w K mg base CX0 1 d.f_law_value d.f_law_valued ["_law_told", "_law_kind"] (sp_f_law_value K) := by
  refine T.F_f_law_value.ok sc_f_law_value (fun vs H Q E h => len_f_law_value h) (fun cdv A outer s H vs Q E hr h => ?_)
  have hu : (A.deeper (envOfC "_law_value" (defScope s_f_law_value) s.heap.objs.size d.f_law_value cdv)).units < cLine := hr.units0
  refine ⟨_, (@pss_cons _ _ _ _ _ (@ps_for _ _ _ _ _ _ _ _ PassesOwn.never rfl (@pi_list _ _ _ _ (@pe_ix _ _ _ _ _ _ _ ix_tup (@pv _ 0 _ _ rfl (Or.inl rfl) rfl rfl) (@pe_int _ _ _ _) (fun _ _ => rfl))) (@pg_tup _ _ _ _ _ _ rfl (@pgs_cons _ _ _ _ _ (@pg_name _ _ (2) _ sc_f_law_value.nd rfl (Or.inl rfl) (by first | exact .inl rfl | exact .inr rfl)) (@pgs_cons _ _ _ _ _ (@pg_name _ _ (3) _ sc_f_law_value.nd rfl (Or.inl rfl) (by first | exact .inl rfl | exact .inr rfl)) (@pgs_nil _) (by rfl)) (by rfl)) (by rfl) (by rfl)) (@pss_one _ _ _ (@ps_if _ _ _ _ _ _ _ _ (@pt_cmpR _ _ _ _ _ _ _ _ op_eq (@pv _ 2 _ _ rfl (Or.inl rfl) rfl rfl) (@pv _ 1 _ _ rfl (Or.inl rfl) rfl rfl) (nomark _)) (@pss_one _ _ _ (@ps_ret _ _ _ _ (@pv _ 3 _ _ rfl (Or.inl rfl) rfl rfl))) (@pss_nil _))) (by intro _; rfl)) (@pss_one _ _ _ (@ps_ret _ _ _ _ (@pe_str _ _ _ _)))), ?_⟩
  obtain ⟨v, i, t, ww, k, rfl, hv, hi, hw, kk⟩ := h
  obtain ⟨p, x, y, z, rfl, e, d1, d2, d3⟩ := hv.three
  obtain ⟨mq, xs, rfl, em, dm⟩ := d3.lst_inv
  refine ⟨_, rfl, p, _, 2, .ref mq, rfl, rfl, SqT.of e, rfl, mq, rfl, ⟨_, SqL.of em⟩, for_list (xs := xs) (fun j σ X => ∃ u1 u2, σ = [some (.ref p), some (.str (kiS i)), u1, u2] ∧ Same H X ∧ ∀ j', j' < j → (mkI ww k)[j']? ≠ some i) ⟨none, none, rfl, Same.refl _, fun j' z => absurd z (Nat.not_lt_zero _)⟩ (fun j σ X _ ⟨_, _, _, s', _⟩ => SqL.of (s' _ _ em)) ?_ ?_⟩
  · rintro j v σ X hx ⟨u1, u2, rfl, sX, hno⟩
    obtain ⟨dd, hd, hdx⟩ := dm.get hx
    rw [mkL_eq, List.getElem?_map] at hd
    obtain ⟨i', hi', rfl⟩ := Option.map_eq_some_iff.mp hd
    have hi3 : i' < 3 ∧ ww i' k ≠ 0 := mkI_mem (List.mem_of_getElem? hi')
    obtain ⟨b, x1, x2, rfl, eb, dx1, dx2⟩ := hdx.two
    rw [dx1.str_inv, dx2.str_inv] at eb
    refine ⟨b, _, rfl, SqT.of (sX _ _ eb), rfl, _, _, rfl, _, _, rfl, rfl, ?_⟩
    refine ⟨_, rfl, _, rfl, rfl, _, rfl, ?_⟩
    by_cases hk : i' = i
    · subst hk
      exact itT (decide_eq_true rfl) ⟨_, rfl, kk _ sX⟩
    · refine itF (decide_eq_false fun z => hk (kiS_inj hi3.1 hi (by injection z))) ⟨_, _, rfl, sX, fun j' hj' => ?_⟩
      by_cases hjj : j' = j
      · subst hjj
        rw [hi']
        exact fun z => hk (Option.some.inj z)
      · exact hno j' (by omega)
  · rintro σ X ⟨u1, u2, rfl, sX, hno⟩
    have h0 : ww i k = 0 := by
      by_cases z : ww i k = 0
      · exact z
      · exfalso
        have hm : i ∈ mkI ww k := List.mem_filter.mpr ⟨List.mem_range.mpr hi, by simpa using z⟩
        obtain ⟨j', hj', e'⟩ := List.mem_iff_getElem.mp hm
        refine hno j' ?_ (by rw [List.getElem?_eq_getElem hj', e'])
        rw [dm.len, mkL_eq, List.length_map]
        exact hj'
    have := kk X sX
    rw [h0] at this
    exact this
theorem ok_frows_of_entry (T : Txt K mg d tk) (gfshown_cells : FnOk P w K mg base CX0 1 d.fshown_cells d.fshown_cellsd ["words"] (sp_fshown_cells K)) (gfshown_mark : FnOk P w K mg base CX0 1 d.fshown_mark d.fshown_markd ["told"] (sp_fshown_mark K)) (gfshown_note : FnOk P w K mg base CX0 1 d.fshown_note d.fshown_noted ["places", "note"] (sp_fshown_note K)) (gfstretches_of : FnOk P w K mg base CX0 1 d.fstretches_of d.fstretches_ofd ["row"] (sp_fstretches_of K)) : FnOk P w K mg base CX0 2 d.frows_of_entry d.frows_of_entryd ["entry"] (sp_frows_of_entry K) := by
  refine T.F_frows_of_entry.ok sc_frows_of_entry (fun vs H Q E h => len_frows_of_entry h) (fun cdv A outer s H vs Q E hr h => ?_)
  have hu : (A.deeper (envOfC "rows_of_entry" (defScope s_frows_of_entry) s.heap.objs.size d.frows_of_entry cdv)).units < cLine := hr.units0
  refine ⟨_, (@pss_cut _ _ _ _ _ (@ps_set _ _ (1) _ _ _ _ sc_frows_of_entry.nd rfl (Or.inl rfl) (@pe_op _ _ _ _ _ _ _ _ op_add_str (@pe_str _ _ _ _) (@pe_ifExp _ _ _ _ _ _ _ _ (@pt_cmpR _ _ _ _ _ _ _ _ op_ne (@pe_ix _ _ _ _ _ _ _ ix_tup (@pv _ 0 _ _ rfl (Or.inl rfl) rfl rfl) (@pe_int _ _ _ _) (fun _ _ => rfl)) (@pe_str _ _ _ _) (nomark _)) (@pe_ix _ _ _ _ _ _ _ ix_tup (@pv _ 0 _ _ rfl (Or.inl rfl) rfl rfl) (@pe_int _ _ _ _) (fun _ _ => rfl)) (@pe_str _ _ _ _))) (by rfl) (by first | exact .inl rfl | exact .inr rfl)) (@pss_cut _ _ _ _ _ (@ps_if _ _ _ _ _ _ _ _ (@pt_cmpR _ _ _ _ _ _ _ _ op_isN (@pe_ix _ _ _ _ _ _ _ ix_tup (@pv _ 0 _ _ rfl (Or.inl rfl) rfl rfl) (@pe_int _ _ _ _) (fun _ _ => rfl)) (@pe_non _ _ _) (nomark _)) (@pss_one _ _ _ (@ps_ret _ _ _ _ (@pe_lstA _ _ _ _ (@pa_cons _ _ _ _ _ (@pv _ 1 _ _ rfl (Or.inl rfl) rfl rfl) (@pa_cons _ _ _ _ _ (@pe_str _ _ _ _) (@pa_nil _) (by rfl)) (by rfl))))) (@pss_nil _)) (@pss_cons _ _ _ _ _ (@ps_set _ _ (2) _ _ _ _ sc_frows_of_entry.nd rfl (Or.inl rfl) (@pe_ix _ _ _ _ _ _ _ ix_tup (@pv _ 0 _ _ rfl (Or.inl rfl) rfl rfl) (@pe_int _ _ _ _) (fun _ _ => rfl)) (by rfl) (by first | exact .inl rfl | exact .inr rfl)) (@pss_cut _ _ _ _ _ (@ps_set _ _ (3) _ _ _ _ sc_frows_of_entry.nd rfl (Or.inl rfl) (@pe_ifExp _ _ _ _ _ _ _ _ (@pt_cmpR _ _ _ _ _ _ _ _ op_gt (@pe_callB _ _ _ _ _ _ _ _ _ call_len_seq (by rfl) T.b_len boot_len (@pa_cons _ _ _ _ _ (@pv _ 2 _ _ rfl (Or.inl rfl) rfl rfl) (@pa_nil _) (by rfl)) (by decide) (by decide) (by rfl) (by rfl)) (@pe_int _ _ _ _) (nomark _)) (@pe_lstA _ _ _ _ (@pa_cons _ _ _ _ _ (@pe_op _ _ _ _ _ _ _ _ op_add_str (@pe_str _ _ _ _) (@pe_bm _ _ _ _ _ _ _ _ _ _ _ _ PySem.F.plainAttrs_str PySem.F.slot_str_join PySem.F.type_str_join mt_join (@pe_str _ _ _ _) (@pa_cons _ _ _ _ _ (@pe_lcomp _ _ _ _ _ _ _ (["sign"]) ([]) _ _ _ _ _ rfl (@pi_list _ _ _ _ (@pv _ 2 _ _ rfl (Or.inl rfl) rfl rfl)) ⟨rfl, by decide +kernel, by decide +kernel⟩ (caps0 (by decide +kernel)) (fun _ _ _ => (@pg_name _ _ (0) _ (by show List.Nodup (["sign"] : List Str); decide +kernel) rfl (Or.inl rfl) (by first | exact .inl rfl | exact .inr rfl))) (fun _ => fresh_name rfl) (fun _ _ _ => (@pts_nil _)) (fun _ _ _ => (@pe_ix _ _ _ _ _ _ _ (ix_tupK (K := K) rfl) (@pv _ 0 _ _ rfl (Or.inl rfl) rfl rfl) (@pe_int _ _ _ _) (fun _ _ => rfl))) (by intro _; rfl)) (@pa_nil _) (by rfl)) (by rfl) (by rfl) (by rfl) (by rfl) (by rfl))) (@pa_nil _) (by rfl))) (@pe_lstA _ _ _ _ (@pa_nil _))) (by rfl) (by first | exact .inl rfl | exact .inr rfl)) (@pss_cons _ _ _ _ _ (@ps_setC _ (4) _ _ _ _ _ _ _ _ _ (["told"]) ([]) _ _ _ _ _ sc_frows_of_entry.nd rfl (Or.inl rfl) rfl (@pi_list _ _ _ _ (@pe_call _ _ _ _ _ _ _ _ _ _ _ _ _ _ _ _ gfstretches_of (hr.mono (by decide)) (by rfl) T.m_fstretches_of T.k_fstretches_of T.d_fstretches_of .nil pass0 (@pa_cons _ _ _ _ _ (@pv _ 2 _ _ rfl (Or.inl rfl) rfl rfl) (@pa_nil _) (by rfl)) (by decide) (by rfl) (by rfl))) ⟨rfl, by decide +kernel, by decide +kernel⟩ (caps0 (by decide +kernel)) (fun _ _ _ => (@pg_name _ _ (0) _ (by show List.Nodup (["told"] : List Str); decide +kernel) rfl (Or.inl rfl) (by first | exact .inl rfl | exact .inr rfl))) (fun _ => fresh_name rfl) (fun _ _ _ => (@pts_nil _)) (fun _ _ _ => (@pe_call _ _ _ _ _ _ _ _ _ _ _ _ _ _ _ _ gfshown_mark (hr.mono (by decide)) (by rfl) T.m_fshown_mark T.k_fshown_mark T.d_fshown_mark .nil pass0 (@pa_cons _ _ _ _ _ (@pv _ 0 _ _ rfl (Or.inl rfl) rfl rfl) (@pa_nil _) (by rfl)) (by decide) (by rfl) (by rfl))) (by intro _; rfl) (by rfl) (by first | exact .inl rfl | exact .inr rfl)) (@pss_cons _ _ _ _ _ (@ps_set _ _ (5) _ _ _ _ sc_frows_of_entry.nd rfl (Or.inr rfl) (@pe_callTy _ _ _ _ _ _ _ _ _ (call_dictG hr.hd (hu4 hr)) (by rfl) T.b_dict boot_dict (@pa_cons _ _ _ _ _ (@pe_lcomp _ _ _ _ _ _ _ (["place", "sign"]) ([]) _ _ _ _ _ rfl (@pi_enum _ _ _ _ _ _ _ _ (by rfl) T.b_enumerate (@pa_cons _ _ _ _ _ (@pv _ 2 _ _ rfl (Or.inl rfl) rfl rfl) (@pa_nil _) (by rfl)) (by rfl)) ⟨rfl, by decide +kernel, by decide +kernel⟩ (caps0 (by decide +kernel)) (fun _ _ _ => (@pg_tup _ _ _ _ _ (2) rfl (@pgs_cons _ _ _ _ _ (@pg_name _ _ (0) _ (by show List.Nodup (["place", "sign"] : List Str); decide +kernel) rfl (Or.inl rfl) (by first | exact .inl rfl | exact .inr rfl)) (@pgs_cons _ _ _ _ _ (@pg_name _ _ (1) _ (by show List.Nodup (["place", "sign"] : List Str); decide +kernel) rfl (Or.inl rfl) (by first | exact .inl rfl | exact .inr rfl)) (@pgs_nil _) (by rfl)) (by rfl)) (by rfl) (by rfl))) (fun _ => fresh_pair rfl rfl (by decide)) (fun _ _ _ => (@pts_nil _)) (fun _ _ _ => (@pe_tupA _ _ _ _ _ (@pa_cons _ _ _ _ _ (@pe_ix _ _ _ _ _ _ _ (ix_tupK (K := K) rfl) (@pv _ 1 _ _ rfl (Or.inl rfl) rfl rfl) (@pe_int _ _ _ _) (fun _ _ => rfl)) (@pa_cons _ _ _ _ _ (@pv _ 0 _ _ rfl (Or.inl rfl) rfl rfl) (@pa_nil _) (by rfl)) (by rfl)))) (by intro _; rfl)) (@pa_nil _) (by rfl)) (by decide) (by decide) (by rfl) (by rfl)) (by rfl) (by first | exact .inl rfl | exact .inr rfl)) (@pss_cons _ _ _ _ _ (@ps_setC _ (6) _ _ _ _ _ _ _ _ _ (["note"]) ([("places", 5)]) _ _ _ _ _ sc_frows_of_entry.nd rfl (Or.inl rfl) rfl (@pi_list _ _ _ _ (@pe_ix _ _ _ _ _ _ _ ix_tup (@pv _ 0 _ _ rfl (Or.inl rfl) rfl rfl) (@pe_int _ _ _ _) (fun _ _ => rfl))) ⟨rfl, by decide +kernel, by decide +kernel⟩ (caps_def (defScope s_frows_of_entry) ["entry", "head", "row", "text", "marks", "places", "notes", "table", "cells"] rfl rfl (fun _ h => cell_has h) (by decide +kernel) (by decide +kernel) (by decide +kernel)) (fun _ _ _ => (@pg_name _ _ (0) _ (by show List.Nodup (["note", "places"] : List Str); decide +kernel) rfl (Or.inl rfl) (by first | exact .inl rfl | exact .inr rfl))) (fun _ => fresh_name rfl) (fun _ _ _ => (@pts_nil _)) (fun _ _ _ => (@pe_call _ _ _ _ _ _ _ _ _ _ _ _ _ _ _ _ gfshown_note (hr.mono (by decide)) (by rfl) T.m_fshown_note T.k_fshown_note T.d_fshown_note .nil pass0 (@pa_cons _ _ _ _ _ (@pv _ 1 _ _ rfl (Or.inr (Or.inl rfl)) rfl rfl) (@pa_cons _ _ _ _ _ (@pv _ 0 _ _ rfl (Or.inl rfl) rfl rfl) (@pa_nil _) (by rfl)) (by rfl)) (by decide) (by rfl) (by rfl))) (by intro _; rfl) (by rfl) (by first | exact .inl rfl | exact .inr rfl)) (@pss_cons _ _ _ _ _ (@ps_set _ _ (7) _ _ _ _ sc_frows_of_entry.nd rfl (Or.inl rfl) (@pe_ix _ _ _ _ _ _ _ ix_tup (@pv _ 0 _ _ rfl (Or.inl rfl) rfl rfl) (@pe_int _ _ _ _) (fun _ _ => rfl)) (by rfl) (by first | exact .inl rfl | exact .inr rfl)) (@pss_cut _ _ _ _ _ (@ps_set _ _ (8) _ _ _ _ sc_frows_of_entry.nd rfl (Or.inl rfl) (@pe_ifExp _ _ _ _ _ _ _ _ (@pt_cmpR _ _ _ _ _ _ _ _ op_gt (@pe_callB _ _ _ _ _ _ _ _ _ call_len_seq (by rfl) T.b_len boot_len (@pa_cons _ _ _ _ _ (@pe_ix _ _ _ _ _ _ _ ix_tup (@pv _ 7 _ _ rfl (Or.inl rfl) rfl rfl) (@pe_int _ _ _ _) (fun _ _ => rfl)) (@pa_nil _) (by rfl)) (by decide) (by decide) (by rfl) (by rfl)) (@pe_int _ _ _ _) (nomark _)) (@pe_lcomp _ _ _ _ _ _ _ (["words"]) ([]) _ _ _ _ _ rfl (@pi_list _ _ _ _ (@pe_ix _ _ _ _ _ _ _ ix_tup (@pv _ 7 _ _ rfl (Or.inl rfl) rfl rfl) (@pe_int _ _ _ _) (fun _ _ => rfl))) ⟨rfl, by decide +kernel, by decide +kernel⟩ (caps0 (by decide +kernel)) (fun _ _ _ => (@pg_name _ _ (0) _ (by show List.Nodup (["words"] : List Str); decide +kernel) rfl (Or.inl rfl) (by first | exact .inl rfl | exact .inr rfl))) (fun _ => fresh_name rfl) (fun _ _ _ => (@pts_nil _)) (fun _ _ _ => (@pe_call _ _ _ _ _ _ _ _ _ _ _ _ _ _ _ _ gfshown_cells (hr.mono (by decide)) (by rfl) T.m_fshown_cells T.k_fshown_cells T.d_fshown_cells .nil pass0 (@pa_cons _ _ _ _ _ (@pv _ 0 _ _ rfl (Or.inl rfl) rfl rfl) (@pa_nil _) (by rfl)) (by decide) (by rfl) (by rfl))) (by intro _; rfl)) (@pe_lstA _ _ _ _ (@pa_nil _))) (by rfl) (by first | exact .inl rfl | exact .inr rfl)) (@pss_one _ _ _ (@ps_ret _ _ _ _ (@pe_op _ _ _ _ _ _ _ _ op_catA (@pe_op _ _ _ _ _ _ _ _ op_catA (@pe_op _ _ _ _ _ _ _ _ op_catA (@pe_op _ _ _ _ _ _ _ _ op_catA (@pe_lstA _ _ _ _ (@pa_cons _ _ _ _ _ (@pv _ 1 _ _ rfl (Or.inl rfl) rfl rfl) (@pa_nil _) (by rfl))) (@pv _ 3 _ _ rfl (Or.inl rfl) rfl rfl)) (@pv _ 4 _ _ rfl (Or.inl rfl) rfl rfl)) (@pv _ 6 _ _ rfl (Or.inl rfl) rfl rfl)) (@pv _ 8 _ _ rfl (Or.inl rfl) rfl rfl))))))))))))), ?_⟩
  obtain ⟨v, k, e, rfl, hv, hE, kk⟩ := h
  have l5 : ("part " : Str).length = 5 := by decide
  have l1 : ("." : Str).length = 1 := by decide
  have nl := nu_len k
  obtain ⟨p, x1, x2, x3, x4, rfl, ep, hx⟩ : ∃ p x1 x2 x3 x4, v = .ref p ∧ H p = some (.tup [.str (nu k), x1, x2, x3, x4]) ∧ ((e.cl = true ∧ x2 = .non) ∨ (e.cl = false ∧ DX H x2 (.list (rwD e.n e.t e.w)) ∧ DX H x3 (.list ((List.range e.m).map (ntD e.n e.g))) ∧ DX H x4 (tbD e.r e.c e.x))) := en_parts hv
  refine ⟨fun σ' X => σ' = [some (.ref p), some (.str (hdT k)), none, none, none, none, none, none, none] ∧ X = H, ?_, ?_⟩
  · refine ⟨_, rfl, p, _, 0, _, rfl, rfl, SqT.of ep, rfl, rfl, _, rfl, ?_⟩
    by_cases hn : nu k = ""
    · refine itF (by rw [hn]; rfl) ⟨_, _, rfl, rfl, (by rw [sizeLine_eq]; omega), ?_, rfl⟩
      unfold hdT
      rw [if_pos hn]
      rfl
    · refine itT (by rw [decide_eq_false fun z => hn (by injection z)]; rfl) ⟨_, rfl, p, _, 0, _, rfl, rfl, SqT.of ep, rfl, _, _, rfl, rfl, (by rw [sizeLine_eq]; omega), ?_, rfl⟩
      unfold hdT
      rw [if_neg hn]
      rfl
  rintro σ' X ⟨rfl, rfl⟩
  rcases hx with ⟨hc, rfl⟩ | ⟨hc, d3, d4, d5⟩
  · refine ⟨fun _ _ => False, ⟨_, rfl, p, _, 2, _, rfl, rfl, SqT.of ep, rfl, rfl, _, rfl, itT rfl ⟨_, rfl, szOk rfl, fun q X' g s e' => kk X' q s ?_⟩⟩, fun _ _ z => z.elim⟩
    rw [e']
    unfold rowsT
    rw [if_pos hc]
    rfl
  have hrT : rowsT k e = [hdT k] ++ (if e.n > 0 then [txT e.n e.t] else []) ++ (runs e.w e.n).map (mT e.w) ++ (List.range e.m).map (ntT e.n e.g) ++ (if e.c > 0 then (List.range e.r).map fun i => clT e.c (e.x i) else []) := by
    unfold rowsT
    rw [if_neg (by rw [hc]; exact Bool.false_ne_true)]
  obtain ⟨rp, rs, rfl, er, dr⟩ := d3.lst_inv
  obtain ⟨np, nts, rfl, en, dn'⟩ := d4.lst_inv
  obtain ⟨tp, y1, y2, y3, rfl, et, dt1, dt2, dt3⟩ := d5.three
  obtain ⟨cp, cs, rfl, ec, dc⟩ := dt2.lst_inv
  obtain ⟨wp, wss, rfl, ew, dw⟩ := dt3.lst_inv
  have hrl : rs.length = e.n := by rw [dr.len]; unfold rwD; rw [List.length_map, List.length_range]
  have hnl : nts.length = e.m := by rw [dn'.len, List.length_map, List.length_range]
  have hcl : cs.length = e.c := by rw [dc.len, List.length_map, List.length_range]
  have hwl : wss.length = e.r := by rw [dw.len, List.length_map, List.length_range]
  have bn := hE.n
  have bm := hE.m
  have br := hE.r
  have bc := hE.c
  refine ⟨fun σ' Y => σ' = [some (.ref p), some (.str (hdT k)), none, none, none, none, none, none, none] ∧ Y = X, ⟨_, rfl, p, _, 2, _, rfl, rfl, SqT.of ep, rfl, rfl, _, rfl, itF rfl ⟨rfl, rfl⟩⟩, ?_⟩
  rintro σ' Y ⟨rfl, rfl⟩
  refine ⟨_, rfl, p, _, 2, _, rfl, rfl, SqT.of ep, rfl, ?_⟩
  refine ⟨fun σ' Z => ∃ tq, σ' = [some (.ref p), some (.str (hdT k)), some (.ref rp), some (.ref tq), none, none, none, none, none] ∧ Same Y Z ∧ Z tq = some (.lst ((if e.n > 0 then [txT e.n e.t] else []).map V.str)), ?_, ?_⟩
  · refine ⟨_, rfl, rp, rs, rfl, .inl (SqL.of er), _, _, rfl, rfl, _, rfl, ?_⟩
    by_cases h0 : e.n > 0
    · refine itT (decide_eq_true (by omega)) ?_
      rw [if_pos h0]
      refine ⟨rfl, _, rfl, rp, rfl, ⟨_, SqL.of er⟩, lc_any (xs := rs) (big (by omega)) (fun j zs X => X = Y ∧ zs = (List.range j).map fun i => V.str (tx (e.t i))) ⟨rfl, rfl⟩ (fun _ _ X ⟨h, _⟩ => by rw [h]; exact SqL.of er) (fun j y zs X K1 K0 hy ⟨hX, hz⟩ k1 k0 => ?_) fun X q ys ⟨hX, hz⟩ _ hq => ?_⟩
      · subst hX
        have hj : j < e.n := by rw [← hrl]; exact (List.getElem?_eq_some_iff.mp hy).1
        obtain ⟨dd, hd, hdx⟩ := dr.get hy
        unfold rwD at hd
        rw [List.getElem?_map, List.getElem?_range hj] at hd
        cases hd
        obtain ⟨b, z1, z2, z3, rfl, eb, _, w2, _⟩ := hdx.three
        rw [w2.str_inv] at eb
        refine ⟨_, rfl, b, _, 1, _, rfl, rfl, SqT.of eb, rfl, k1 _ _ ⟨rfl, ?_⟩⟩
        rw [hz, List.range_succ, List.map_append]
        rfl
      · subst hX
        rw [hrl] at hz
        have ht := tj_len e.n e.t
        have hs := sums_le (f := fun i => tx (e.t i)) (c := 4) (fun i => tx_len _) (List.range e.n)
        rw [List.length_range] at hs
        have l0 : ("" : Str).length = 0 := by decide
        have l5 : ("text " : Str).length = 5 := by decide
        refine ⟨_, q, (List.range e.n).map fun i => tx (e.t i), rfl, rfl, SqL.of (by rw [upd_same, hz, List.map_map]; rfl), by rw [l0]; omega, _, _, rfl, rfl, by rw [sizeLine_eq]; omega, szOk rfl, fun tq Z gz sz ez => ⟨tq, rfl, (Same.new hq).trans sz, ez⟩⟩
    · refine itF (decide_eq_false (by omega)) ?_
      rw [if_neg h0]
      exact ⟨szOk rfl, fun tq Z gz sz ez => ⟨tq, rfl, sz, ez⟩⟩
  rintro σ' Z ⟨tq, rfl, sZ, eZt⟩
  refine ⟨_, rfl, .ref rp, e.n, e.t, e.w, rfl, .lst (sZ _ _ er) (dr.same sZ), bn, hE.w, fun Z1 mq s1 d1 => ?_⟩
  obtain ⟨mq', ms, hmq, em, dm⟩ := d1.lst_inv
  cases hmq
  have hml : ms.length = (runs e.w e.n).length := by rw [dm.len, List.length_map]
  have hrn := runs_len (W := e.w) e.n
  refine ⟨mq, rfl, ⟨_, SqL.of em⟩, lc_any (xs := ms) (big (by omega)) (fun j zs X => X = Z1 ∧ zs = ((runs e.w e.n).take j).map fun c => V.str (mT e.w c)) ⟨rfl, rfl⟩ (fun _ _ X ⟨h, _⟩ => by rw [h]; exact SqL.of em) (fun j y zs X K1 K0 hy ⟨hX, hz⟩ k1 k0 => ?_) fun X q ys ⟨hX, hz⟩ _ hq => ?_⟩
  · subst hX
    obtain ⟨dd, hd, hdx⟩ := dm.get hy
    rw [List.getElem?_map] at hd
    obtain ⟨c, hcc, rfl⟩ := Option.map_eq_some_iff.mp hd
    obtain ⟨_, b1, b2, _⟩ := runs_mem (List.mem_of_getElem? hcc)
    refine ⟨_, rfl, y, e.w, c, rfl, hdx, by omega, by omega, k1 _ _ ⟨rfl, ?_⟩⟩
    rw [hz, List.take_add_one, hcc, List.map_append]
    rfl
  subst hX
  rw [hml, List.take_length] at hz
  subst hz
  have sA : Same X (upd X q (.lst ((runs e.w e.n).map fun c => V.str (mT e.w c)))) := Same.new hq
  have eA : (upd X q (.lst ((runs e.w e.n).map fun c => V.str (mT e.w c)))) q = some (.lst ((runs e.w e.n).map fun c => V.str (mT e.w c))) := upd_same
  generalize upd X q (.lst ((runs e.w e.n).map fun c => V.str (mT e.w c))) = A1 at sA eA
  have sYA := (sZ.trans s1).trans sA
  refine ⟨_, rfl, rp, rfl, ⟨_, SqL.of (sYA _ _ er)⟩, ?_⟩
  refine lc_enum (xs := rs) (big (by omega)) (fun j zs X => Same A1 X ∧ zs.length = j ∧ ∃ es, PrsV X zs es ∧ PlK X j es) ⟨Same.refl _, rfl, [], trivial, rfl, fun _ _ z => nomatch z⟩ (fun _ _ X ⟨h, _⟩ => SqL.of (h _ _ (sYA _ _ er))) (fun j x zs X' pp K1 K0 hx ⟨sX', hzl, es, pr, pl⟩ hp k1 k0 => ?_) fun X' np' ys ⟨sX', hyl, es, pr, pl⟩ _ hq' => ?_
  · have hj : j < e.n := by rw [← hrl]; exact (List.getElem?_eq_some_iff.mp hx).1
    obtain ⟨dd, hd, hdx⟩ := dr.get hx
    unfold rwD at hd
    rw [List.getElem?_map, List.getElem?_range hj] at hd
    cases hd
    obtain ⟨b, z1, z2, z3, rfl, eb, w1, _, _⟩ := hdx.three
    have sP : Same X' (upd X' pp (.tup [.int (j : Nat), .ref b])) := Same.new hp
    refine ⟨pp, _, rfl, SqT.of upd_same, rfl, _, _, rfl, _, _, rfl, rfl, ?_⟩
    have sAP := (sYA.trans sX').trans sP
    refine ⟨_, rfl, b, _, 0, z1, rfl, rfl, SqT.of (sAP _ _ eb), rfl, _, rfl, szOk rfl, fun t3 X3 g3 s3 e3 => k1 _ _ ⟨(sX'.trans sP).trans s3, by rw [List.length_append, hzl]; rfl, es ++ [(.tup (nmK j), z1, .int (j : Nat))], ?_, ?_, fun m ee hm => ?_⟩⟩
    · exact PrsV.snoc (e := (.tup (nmK j), z1, .int (j : Nat))) ⟨t3, rfl, e3, nm_gk (w1.same (sAP.trans s3))⟩ (pr.tups (sP.trans s3).tups)
    · rw [List.length_append, pl.1]; rfl
    · by_cases hmj : m < es.length
      · rw [List.getElem?_append_left hmj] at hm
        exact pl.2 m ee hm
      · have hm2 : m = j := by
          have := (List.getElem?_eq_some_iff.mp hm).1
          rw [List.length_append, List.length_singleton, pl.1] at this
          rw [pl.1] at hmj
          omega
        subst hm2
        rw [List.getElem?_append_right (by rw [pl.1]; omega), pl.1, Nat.sub_self] at hm
        cases hm
        exact ⟨rfl, rfl⟩
  rw [hrl] at hyl pl
  have sC : Same X' (upd X' np' (.lst ys)) := Same.new hq'
  refine ⟨np', ys, es, rfl, SqL.of upd_same, pr.tups sC.tups, by omega, fun dq B g2 s2 e2 => ?_⟩
  rw [putAll_new _ [] (by rw [List.nil_append]; exact pl_nodup pl), List.nil_append] at e2
  have sAB := (sX'.trans sC).trans s2
  have sYB := sYA.trans sAB
  refine ⟨_, rfl, p, _, 3, _, rfl, rfl, SqT.of (sYB _ _ ep), rfl, np, rfl, ⟨_, SqL.of (sYB _ _ en)⟩, ?_⟩
  refine lc_any (xs := nts) (big (by omega)) (fun j zs W => W = B ∧ zs = (List.range j).map fun i => V.str (ntT e.n e.g i)) ⟨rfl, rfl⟩ (fun _ _ W ⟨h, _⟩ => by rw [h]; exact SqL.of (sYB _ _ en)) (fun j y zs W K1 K0 hy ⟨hW, hz⟩ k1 k0 => ?_) fun W nq zs ⟨hW, hz⟩ _ hnq => ?_
  · subst hW
    have hj : j < e.m := by rw [← hnl]; exact (List.getElem?_eq_some_iff.mp hy).1
    obtain ⟨dd, hd, hdx⟩ := dn'.get hy
    rw [List.getElem?_map, List.getElem?_range hj] at hd
    cases hd
    refine ⟨_, rfl, _, rfl, dq, es, y, e.n, e.g, j, rfl, e2, pl, hdx.same sYB, bn, hE.g j, k1 _ _ ⟨rfl, ?_⟩⟩
    rw [hz, List.range_succ, List.map_append]
    rfl
  subst hW
  rw [hnl] at hz
  subst hz
  have sN' : Same W (upd W nq (.lst ((List.range e.m).map fun i => V.str (ntT e.n e.g i)))) := Same.new hnq
  have eN : (upd W nq (.lst ((List.range e.m).map fun i => V.str (ntT e.n e.g i)))) nq = some (.lst ((List.range e.m).map fun i => V.str (ntT e.n e.g i))) := upd_same
  generalize upd W nq (.lst ((List.range e.m).map fun i => V.str (ntT e.n e.g i))) = C at sN' eN
  have sYC := sYB.trans sN'
  refine ⟨_, rfl, p, _, 4, _, rfl, rfl, SqT.of (sYC _ _ ep), rfl, ?_⟩
  refine ⟨fun σ' Z => ∃ cq, σ' = [some (.ref p), some (.str (hdT k)), some (.ref rp), some (.ref tq), some (.ref q), some (.ref dq), some (.ref nq), some (.ref tp), some (.ref cq)] ∧ Same C Z ∧ Z cq = some (.lst ((if e.c > 0 then (List.range e.r).map fun i => clT e.c (e.x i) else []).map V.str)), ?_, ?_⟩
  · refine ⟨_, rfl, tp, _, 1, _, rfl, rfl, SqT.of (sYC _ _ et), rfl, cp, cs, rfl, .inl (SqL.of (sYC _ _ ec)), _, _, rfl, rfl, _, rfl, ?_⟩
    by_cases h0 : e.c > 0
    · refine itT (decide_eq_true (by omega)) ?_
      rw [if_pos h0]
      refine ⟨_, rfl, tp, _, 2, _, rfl, rfl, SqT.of (sYC _ _ et), rfl, wp, rfl, ⟨_, SqL.of (sYC _ _ ew)⟩, ?_⟩
      refine lc_any (xs := wss) (big (by omega)) (fun j zs W => Same C W ∧ zs = (List.range j).map fun i => V.str (clT e.c (e.x i))) ⟨Same.refl _, rfl⟩ (fun _ _ W ⟨h, _⟩ => SqL.of (h _ _ (sYC _ _ ew))) (fun j y zs W K1 K0 hy ⟨hW, hz⟩ k1 k0 => ?_) fun W cq zs ⟨hW, hz⟩ _ hcq => ?_
      · have hj : j < e.r := by rw [← hwl]; exact (List.getElem?_eq_some_iff.mp hy).1
        obtain ⟨dd, hd, hdx⟩ := dw.get hy
        rw [List.getElem?_map, List.getElem?_range hj] at hd
        cases hd
        refine ⟨_, rfl, y, e.c, e.x j, rfl, hdx.same (sYC.trans hW), bc, fun W2 sW2 => k1 _ _ ⟨hW.trans sW2, ?_⟩⟩
        rw [hz, List.range_succ, List.map_append]
        rfl
      · rw [hwl] at hz
        refine ⟨cq, rfl, hW.trans (Same.new hcq), ?_⟩
        rw [upd_same, hz, List.map_map]
        rfl
    · refine itF (decide_eq_false (by omega)) ?_
      rw [if_neg h0]
      exact ⟨szOk rfl, fun cq Z gz sz ez => ⟨cq, rfl, sz, ez⟩⟩
  rintro σ' F ⟨cq, rfl, sF, eFc⟩
  have fR := (rowsT_len (k := k) hE).2
  rw [hrT] at fR
  simp only [List.length_append] at fR
  have eFt := sF _ _ (sN' _ _ (sAB _ _ (sA _ _ (s1 _ _ eZt))))
  have eFm := sF _ _ (sN' _ _ (sAB _ _ eA))
  have eFn := sF _ _ eN
  refine ⟨_, rfl, szOk rfl, fun l0 F1 h0 z0 w0 => ⟨_, rfl, ⟨l0, tq, _, _, rfl, rfl, w0, z0 _ _ eFt, big (by rw [List.length_map]; simp only [List.length_singleton] at *; omega), fun l1 F2 h1 z1 w1 => ?_⟩⟩⟩
  have q1 := z0.trans z1
  refine ⟨_, rfl, ⟨l1, q, _, _, rfl, rfl, w1, q1 _ _ eFm, big (by simp only [List.length_append, List.length_map, List.length_singleton, List.length_cons, List.length_nil] at *; omega), fun l2 F3 h2 z2 w2 => ?_⟩⟩
  have q2 := q1.trans z2
  refine ⟨_, rfl, ⟨l2, nq, _, _, rfl, rfl, w2, q2 _ _ eFn, big (by simp only [List.length_append, List.length_map, List.length_singleton, List.length_cons, List.length_nil] at *; omega), fun l3 F4 h3 z3 w3 => ?_⟩⟩
  have q3 := q2.trans z3
  refine ⟨_, rfl, ⟨l3, cq, _, _, rfl, rfl, w3, q3 _ _ eFc, big (by simp only [List.length_append, List.length_map, List.length_singleton, List.length_cons, List.length_nil] at *; omega), fun l4 F5 h4 z4 w4 => ?_⟩⟩
  refine kk F5 l4 (((sYC.trans sF).trans q3).trans z4) ?_
  rw [w4, hrT]
  simp only [List.map_append, List.map_map, List.map_cons, List.map_nil]
  rfl
theorem ok_f_law_row (T : Txt K mg d tk) (gf_law_draw : FnOk P w K mg base CX0 1 d.f_law_draw d.f_law_drawd ["_law_drawn_here", "_law_many"] (sp_f_law_draw K)) : FnOk P w K mg base CX0 2 d.f_law_row d.f_law_rowd ["_law_drawn_here"] (sp_f_law_row K) := by
  refine T.F_f_law_row.ok sc_f_law_row (fun vs H Q E h => len_f_law_row h) (fun cdv A outer s H vs Q E hr h => ?_)
  have hu : (A.deeper (envOfC "_law_row" (defScope s_f_law_row) s.heap.objs.size d.f_law_row cdv)).units < cLine := hr.units0
  refine ⟨_, (@pss_cons _ _ _ _ _ (@ps_set _ _ (1) _ _ _ _ sc_f_law_row.nd rfl (Or.inl rfl) (@pe_lstA _ _ _ _ (@pa_nil _)) (by rfl) (by first | exact .inl rfl | exact .inr rfl)) (@pss_cons _ _ _ _ _ (@ps_for _ _ _ _ _ _ _ _ PassesOwn.never rfl (@pi_range1 _ _ _ _ _ _ (by rfl) T.b_range (@pa_cons _ _ _ _ _ (@pe_call _ _ _ _ _ _ _ _ _ _ _ _ _ _ _ _ gf_law_draw (hr.mono (by decide)) (by rfl) T.m_f_law_draw T.k_f_law_draw T.d_f_law_draw .nil pass0 (@pa_cons _ _ _ _ _ (@pv _ 0 _ _ rfl (Or.inl rfl) rfl rfl) (@pa_cons _ _ _ _ _ (@pe_int _ _ _ _) (@pa_nil _) (by rfl)) (by rfl)) (by decide) (by rfl) (by rfl)) (@pa_nil _) (by rfl)) (by rfl)) (@pg_name _ _ (2) _ sc_f_law_row.nd rfl (Or.inl rfl) (by first | exact .inl rfl | exact .inr rfl)) (@pss_cons _ _ _ _ _ (@ps_set _ _ (3) _ _ _ _ sc_f_law_row.nd rfl (Or.inl rfl) (@pe_lstA _ _ _ _ (@pa_nil _)) (by rfl) (by first | exact .inl rfl | exact .inr rfl)) (@pss_cons _ _ _ _ _ (@ps_for _ _ _ _ _ _ _ _ PassesOwn.never rfl (@pi_list _ _ _ _ (@pe_lstA _ _ _ _ (@pa_cons _ _ _ _ _ (@pe_str _ _ _ _) (@pa_cons _ _ _ _ _ (@pe_str _ _ _ _) (@pa_cons _ _ _ _ _ (@pe_str _ _ _ _) (@pa_nil _) (by rfl)) (by rfl)) (by rfl)))) (@pg_name _ _ (4) _ sc_f_law_row.nd rfl (Or.inl rfl) (by first | exact .inl rfl | exact .inr rfl)) (@pss_cons _ _ _ _ _ (@ps_set _ _ (5) _ _ _ _ sc_f_law_row.nd rfl (Or.inl rfl) (@pe_call _ _ _ _ _ _ _ _ _ _ _ _ _ _ _ _ gf_law_draw (hr.mono (by decide)) (by rfl) T.m_f_law_draw T.k_f_law_draw T.d_f_law_draw .nil pass0 (@pa_cons _ _ _ _ _ (@pv _ 0 _ _ rfl (Or.inl rfl) rfl rfl) (@pa_cons _ _ _ _ _ (@pe_int _ _ _ _) (@pa_nil _) (by rfl)) (by rfl)) (by decide) (by rfl) (by rfl)) (by rfl) (by first | exact .inl rfl | exact .inr rfl)) (@pss_one _ _ _ (@ps_if _ _ _ _ _ _ _ _ (@pt_cmpR _ _ _ _ _ _ _ _ op_gt (@pv _ 5 _ _ rfl (Or.inl rfl) rfl rfl) (@pe_int _ _ _ _) (nomark _)) (@pss_one _ _ _ (@ps_expr _ _ _ _ (@pe_bm _ _ _ _ _ _ _ _ _ _ _ _ PySem.F.plainAttrs_list PySem.F.slot_list_append PySem.F.type_list_append mt_append (@pv _ 3 _ _ rfl (Or.inl rfl) rfl rfl) (@pa_cons _ _ _ _ _ (@pe_tupA _ _ _ _ _ (@pa_cons _ _ _ _ _ (@pv _ 4 _ _ rfl (Or.inl rfl) rfl rfl) (@pa_cons _ _ _ _ _ (@pe_ix _ _ _ _ _ _ _ ix_list (@pe_lstA _ _ _ _ (@pa_cons _ _ _ _ _ (@pe_str _ _ _ _) (@pa_cons _ _ _ _ _ (@pe_str _ _ _ _) (@pa_nil _) (by rfl)) (by rfl))) (@pe_op _ _ _ _ _ _ _ _ op_sub (@pv _ 5 _ _ rfl (Or.inl rfl) rfl rfl) (@pe_int _ _ _ _)) (fun _ _ => rfl)) (@pa_nil _) (by rfl)) (by rfl))) (@pa_nil _) (by rfl)) (by rfl) (by rfl) (by rfl) (by rfl) (by rfl)) (by rfl))) (@pss_nil _)))) (by intro _; rfl)) (@pss_cons _ _ _ _ _ (@ps_set _ _ (6) _ _ _ _ sc_f_law_row.nd rfl (Or.inl rfl) (@pe_ix _ _ _ _ _ _ _ ix_list (@pe_lstA _ _ _ _ (@pa_cons _ _ _ _ _ (@pe_str _ _ _ _) (@pa_cons _ _ _ _ _ (@pe_str _ _ _ _) (@pa_cons _ _ _ _ _ (@pe_str _ _ _ _) (@pa_cons _ _ _ _ _ (@pe_str _ _ _ _) (@pa_cons _ _ _ _ _ (@pe_str _ _ _ _) (@pa_cons _ _ _ _ _ (@pe_str _ _ _ _) (@pa_cons _ _ _ _ _ (@pe_str _ _ _ _) (@pa_cons _ _ _ _ _ (@pe_str _ _ _ _) (@pa_cons _ _ _ _ _ (@pe_str _ _ _ _) (@pa_nil _) (by rfl)) (by rfl)) (by rfl)) (by rfl)) (by rfl)) (by rfl)) (by rfl)) (by rfl)) (by rfl))) (@pe_call _ _ _ _ _ _ _ _ _ _ _ _ _ _ _ _ gf_law_draw (hr.mono (by decide)) (by rfl) T.m_f_law_draw T.k_f_law_draw T.d_f_law_draw .nil pass0 (@pa_cons _ _ _ _ _ (@pv _ 0 _ _ rfl (Or.inl rfl) rfl rfl) (@pa_cons _ _ _ _ _ (@pe_int _ _ _ _) (@pa_nil _) (by rfl)) (by rfl)) (by decide) (by rfl) (by rfl)) (fun _ _ => rfl)) (by rfl) (by first | exact .inl rfl | exact .inr rfl)) (@pss_one _ _ _ (@ps_expr _ _ _ _ (@pe_bm _ _ _ _ _ _ _ _ _ _ _ _ PySem.F.plainAttrs_list PySem.F.slot_list_append PySem.F.type_list_append mt_append (@pv _ 1 _ _ rfl (Or.inl rfl) rfl rfl) (@pa_cons _ _ _ _ _ (@pe_tupA _ _ _ _ _ (@pa_cons _ _ _ _ _ (@pe_tupA _ _ _ _ _ (@pa_cons _ _ _ _ _ (@pe_str _ _ _ _) (@pa_cons _ _ _ _ _ (@pe_op _ _ _ _ _ _ _ _ op_add (@pe_int _ _ _ _) (@pv _ 2 _ _ rfl (Or.inl rfl) rfl rfl)) (@pa_cons _ _ _ _ _ (@pe_int _ _ _ _) (@pa_nil _) (by rfl)) (by rfl)) (by rfl))) (@pa_cons _ _ _ _ _ (@pv _ 6 _ _ rfl (Or.inl rfl) rfl rfl) (@pa_cons _ _ _ _ _ (@pv _ 3 _ _ rfl (Or.inl rfl) rfl rfl) (@pa_nil _) (by rfl)) (by rfl)) (by rfl))) (@pa_nil _) (by rfl)) (by rfl) (by rfl) (by rfl) (by rfl) (by rfl)) (by rfl)))))) (by intro _; rfl)) (@pss_one _ _ _ (@ps_ret _ _ _ _ (@pv _ 1 _ _ rfl (Or.inl rfl) rfl rfl))))), ?_⟩
  obtain ⟨p, s, S, rfl, hp, hSp, hS, kk⟩ := h
  have sF0 : Same (del H p) H := del_same
  refine ⟨szOk rfl, fun rp H1 g1 s1 e1 => ?_⟩
  have npr : rp ≠ p := (ne_of_none hp g1).symm
  refine ⟨_, rfl, p, s, 15, rfl, s1 _ _ hp, by decide, by decide, ?_⟩
  have hn := dn_hi s (q := 15) (by decide)
  have q0 := dv_lo s (q := 15) (by decide)
  have q1 := dv_hi s (q := 15) (by decide)
  refine ⟨_, rfl, by omega, by omega, for_range (lo := 0) (n := dn s 15) (fun j σ X => ∃ (xs : List V) (u2 u3 u4 u5 u6 : Option V), σ = [some (.ref p), some (.ref rp), u2, u3, u4, u5, u6] ∧ Same (del H p) X ∧ X p = some (dl (itS (ds s 15) j)) ∧ X rp = some (.lst xs) ∧ DXs (dels X (fun b => S b ∨ b = rp)) xs (rwD j (rT (ds s 15)) (rW (ds s 15)))) ⟨[], none, none, none, none, none, rfl, ?_, upd_same, by rw [upd_ne npr]; exact e1, .nil⟩ ?_ ?_⟩
  · exact (sF0.trans s1).wr del_at
  · rintro j σ X hj ⟨xs, u2, u3, u4, u5, u6, rfl, sX, eXp, eXr, dX⟩
    refine ⟨szOk rfl, fun mp X1 gm sm em => ?_⟩
    have nmp : mp ≠ p := (ne_of_none eXp gm).symm
    have nmr : mp ≠ rp := (ne_of_none eXr gm).symm
    refine ⟨szOk rfl, fun kp X2 gk sk ek => ?_⟩
    have c1 : Same (dels X (fun b => S b ∨ b = rp)) (dels X2 (fun b => S b ∨ b = rp ∨ b = mp)) := by
      refine (ds_grow sm fun b z => ?_).trans (Same.dels sk)
      rcases z with z | z | z
      · exact .inl (.inl z)
      · exact .inl (.inr z)
      · rw [z]; exact .inr gm
    have nkp : kp ≠ p := (ne_of_none (sm _ _ eXp) gk).symm
    have nkr : kp ≠ rp := (ne_of_none (sm _ _ eXr) gk).symm
    have nkm : kp ≠ mp := (ne_of_none em gk).symm
    have fX2 := (sX.trans sm).trans sk
    have hkp : ¬ (S kp ∨ kp = rp ∨ kp = mp) := fun z => by rcases z with z | z | z; exact fresh_no hS (sX.trans sm) gk nkp z; exact nkr z; exact nkm z
    refine ⟨kp, rfl, ⟨_, SqL.of ek⟩, for_list (xs := kds.map V.str) (fun i σ Y => ∃ (ys : List V) (u4 u5 : Option V), σ = [some (.ref p), some (.ref rp), some (.int (0 + (j : Int))), some (.ref mp), u4, u5, u6] ∧ Same (del H p) Y ∧ Same (dels X2 (fun b => S b ∨ b = rp ∨ b = mp)) (dels Y (fun b => S b ∨ b = rp ∨ b = mp)) ∧ Y p = some (dl (itd 3 (itS (ds s 15) j) i)) ∧ Y rp = some (.lst xs) ∧ Y mp = some (.lst ys) ∧ ys.length ≤ i ∧ DXs (dels Y (fun b => S b ∨ b = rp ∨ b = mp)) ys (mkL (rW (ds s 15)) j i)) ⟨[], u4, u5, rfl, fX2, Same.refl _, sk _ _ (sm _ _ eXp), sk _ _ (sm _ _ eXr), sk _ _ em, Nat.le_refl _, .nil⟩ (fun i σ Y _ ⟨_, _, _, _, _, s', _⟩ => SqL.of (dels_same _ _ (s' _ _ (ds_get ek hkp)))) ?_ ?_⟩
    · rintro i x σ Y hx ⟨ys, u4, u5, rfl, fY, sY, eYp, eYr, eYm, hyl, dY⟩
      have hi : i < 3 := (List.getElem?_eq_some_iff.mp hx).1
      have ex : x = .str (kiS i) := by
        rw [List.getElem?_map] at hx
        unfold kiS
        rw [List.getD_eq_getElem?_getD]
        cases q : kds[i]? with
        | none => rw [q] at hx; cases hx
        | some z => rw [q] at hx; exact (Option.some.inj hx).symm
      subst ex
      refine ⟨_, rfl, p, _, 3, rfl, eYp, by decide, by decide, ?_⟩
      have ew : dv (itd 3 (itS (ds s 15) j) i) 3 = ((rW (ds s 15) i j : Nat) : Int) := dn_eq _ (q := 3) (by decide)
      have hw : rW (ds s 15) i j < 3 := dn_hi _ (q := 3) (by decide)
      have sY1 := sY.trans (ds_wr (H := Y) (S := fun b => S b ∨ b = rp ∨ b = mp) (p := p) (o := dl (ds (itd 3 (itS (ds s 15) j) i) 3)) (.inl hSp))
      have dY1 := dY.same (ds_wr (H := Y) (S := fun b => S b ∨ b = rp ∨ b = mp) (p := p) (o := dl (ds (itd 3 (itS (ds s 15) j) i) 3)) (.inl hSp))
      have fY1 : Same (del H p) (upd Y p (dl (ds (itd 3 (itS (ds s 15) j) i) 3))) := fY.wr del_at
      have eY1p : (upd Y p (dl (ds (itd 3 (itS (ds s 15) j) i) 3))) p = some (dl (itd 3 (itS (ds s 15) j) (i + 1))) := upd_same
      have eY1r : (upd Y p (dl (ds (itd 3 (itS (ds s 15) j) i) 3))) rp = some (.lst xs) := by rw [upd_ne npr]; exact eYr
      have eY1m : (upd Y p (dl (ds (itd 3 (itS (ds s 15) j) i) 3))) mp = some (.lst ys) := by rw [upd_ne nmp]; exact eYm
      generalize upd Y p (dl (ds (itd 3 (itS (ds s 15) j) i) 3)) = Y1 at sY1 dY1 eY1p eY1r eY1m fY1
      rw [ew]
      refine ⟨_, rfl, _, _, rfl, rfl, _, rfl, ?_⟩
      by_cases h0 : rW (ds s 15) i j = 0
      · refine itF (decide_eq_false (by rw [h0]; decide)) ⟨ys, _, _, rfl, fY1, sY1, eY1p, eY1r, eY1m, by omega, ?_⟩
        rw [mkL_succ, if_pos h0, List.append_nil]
        exact dY1
      · refine itT (decide_eq_true (by omega)) ?_
        refine ⟨_, rfl, .inl ⟨rfl, _, SqL.of eY1m⟩, _, rfl, szOk rfl, fun tp Y2 g2 s2 e2 => ?_⟩
        refine ⟨_, rfl, _, _, rfl, rfl, tp, _, _, _, rfl, rfl, SqL.of e2, vl_at (by omega) h0, szOk rfl, fun tq Y3 g3 s3 e3 => ?_⟩
        have s23 := s2.trans s3
        refine ⟨mp, _, _, rfl, rfl, s23 _ _ eY1m, huge (by omega), ?_⟩
        have cc : Same (dels Y1 (fun b => S b ∨ b = rp ∨ b = mp)) (dels (upd Y3 mp (.lst (ys ++ [.ref tq]))) (fun b => S b ∨ b = rp ∨ b = mp)) := (Same.dels s23).trans (ds_wr (.inr (.inr rfl)))
        have ntp : tq ≠ p := (ne_of_none (s2 _ _ eY1p) g3).symm
        have ntr : tq ≠ rp := (ne_of_none (s2 _ _ eY1r) g3).symm
        have ntm : tq ≠ mp := (ne_of_none (s2 _ _ eY1m) g3).symm
        refine ⟨ys ++ [.ref tq], _, _, rfl, (fY1.trans s23).wr (del_fresh sX gm), sY1.trans cc, by rw [upd_ne nmp.symm]; exact s23 _ _ eY1p, by rw [upd_ne nmr.symm]; exact s23 _ _ eY1r, upd_same, by rw [List.length_append, List.length_singleton]; omega, ?_⟩
        rw [mkL_succ, if_neg h0]
        refine (dY1.same cc).snoc (.tup (ds_get (by rw [upd_ne ntm]; exact e3) fun z => ?_) (.cons (.str _) (.cons (.str _) .nil)))
        rcases z with z | z | z
        · exact fresh_no hS (fY1.trans s2) g3 ntp z
        · exact ntr z
        · exact ntm z
    · rintro σ Y ⟨ys, u4, u5, rfl, fY, sY, eYp, eYr, eYm, hyl, dY⟩
      have e3 : (List.map V.str kds).length = 3 := rfl
      rw [e3] at eYp dY hyl
      refine ⟨szOk rfl, fun tp Y1 g1' s1' e1' => ?_⟩
      refine ⟨_, rfl, p, _, 9, rfl, s1' _ _ eYp, by decide, by decide, ?_⟩
      have et : dv (itd 3 (itS (ds s 15) j) 3) 9 = ((rT (ds s 15) j : Nat) : Int) := dn_eq _ (q := 9) (by decide)
      have ht : rT (ds s 15) j < 9 := dn_hi _ (q := 9) (by decide)
      have ntpp : tp ≠ p := (ne_of_none eYp g1').symm
      have c2 : Same (dels Y (fun b => S b ∨ b = rp ∨ b = mp)) (dels (upd Y1 p (dl (ds (itd 3 (itS (ds s 15) j) 3) 9))) (fun b => S b ∨ b = rp ∨ b = mp)) := (Same.dels s1').trans (ds_wr (.inl hSp))
      have fZ : Same (del H p) (upd Y1 p (dl (ds (itd 3 (itS (ds s 15) j) 3) 9))) := (fY.trans s1').wr del_at
      have eZp : (upd Y1 p (dl (ds (itd 3 (itS (ds s 15) j) 3) 9))) p = some (dl (itS (ds s 15) (j + 1))) := upd_same
      have eZr : (upd Y1 p (dl (ds (itd 3 (itS (ds s 15) j) 3) 9))) rp = some (.lst xs) := by rw [upd_ne npr]; exact s1' _ _ eYr
      have eZm : (upd Y1 p (dl (ds (itd 3 (itS (ds s 15) j) 3) 9))) mp = some (.lst ys) := by rw [upd_ne nmp]; exact s1' _ _ eYm
      have eZt : (upd Y1 p (dl (ds (itd 3 (itS (ds s 15) j) 3) 9))) tp = some (.lst (txs.map V.str)) := by rw [upd_ne ntpp]; exact e1'
      generalize upd Y1 p (dl (ds (itd 3 (itS (ds s 15) j) 3) 9)) = Z at c2 eZp eZr eZm eZt fZ
      refine ⟨tp, _, _, .str (tx (rT (ds s 15) j)), rfl, rfl, SqL.of eZt, ?_, ?_⟩
      · show atI (txs.map V.str) (dv (itd 3 (itS (ds s 15) j) 3) 9) = _
        rw [et]
        exact str_at (l := txs) ht
      refine ⟨_, rfl, .inl ⟨rfl, _, SqL.of eZr⟩, _, rfl, _, _, rfl, rfl, szOk rfl, fun t1 Z1 h1 z1 w1 => ?_⟩
      refine ⟨_, rfl, _, rfl, szOk rfl, fun t2 Z2 h2 z2 w2 => ?_⟩
      have z12 := z1.trans z2
      refine ⟨rp, _, _, rfl, rfl, z12 _ _ eZr, huge (by rw [dX.len]; unfold rwD; rw [List.length_map, List.length_range]; omega), ?_⟩
      have n1p : t1 ≠ p := (ne_of_none eZp h1).symm
      have n1r : t1 ≠ rp := (ne_of_none eZr h1).symm
      have n2p : t2 ≠ p := (ne_of_none (z1 _ _ eZp) h2).symm
      have n2r : t2 ≠ rp := (ne_of_none (z1 _ _ eZr) h2).symm
      have c3 : Same (dels Z (fun b => S b ∨ b = rp ∨ b = mp)) (dels (upd Z2 rp (.lst (xs ++ [.ref t2]))) (fun b => S b ∨ b = rp ∨ b = mp)) := (Same.dels z12).trans (ds_wr (.inr (.inl rfl)))
      have c4 : Same (dels (upd Z2 rp (.lst (xs ++ [.ref t2]))) (fun b => S b ∨ b = rp ∨ b = mp)) (dels (upd Z2 rp (.lst (xs ++ [.ref t2]))) (fun b => S b ∨ b = rp)) := ds_grow (Same.refl _) fun b z => by
        rcases z with z | z
        · exact .inl (.inl z)
        · exact .inl (.inr (.inl z))
      have c24 := (c2.trans c3).trans c4
      have call := (c1.trans sY).trans c24
      have no : ∀ {X : Hp} b, Same (del H p) X → X b = none → b ≠ p → b ≠ rp → ¬ (S b ∨ b = rp) := fun b f g a c z => by
        rcases z with z | z
        · exact fresh_no hS f g a z
        · exact c z
      refine ⟨xs ++ [.ref t2], _, _, _, _, _, rfl, (fZ.trans z12).wr (del_free g1), by rw [upd_ne npr.symm]; exact z12 _ _ eZp, upd_same, ?_⟩
      rw [rwD_succ]
      refine (dX.same call).snoc (.tup (ds_get (by rw [upd_ne n2r]; exact w2) (no _ (fZ.trans z1) h2 n2p n2r)) (.cons (.tup (ds_get (by rw [upd_ne n1r]; exact z2 _ _ w1) (no _ fZ h1 n1p n1r)) (.cons (.str _) (.cons ?_ (.cons (.int _) .nil)))) (.cons (.str _) (.cons (.lst (ds_get (by rw [upd_ne nmr]; exact z12 _ _ eZm) (no _ sX gm nmp nmr)) (dY.same c24)) .nil))))
      rw [show (5 : Int) + (j : Int) = 5 + (0 + (j : Int)) from by omega]
      exact .int _
  · rintro σ X ⟨xs, u2, u3, u4, u5, u6, rfl, sX, eXp, eXr, dX⟩
    refine ⟨_, rfl, kk X rp sX eXp (.lst (ds_get eXr fun z => hS _ z g1) (dX.same (dels_up fun b z => .inl z)))⟩
theorem ok_f_law_notes (T : Txt K mg d tk) (gf_law_draw : FnOk P w K mg base CX0 1 d.f_law_draw d.f_law_drawd ["_law_drawn_here", "_law_many"] (sp_f_law_draw K)) : FnOk P w K mg base CX0 2 d.f_law_notes d.f_law_notesd ["_law_drawn_here", "_law_row_here"] (sp_f_law_notes K) := by
  refine T.F_f_law_notes.ok sc_f_law_notes (fun vs H Q E h => len_f_law_notes h) (fun cdv A outer s H vs Q E hr h => ?_)
  have hu : (A.deeper (envOfC "_law_notes" (defScope s_f_law_notes) s.heap.objs.size d.f_law_notes cdv)).units < cLine := hr.units0
  refine ⟨_, (@pss_cons _ _ _ _ _ (@ps_set _ _ (2) _ _ _ _ sc_f_law_notes.nd rfl (Or.inl rfl) (@pe_lstA _ _ _ _ (@pa_nil _)) (by rfl) (by first | exact .inl rfl | exact .inr rfl)) (@pss_cons _ _ _ _ _ (@ps_for _ _ _ _ _ _ _ _ PassesOwn.never rfl (@pi_range1 _ _ _ _ _ _ (by rfl) T.b_range (@pa_cons _ _ _ _ _ (@pe_call _ _ _ _ _ _ _ _ _ _ _ _ _ _ _ _ gf_law_draw (hr.mono (by decide)) (by rfl) T.m_f_law_draw T.k_f_law_draw T.d_f_law_draw .nil pass0 (@pa_cons _ _ _ _ _ (@pv _ 0 _ _ rfl (Or.inl rfl) rfl rfl) (@pa_cons _ _ _ _ _ (@pe_int _ _ _ _) (@pa_nil _) (by rfl)) (by rfl)) (by decide) (by rfl) (by rfl)) (@pa_nil _) (by rfl)) (by rfl)) (@pg_name _ _ (3) _ sc_f_law_notes.nd rfl (Or.inl rfl) (by first | exact .inl rfl | exact .inr rfl)) (@pss_cons _ _ _ _ _ (@ps_set _ _ (4) _ _ _ _ sc_f_law_notes.nd rfl (Or.inl rfl) (@pe_op _ _ _ _ _ _ _ _ op_catA (@pe_lcomp _ _ _ _ _ _ _ (["_law_told"]) ([]) _ _ _ _ _ rfl (@pi_list _ _ _ _ (@pv _ 1 _ _ rfl (Or.inl rfl) rfl rfl)) ⟨rfl, by decide +kernel, by decide +kernel⟩ (caps0 (by decide +kernel)) (fun _ _ _ => (@pg_name _ _ (0) _ (by show List.Nodup (["_law_told"] : List Str); decide +kernel) rfl (Or.inl rfl) (by first | exact .inl rfl | exact .inr rfl))) (fun _ => fresh_name rfl) (fun _ _ _ => (@pts_nil _)) (fun _ _ _ => (@pe_ix _ _ _ _ _ _ _ (ix_tupK (K := K) rfl) (@pv _ 0 _ _ rfl (Or.inl rfl) rfl rfl) (@pe_int _ _ _ _) (fun _ _ => rfl))) (by intro _; rfl)) (@pe_lstA _ _ _ _ (@pa_cons _ _ _ _ _ (@pe_non _ _ _) (@pa_nil _) (by rfl)))) (by rfl) (by first | exact .inl rfl | exact .inr rfl)) (@pss_one _ _ _ (@ps_expr _ _ _ _ (@pe_bm _ _ _ _ _ _ _ _ _ _ _ _ PySem.F.plainAttrs_list PySem.F.slot_list_append PySem.F.type_list_append mt_append (@pv _ 2 _ _ rfl (Or.inl rfl) rfl rfl) (@pa_cons _ _ _ _ _ (@pe_tupA _ _ _ _ _ (@pa_cons _ _ _ _ _ (@pe_tupA _ _ _ _ _ (@pa_cons _ _ _ _ _ (@pe_str _ _ _ _) (@pa_cons _ _ _ _ _ (@pe_op _ _ _ _ _ _ _ _ op_add (@pe_int _ _ _ _) (@pv _ 3 _ _ rfl (Or.inl rfl) rfl rfl)) (@pa_nil _) (by rfl)) (by rfl))) (@pa_cons _ _ _ _ _ (@pe_ix _ _ _ _ _ _ _ ix_list (@pe_lstA _ _ _ _ (@pa_cons _ _ _ _ _ (@pe_str _ _ _ _) (@pa_cons _ _ _ _ _ (@pe_str _ _ _ _) (@pa_nil _) (by rfl)) (by rfl))) (@pe_op _ _ _ _ _ _ _ _ op_mod (@pv _ 3 _ _ rfl (Or.inl rfl) rfl rfl) (@pe_int _ _ _ _)) (fun _ _ => rfl)) (@pa_cons _ _ _ _ _ (@pe_ix _ _ _ _ _ _ _ ix_list (@pv _ 4 _ _ rfl (Or.inl rfl) rfl rfl) (@pe_call _ _ _ _ _ _ _ _ _ _ _ _ _ _ _ _ gf_law_draw (hr.mono (by decide)) (by rfl) T.m_f_law_draw T.k_f_law_draw T.d_f_law_draw .nil pass0 (@pa_cons _ _ _ _ _ (@pv _ 0 _ _ rfl (Or.inl rfl) rfl rfl) (@pa_cons _ _ _ _ _ (@pe_callB _ _ _ _ _ _ _ _ _ call_len_seq (by rfl) T.b_len boot_len (@pa_cons _ _ _ _ _ (@pv _ 4 _ _ rfl (Or.inl rfl) rfl rfl) (@pa_nil _) (by rfl)) (by decide) (by decide) (by rfl) (by rfl)) (@pa_nil _) (by rfl)) (by rfl)) (by decide) (by rfl) (by rfl)) (fun _ _ => rfl)) (@pa_nil _) (by rfl)) (by rfl)) (by rfl))) (@pa_nil _) (by rfl)) (by rfl) (by rfl) (by rfl) (by rfl) (by rfl)) (by rfl)))) (by intro _; rfl)) (@pss_one _ _ _ (@ps_ret _ _ _ _ (@pv _ 2 _ _ rfl (Or.inl rfl) rfl rfl))))), ?_⟩
  obtain ⟨p, s, v, n, t, ww, S, rfl, hp, hSp, hS, hv, hn, kk⟩ := h
  have sF0 : Same (del H p) H := del_same
  refine ⟨szOk rfl, fun np H1 g1 s1 e1 => ?_⟩
  have npr : np ≠ p := (ne_of_none hp g1).symm
  refine ⟨_, rfl, p, s, 4, rfl, s1 _ _ hp, by decide, by decide, ?_⟩
  have hm := dn_hi s (q := 4) (by decide)
  have q0 := dv_lo s (q := 4) (by decide)
  have q1 := dv_hi s (q := 4) (by decide)
  refine ⟨_, rfl, by omega, by omega, for_range (lo := 0) (n := dn s 4) (fun j σ X => ∃ (xs : List V) (u3 u4 : Option V), σ = [some (.ref p), some v, some (.ref np), u3, u4] ∧ Same (del H p) X ∧ Same (dels H S) (dels X (fun b => S b ∨ b = np)) ∧ X p = some (dl (itd ((n + 1 : Nat) : Int) (ds s 4) j)) ∧ X np = some (.lst xs) ∧ xs.length = j ∧ DXs (dels X (fun b => S b ∨ b = np)) xs ((List.range j).map (ntD n (nG (ds s 4) n)))) ⟨[], none, none, rfl, (sF0.trans s1).wr del_at, ?_, upd_same, by rw [upd_ne npr]; exact e1, rfl, .nil⟩ ?_ ?_⟩
  · refine (ds_grow s1 fun b z => ?_).trans (ds_wr (.inl hSp))
    rcases z with z | z
    · exact .inl z
    · rw [z]; exact .inr g1
  · rintro j σ X hj ⟨xs, u3, u4, rfl, fX, sX, eXp, eXn, hxl, dX⟩
    have hvX := hv.same sX
    obtain ⟨vp, rs, rfl, erD, dr⟩ := hvX.lst_inv
    have er := dels_same _ _ erD
    have hrl : rs.length = n := by rw [dr.len]; unfold rwD; rw [List.length_map, List.length_range]
    refine ⟨_, rfl, vp, rfl, ⟨_, SqL.of er⟩, lc_any (xs := rs) (big (by omega)) (fun i zs Y => Y = X ∧ zs.length = i ∧ DXs (dels X (fun b => S b ∨ b = np)) zs ((List.range i).map nmD)) ⟨rfl, rfl, .nil⟩ (fun _ _ Y ⟨h, _⟩ => by rw [h]; exact SqL.of er) (fun i y zs Y K1 K0 hy ⟨hY, hz, dz⟩ k1 k0 => ?_) fun Y q ys ⟨hY, hz, dz⟩ _ hq => ?_⟩
    · subst hY
      obtain ⟨dd, hd, hdx⟩ := dr.get hy
      have hi : i < n := by rw [← hrl]; exact (List.getElem?_eq_some_iff.mp hy).1
      unfold rwD at hd
      rw [List.getElem?_map, List.getElem?_range hi] at hd
      cases hd
      obtain ⟨b, x1, x2, x3, rfl, eb, d1, _, _⟩ := hdx.three
      refine ⟨_, rfl, b, _, 0, x1, rfl, rfl, SqT.of (dels_same _ _ eb), rfl, k1 _ _ ⟨rfl, by rw [List.length_append, hz]; rfl, ?_⟩⟩
      rw [List.range_succ, List.map_append]
      exact dz.snoc d1
    subst hY
    rw [hrl] at hz dz
    have nqp : q ≠ p := (ne_of_none eXp hq).symm
    have nqn : q ≠ np := (ne_of_none eXn hq).symm
    have sA : Same Y (upd Y q (.lst ys)) := Same.new hq
    refine ⟨szOk rfl, fun q2 X2 g2 s2 e2 => ⟨q, q2, _, _, rfl, rfl, s2 _ _ upd_same, e2, big (by show ys.length + 1 ≤ 1000; omega), fun nq X3 g3 s3 e3 => ?_⟩⟩
    have sB := (sA.trans s2).trans s3
    have nnp : nq ≠ p := (ne_of_none ((sA.trans s2) _ _ eXp) g3).symm
    have nnn : nq ≠ np := (ne_of_none ((sA.trans s2) _ _ eXn) g3).symm
    have eBp := sB _ _ eXp
    have eBn := sB _ _ eXn
    have dB := dX.same (Same.dels (S := fun b => S b ∨ b = np) sB)
    have zB := dz.same (Same.dels (S := fun b => S b ∨ b = np) sB)
    have cB := sX.trans (Same.dels sB)
    have hyl : (ys ++ [V.non]).length = n + 1 := by rw [List.length_append, hz]; rfl
    refine ⟨_, rfl, .inl ⟨rfl, _, SqL.of eBn⟩, _, rfl, _, _, rfl, rfl, szOk rfl, fun t1 Z1 h1 z1 w1 => ?_⟩
    refine ⟨szOk rfl, fun l1 Z2 h2 z2 w2 => ⟨_, rfl, _, _, rfl, rfl, (by show (0 : Int) < 2; decide), l1, _, _, .str (ntW j), rfl, rfl, SqL.of w2, ?_, ?_⟩⟩
    · rw [show (0 : Int) + (j : Int) = (j : Int) from by omega]
      exact nt_at j
    have z12 := z1.trans z2
    refine ⟨_, rfl, _, rfl, _, rfl, nq, _, rfl, .inl (SqL.of (z12 _ _ e3)), p, _, _, rfl, z12 _ _ eBp, by rw [hyl]; omega, by rw [hyl]; omega, ?_⟩
    rw [hyl]
    have eg : dv (itd ((n + 1 : Nat) : Int) (ds s 4) j) ((n + 1 : Nat) : Int) = ((nG (ds s 4) n j : Nat) : Int) := dn_eq _ (q := n + 1) (by omega)
    have hg : nG (ds s 4) n j < n + 1 := dn_hi _ (q := n + 1) (by omega)
    have c2 : Same (dels X3 (fun b => S b ∨ b = np)) (dels (upd Z2 p (dl (ds (itd ((n + 1 : Nat) : Int) (ds s 4) j) ((n + 1 : Nat) : Int)))) (fun b => S b ∨ b = np)) := (Same.dels z12).trans (ds_wr (.inl hSp))
    have n1p : t1 ≠ p := (ne_of_none eBp h1).symm
    have n1n : t1 ≠ np := (ne_of_none eBn h1).symm
    have fC : Same (del H p) (upd Z2 p (dl (ds (itd ((n + 1 : Nat) : Int) (ds s 4) j) ((n + 1 : Nat) : Int)))) := ((fX.trans sB).trans z12).wr del_at
    have eCp : (upd Z2 p (dl (ds (itd ((n + 1 : Nat) : Int) (ds s 4) j) ((n + 1 : Nat) : Int)))) p = some (dl (itd ((n + 1 : Nat) : Int) (ds s 4) (j + 1))) := upd_same
    have eCn : (upd Z2 p (dl (ds (itd ((n + 1 : Nat) : Int) (ds s 4) j) ((n + 1 : Nat) : Int)))) np = some (.lst xs) := by rw [upd_ne npr]; exact z12 _ _ eBn
    have eCq : (upd Z2 p (dl (ds (itd ((n + 1 : Nat) : Int) (ds s 4) j) ((n + 1 : Nat) : Int)))) nq = some (.lst (ys ++ [.non])) := by rw [upd_ne nnp]; exact z12 _ _ e3
    have eC1 : (upd Z2 p (dl (ds (itd ((n + 1 : Nat) : Int) (ds s 4) j) ((n + 1 : Nat) : Int)))) t1 = some (.tup [.str "bo", .int (30 + (0 + (j : Int)))]) := by rw [upd_ne n1p]; exact z2 _ _ w1
    generalize upd Z2 p (dl (ds (itd ((n + 1 : Nat) : Int) (ds s 4) j) ((n + 1 : Nat) : Int))) = C at c2 eCp eCn eCq eC1 fC
    obtain ⟨vv, hvv, dvv⟩ : ∃ vv, (ys ++ [V.non])[nG (ds s 4) n j]? = some vv ∧ DX (dels C (fun b => S b ∨ b = np)) vv (if nG (ds s 4) n j < n then nmD (nG (ds s 4) n j) else .none) := by
      by_cases hh : nG (ds s 4) n j < n
      · rw [if_pos hh]
        obtain ⟨vv, a, b⟩ := (zB.same c2).at (i := nG (ds s 4) n j) (d := nmD (nG (ds s 4) n j)) (by rw [List.getElem?_map, List.getElem?_range hh]; rfl)
        exact ⟨vv, by rw [List.getElem?_append_left (by rw [hz]; exact hh)]; exact a, b⟩
      · have e' : nG (ds s 4) n j = n := by omega
        rw [if_neg hh]
        exact ⟨.non, by rw [e', List.getElem?_append_right (by omega), hz]; simp, .non⟩
    refine ⟨nq, _, _, vv, rfl, rfl, SqL.of eCq, by rw [eg]; exact atI_nat hvv, szOk rfl, fun t2 D h3 z3 w3 => ?_⟩
    refine ⟨np, _, _, rfl, rfl, z3 _ _ eCn, huge (by omega), ?_⟩
    have n2p : t2 ≠ p := (ne_of_none eCp h3).symm
    have n2n : t2 ≠ np := (ne_of_none eCn h3).symm
    have c3 : Same (dels C (fun b => S b ∨ b = np)) (dels (upd D np (.lst (xs ++ [.ref t2]))) (fun b => S b ∨ b = np)) := (Same.dels z3).trans (ds_wr (.inr rfl))
    have no : ∀ {X : Hp} b, Same (del H p) X → X b = none → b ≠ p → b ≠ np → ¬ (S b ∨ b = np) := fun b f g a c z => by
      rcases z with z | z
      · exact fresh_no hS f g a z
      · exact c z
    refine ⟨xs ++ [.ref t2], _, _, rfl, (fC.trans z3).wr (del_free g1), (cB.trans c2).trans c3, by rw [upd_ne npr.symm]; exact z3 _ _ eCp, upd_same, by rw [List.length_append, hxl]; rfl, ?_⟩
    rw [List.range_succ, List.map_append]
    refine ((dB.same c2).same c3).snoc (.tup (ds_get (by rw [upd_ne n2n]; exact w3) (no _ fC h3 n2p n2n)) (.cons (.tup (ds_get (by rw [upd_ne n1n]; exact z3 _ _ eC1) (no _ (fX.trans sB) h1 n1p n1n)) (.cons (.str _) (.cons ?_ .nil))) (.cons (.str _) (.cons (dvv.same c3) .nil))))
    rw [show (30 : Int) + (j : Int) = 30 + (0 + (j : Int)) from by omega]
    exact .int _
  · rintro σ X ⟨xs, u3, u4, rfl, fX, sX, eXp, eXn, hxl, dX⟩
    refine ⟨_, rfl, kk X np fX eXp (.lst (ds_get eXn fun z => hS _ z g1) (dX.same (dels_up fun b z => .inl z)))⟩
theorem ok_f_law_table (T : Txt K mg d tk) (gf_law_draw : FnOk P w K mg base CX0 1 d.f_law_draw d.f_law_drawd ["_law_drawn_here", "_law_many"] (sp_f_law_draw K)) : FnOk P w K mg base CX0 2 d.f_law_table d.f_law_tabled ["_law_drawn_here"] (sp_f_law_table K) := by
  refine T.F_f_law_table.ok sc_f_law_table (fun vs H Q E h => len_f_law_table h) (fun cdv A outer s H vs Q E hr h => ?_)
  have hu : (A.deeper (envOfC "_law_table" (defScope s_f_law_table) s.heap.objs.size d.f_law_table cdv)).units < cLine := hr.units0
  refine ⟨_, (@pss_cons _ _ _ _ _ (@ps_setC _ (1) _ _ _ _ _ _ _ _ _ (["_law_k"]) ([]) _ _ _ _ _ sc_f_law_table.nd rfl (Or.inl rfl) rfl (@pi_range1 _ _ _ _ _ _ (by rfl) T.b_range (@pa_cons _ _ _ _ _ (@pe_call _ _ _ _ _ _ _ _ _ _ _ _ _ _ _ _ gf_law_draw (hr.mono (by decide)) (by rfl) T.m_f_law_draw T.k_f_law_draw T.d_f_law_draw .nil pass0 (@pa_cons _ _ _ _ _ (@pv _ 0 _ _ rfl (Or.inr (Or.inl rfl)) rfl rfl) (@pa_cons _ _ _ _ _ (@pe_int _ _ _ _) (@pa_nil _) (by rfl)) (by rfl)) (by decide) (by rfl) (by rfl)) (@pa_nil _) (by rfl)) (by rfl)) ⟨rfl, by decide +kernel, by decide +kernel⟩ (caps0 (by decide +kernel)) (fun _ _ _ => (@pg_name _ _ (0) _ (by show List.Nodup (["_law_k"] : List Str); decide +kernel) rfl (Or.inl rfl) (by first | exact .inl rfl | exact .inr rfl))) (fun _ => fresh_name rfl) (fun _ _ _ => (@pts_nil _)) (fun _ _ _ => (@pe_tupA _ _ _ _ _ (@pa_cons _ _ _ _ _ (@pe_str _ _ _ _) (@pa_cons _ _ _ _ _ (@pe_op _ _ _ _ _ _ _ _ op_add (@pe_int _ _ _ _) (@pv _ 0 _ _ rfl (Or.inl rfl) rfl rfl)) (@pa_nil _) (by rfl)) (by rfl)))) (by intro _; rfl) (by rfl) (by first | exact .inl rfl | exact .inr rfl)) (@pss_cons _ _ _ _ _ (@ps_setC _ (2) _ _ _ _ _ _ _ _ _ (["_law_k"]) ([]) _ _ _ _ _ sc_f_law_table.nd rfl (Or.inl rfl) rfl (@pi_range1 _ _ _ _ _ _ (by rfl) T.b_range (@pa_cons _ _ _ _ _ (@pe_call _ _ _ _ _ _ _ _ _ _ _ _ _ _ _ _ gf_law_draw (hr.mono (by decide)) (by rfl) T.m_f_law_draw T.k_f_law_draw T.d_f_law_draw .nil pass0 (@pa_cons _ _ _ _ _ (@pv _ 0 _ _ rfl (Or.inr (Or.inl rfl)) rfl rfl) (@pa_cons _ _ _ _ _ (@pe_int _ _ _ _) (@pa_nil _) (by rfl)) (by rfl)) (by decide) (by rfl) (by rfl)) (@pa_nil _) (by rfl)) (by rfl)) ⟨rfl, by decide +kernel, by decide +kernel⟩ (caps0 (by decide +kernel)) (fun _ _ _ => (@pg_name _ _ (0) _ (by show List.Nodup (["_law_k"] : List Str); decide +kernel) rfl (Or.inl rfl) (by first | exact .inl rfl | exact .inr rfl))) (fun _ => fresh_name rfl) (fun _ _ _ => (@pts_nil _)) (fun _ _ _ => (@pe_tupA _ _ _ _ _ (@pa_cons _ _ _ _ _ (@pe_str _ _ _ _) (@pa_cons _ _ _ _ _ (@pe_op _ _ _ _ _ _ _ _ op_add (@pe_int _ _ _ _) (@pv _ 0 _ _ rfl (Or.inl rfl) rfl rfl)) (@pa_nil _) (by rfl)) (by rfl)))) (by intro _; rfl) (by rfl) (by first | exact .inl rfl | exact .inr rfl)) (@pss_cons _ _ _ _ _ (@ps_set _ _ (3) _ _ _ _ sc_f_law_table.nd rfl (Or.inl rfl) (@pe_lstA _ _ _ _ (@pa_nil _)) (by rfl) (by first | exact .inl rfl | exact .inr rfl)) (@pss_cons _ _ _ _ _ (@ps_for _ _ _ _ _ _ _ _ PassesOwn.never rfl (@pi_list _ _ _ _ (@pv _ 1 _ _ rfl (Or.inl rfl) rfl rfl)) (@pg_name _ _ (4) _ sc_f_law_table.nd rfl (Or.inl rfl) (by first | exact .inl rfl | exact .inr rfl)) (@pss_one _ _ _ (@ps_expr _ _ _ _ (@pe_bm _ _ _ _ _ _ _ _ _ _ _ _ PySem.F.plainAttrs_list PySem.F.slot_list_append PySem.F.type_list_append mt_append (@pv _ 3 _ _ rfl (Or.inl rfl) rfl rfl) (@pa_cons _ _ _ _ _ (@pe_lcomp _ _ _ _ _ _ _ (["_law_column"]) ([("_law_drawn_here", 0)]) _ _ _ _ _ rfl (@pi_list _ _ _ _ (@pv _ 2 _ _ rfl (Or.inl rfl) rfl rfl)) ⟨rfl, by decide +kernel, by decide +kernel⟩ (caps_def (defScope s_f_law_table) ["_law_drawn_here", "_law_rows", "_law_columns", "_law_words", "_law_row_here"] rfl rfl (fun _ h => cell_has h) (by decide +kernel) (by decide +kernel) (by decide +kernel)) (fun _ _ _ => (@pg_name _ _ (0) _ (by show List.Nodup (["_law_column", "_law_drawn_here"] : List Str); decide +kernel) rfl (Or.inl rfl) (by first | exact .inl rfl | exact .inr rfl))) (fun _ => fresh_name rfl) (fun _ _ _ => (@pts_nil _)) (fun _ _ _ => (@pe_ix _ _ _ _ _ _ _ (ix_listK (K := K) rfl) (@pe_lstA _ _ _ _ (@pa_cons _ _ _ _ _ (@pe_str _ _ _ _) (@pa_cons _ _ _ _ _ (@pe_str _ _ _ _) (@pa_cons _ _ _ _ _ (@pe_str _ _ _ _) (@pa_nil _) (by rfl)) (by rfl)) (by rfl))) (@pe_call _ _ _ _ _ _ _ _ _ _ _ _ _ _ _ _ gf_law_draw (hr.mono (by decide)) (by rfl) T.m_f_law_draw T.k_f_law_draw T.d_f_law_draw .nil pass0 (@pa_cons _ _ _ _ _ (@pv _ 1 _ _ rfl (Or.inr (Or.inl rfl)) rfl rfl) (@pa_cons _ _ _ _ _ (@pe_int _ _ _ _) (@pa_nil _) (by rfl)) (by rfl)) (by decide) (by rfl) (by rfl)) (fun _ _ => rfl))) (by intro _; rfl)) (@pa_nil _) (by rfl)) (by rfl) (by rfl) (by rfl) (by rfl) (by rfl)) (by rfl))) (by intro _; rfl)) (@pss_one _ _ _ (@ps_ret _ _ _ _ (@pe_tupA _ _ _ _ _ (@pa_cons _ _ _ _ _ (@pv _ 1 _ _ rfl (Or.inl rfl) rfl rfl) (@pa_cons _ _ _ _ _ (@pv _ 2 _ _ rfl (Or.inl rfl) rfl rfl) (@pa_cons _ _ _ _ _ (@pv _ 3 _ _ rfl (Or.inl rfl) rfl rfl) (@pa_nil _) (by rfl)) (by rfl)) (by rfl))))))))), ?_⟩
  obtain ⟨p, s, S, rfl, hp, hSp, hS, kk⟩ := h
  have sF0 : Same (del H p) H := del_same
  have hr4 := dn_hi s (q := 4) (by decide)
  have q0 := dv_lo s (q := 4) (by decide)
  have q1 := dv_hi s (q := 4) (by decide)
  have hc4 := dn_hi (ds s 4) (q := 4) (by decide)
  have q2 := dv_lo (ds s 4) (q := 4) (by decide)
  have q3 := dv_hi (ds s 4) (q := 4) (by decide)
  refine ⟨_, rfl, p, s, 4, rfl, hp, by decide, by decide, ?_⟩
  refine ⟨_, rfl, by omega, by omega, lc_range (n := dn s 4) (big (by omega)) (fun i ys X => ys.length = i ∧ Same (del H p) X ∧ X p = some (dl (ds s 4)) ∧ DXs (dels X S) ys ((List.range i).map (liD 50))) ⟨rfl, sF0.wr del_at, upd_same, .nil⟩ (fun i ys X K1 K0 hi ⟨hl, sX, eX, dX⟩ k1 k0 => ?_) fun X rq ys ⟨hl, sX, eX, dX⟩ _ hq => ?_⟩
  · refine ⟨_, rfl, _, _, rfl, rfl, szOk rfl, fun t1 Z h1 z1 w1 => k1 _ _ ⟨by rw [List.length_append, hl]; rfl, sX.trans z1, z1 _ _ eX, ?_⟩⟩
    have n1 : t1 ≠ p := (ne_of_none eX h1).symm
    rw [List.range_succ, List.map_append]
    refine (dX.same (Same.dels z1)).snoc (.tup (ds_get w1 (fresh_no hS sX h1 n1)) (.cons (.str _) (.cons ?_ .nil)))
    rw [show (50 : Int) + (i : Int) = 50 + (0 + (i : Int)) from by omega]
    exact .int _
  have nrq : rq ≠ p := (ne_of_none eX hq).symm
  have hSr : ¬ S rq := fresh_no hS sX hq nrq
  have sA : Same (del H p) (upd X rq (.lst ys)) := sX.trans (Same.new hq)
  have eAp : (upd X rq (.lst ys)) p = some (dl (ds s 4)) := by rw [upd_ne nrq.symm]; exact eX
  have dA : DX (dels (upd X rq (.lst ys)) S) (.ref rq) (.list ((List.range (dn s 4)).map (liD 50))) := .lst (ds_get upd_same hSr) (dX.same (Same.dels (Same.new hq)))
  have eAr : (upd X rq (.lst ys)) rq = some (.lst ys) := upd_same
  generalize upd X rq (.lst ys) = A0 at sA eAp dA eAr
  refine ⟨_, rfl, p, _, 4, rfl, eAp, by decide, by decide, ?_⟩
  refine ⟨_, rfl, by omega, by omega, lc_range (n := dn (ds s 4) 4) (big (by omega)) (fun i zs X => zs.length = i ∧ Same (del H p) X ∧ Same (dels A0 S) (dels X S) ∧ X p = some (dl (ds (ds s 4) 4)) ∧ DXs (dels X S) zs ((List.range i).map (liD 60))) ⟨rfl, sA.wr del_at, ds_wr hSp, upd_same, .nil⟩ (fun i zs X K1 K0 hi ⟨hl, fX, sX, eX, dX⟩ k1 k0 => ?_) fun X cq zs ⟨hzl, fX, sX, eX, dX⟩ _ hq => ?_⟩
  · refine ⟨_, rfl, _, _, rfl, rfl, szOk rfl, fun t1 Z h1 z1 w1 => k1 _ _ ⟨by rw [List.length_append, hl]; rfl, fX.trans z1, sX.trans (Same.dels z1), z1 _ _ eX, ?_⟩⟩
    have n1 : t1 ≠ p := (ne_of_none eX h1).symm
    rw [List.range_succ, List.map_append]
    refine (dX.same (Same.dels z1)).snoc (.tup (ds_get w1 (fresh_no hS fX h1 n1)) (.cons (.str _) (.cons ?_ .nil)))
    rw [show (60 : Int) + (i : Int) = 60 + (0 + (i : Int)) from by omega]
    exact .int _
  have ncq : cq ≠ p := (ne_of_none eX hq).symm
  have hSc : ¬ S cq := fresh_no hS fX hq ncq
  have fB : Same (del H p) (upd X cq (.lst zs)) := fX.trans (Same.new hq)
  have cB : Same (dels A0 S) (dels (upd X cq (.lst zs)) S) := sX.trans (Same.dels (Same.new hq))
  have eBp : (upd X cq (.lst zs)) p = some (dl (ds (ds s 4) 4)) := by rw [upd_ne ncq.symm]; exact eX
  have dB : DX (dels (upd X cq (.lst zs)) S) (.ref cq) (.list ((List.range (dn (ds s 4) 4)).map (liD 60))) := .lst (ds_get upd_same hSc) (dX.same (Same.dels (Same.new hq)))
  have dA' := dA.same cB
  have eBr : (upd X cq (.lst zs)) rq = some (.lst ys) := dels_same _ _ (cB _ _ (ds_get eAr hSr))
  have eBc : (upd X cq (.lst zs)) cq = some (.lst zs) := upd_same
  generalize upd X cq (.lst zs) = B at cB eBp dB dA' eBr eBc fB
  clear dA
  refine ⟨szOk rfl, fun wq B1 gw sw ew => ?_⟩
  have nwp : wq ≠ p := (ne_of_none eBp gw).symm
  have nwr : wq ≠ rq := (ne_of_none eBr gw).symm
  have nwc : wq ≠ cq := (ne_of_none eBc gw).symm
  have hSw : ¬ S wq := fresh_no hS fB gw nwp
  have c1 : Same (dels B S) (dels B1 (fun b => S b ∨ b = wq)) := ds_grow sw fun b z => by
    rcases z with z | z
    · exact .inl z
    · rw [z]; exact .inr gw
  have no : ∀ b, ¬ S b → b ≠ wq → ¬ (S b ∨ b = wq) := fun b a c z => by
    rcases z with z | z
    · exact a z
    · exact c z
  refine ⟨_, rfl, rq, rfl, ⟨_, SqL.of (sw _ _ eBr)⟩, for_list (xs := ys) (fun i σ Y => ∃ (vs : List V) (u4 : Option V), σ = [some (.ref p), some (.ref rq), some (.ref cq), some (.ref wq), u4] ∧ Same (del H p) Y ∧ Same (dels B1 (fun b => S b ∨ b = wq)) (dels Y (fun b => S b ∨ b = wq)) ∧ Y p = some (dl (itd 3 (ds (ds s 4) 4) (i * dn (ds s 4) 4))) ∧ Y wq = some (.lst vs) ∧ vs.length = i ∧ DXs (dels Y (fun b => S b ∨ b = wq)) vs ((List.range i).map fun i => .list (wdL (dn (ds s 4) 4) (tX (ds (ds s 4) 4) (dn (ds s 4) 4) i)))) ⟨[], none, rfl, fB.trans sw, Same.refl _, by rw [Nat.zero_mul]; exact sw _ _ eBp, ew, rfl, .nil⟩ (fun i σ Y _ ⟨_, _, _, _, s', _⟩ => SqL.of (dels_same _ _ (s' _ _ (ds_get (sw _ _ eBr) (no _ hSr nwr.symm))))) ?_ ?_⟩
  · rintro i x σ Y hx ⟨vs, u4, rfl, fY, sY, eYp, eYw, hvl, dY⟩
    have hiy : i < ys.length := (List.getElem?_eq_some_iff.mp hx).1
    have eYc : Y cq = some (.lst zs) := dels_same _ _ (sY _ _ (ds_get (sw _ _ eBc) (no _ hSc nwc.symm)))
    refine ⟨_, rfl, .inl ⟨rfl, _, SqL.of eYw⟩, _, rfl, cq, rfl, ⟨_, SqL.of eYc⟩, lc_any (xs := zs) (big (by omega)) (fun j ws Z => ws.length = j ∧ Same (del H p) Z ∧ Same (dels Y (fun b => S b ∨ b = wq)) (dels Z (fun b => S b ∨ b = wq)) ∧ Z p = some (dl (itd 3 (ds (ds s 4) 4) (i * dn (ds s 4) 4 + j))) ∧ Z wq = some (.lst vs) ∧ ws = (List.range j).map fun j => V.str (wd (tX (ds (ds s 4) 4) (dn (ds s 4) 4) i j))) ⟨rfl, fY, Same.refl _, eYp, eYw, rfl⟩ (fun j ws Z ⟨_, _, s', _⟩ => SqL.of (dels_same _ _ (s' _ _ (ds_get eYc (no _ hSc nwc.symm))))) (fun j y ws Z K1 K0 hy ⟨hwl, fZ, sZ, eZp, eZw, hws⟩ k1 k0 => ?_) fun Z lq ws ⟨hwl, fZ, sZ, eZp, eZw, hws⟩ _ hlq => ?_⟩
    · refine ⟨szOk rfl, fun l1 Z1 g1 z1 w1 => ?_⟩
      have n1 : l1 ≠ p := (ne_of_none eZp g1).symm
      refine ⟨_, rfl, p, _, 3, rfl, z1 _ _ eZp, by decide, by decide, ?_⟩
      have ex : dv (itd 3 (ds (ds s 4) 4) (i * dn (ds s 4) 4 + j)) 3 = ((tX (ds (ds s 4) 4) (dn (ds s 4) 4) i j : Nat) : Int) := dn_eq _ (q := 3) (by decide)
      have hx3 : tX (ds (ds s 4) 4) (dn (ds s 4) 4) i j < 3 := dn_hi _ (q := 3) (by decide)
      refine ⟨l1, _, _, .str (wd (tX (ds (ds s 4) 4) (dn (ds s 4) 4) i j)), rfl, rfl, SqL.of (by rw [upd_ne n1]; exact w1), by rw [ex]; exact str_at (l := wds) hx3, k1 _ _ ⟨by rw [List.length_append, hwl]; rfl, (fZ.trans z1).wr del_at, sZ.trans ((Same.dels z1).trans (ds_wr (.inl hSp))), upd_same, by rw [upd_ne nwp]; exact z1 _ _ eZw, ?_⟩⟩
      rw [hws, List.range_succ, List.map_append]
      rfl
    · have hwc : ws.length = dn (ds s 4) 4 := by rw [hwl, hzl]
      have nlp : lq ≠ p := (ne_of_none eZp hlq).symm
      have nlw : lq ≠ wq := (ne_of_none eZw hlq).symm
      refine ⟨wq, _, _, rfl, rfl, by rw [upd_ne nlw.symm]; exact eZw, huge (by omega), ?_⟩
      have c2 : Same (dels Y (fun b => S b ∨ b = wq)) (dels (upd (upd Z lq (.lst ws)) wq (.lst (vs ++ [.ref lq]))) (fun b => S b ∨ b = wq)) := (sZ.trans (Same.dels (Same.new hlq))).trans (ds_wr (.inr rfl))
      refine ⟨vs ++ [.ref lq], _, rfl, (fZ.trans (Same.new hlq)).wr (del_fresh fB gw), sY.trans c2, ?_, upd_same, by rw [List.length_append, hvl]; rfl, ?_⟩
      · rw [upd_ne nwp.symm, upd_ne nlp.symm, eZp, Nat.succ_mul, hzl]
      · rw [List.range_succ, List.map_append]
        refine (dY.same c2).snoc (.lst (ds_get (by rw [upd_ne nlw, upd_same]) (no _ (fresh_no hS fZ hlq nlp) nlw)) ?_)
        rw [hws, hzl]
        exact DXs.strs _ _
  · rintro σ Y ⟨vs, u4, rfl, fY, sY, eYp, eYw, hvl, dY⟩
    rw [hl] at dY
    refine ⟨_, rfl, _, rfl, _, rfl, szOk rfl, fun tq Z gz sz ez => ?_⟩
    have ntp : tq ≠ p := (ne_of_none eYp gz).symm
    have cY := ((c1.trans sY).trans (dels_up (S' := S) fun b z => .inl z)).trans (Same.dels sz)
    exact kk Z tq _ (fY.trans sz) (sz _ _ eYp) (.tup (ds_get ez (fresh_no hS fY gz ntp)) (.cons (dA'.same cY) (.cons (dB.same cY) (.cons (.lst (ds_get (sz _ _ eYw) hSw) (dY.same ((dels_up (S' := S) fun b z => .inl z).trans (Same.dels sz)))) .nil))))
theorem ok_f_law_marks (T : Txt K mg d tk) (gf_law_value : FnOk P w K mg base CX0 1 d.f_law_value d.f_law_valued ["_law_told", "_law_kind"] (sp_f_law_value K)) : FnOk P w K mg base CX0 2 d.f_law_marks d.f_law_marksd ["_law_row_here"] (sp_f_law_marks K) := by
  refine T.F_f_law_marks.ok sc_f_law_marks (fun vs H Q E h => len_f_law_marks h) (fun cdv A outer s H vs Q E hr h => ?_)
  have hu : (A.deeper (envOfC "_law_marks" (defScope s_f_law_marks) s.heap.objs.size d.f_law_marks cdv)).units < cLine := hr.units0
  refine ⟨_, (@pss_cons _ _ _ _ _ (@ps_set _ _ (1) _ _ _ _ sc_f_law_marks.nd rfl (Or.inl rfl) (@pe_lstA _ _ _ _ (@pa_nil _)) (by rfl) (by first | exact .inl rfl | exact .inr rfl)) (@pss_cons _ _ _ _ _ (@ps_for _ _ _ _ _ _ _ _ PassesOwn.never rfl (@pi_list _ _ _ _ (@pe_lstA _ _ _ _ (@pa_cons _ _ _ _ _ (@pe_str _ _ _ _) (@pa_cons _ _ _ _ _ (@pe_str _ _ _ _) (@pa_cons _ _ _ _ _ (@pe_str _ _ _ _) (@pa_nil _) (by rfl)) (by rfl)) (by rfl)))) (@pg_name _ _ (2) _ sc_f_law_marks.nd rfl (Or.inl rfl) (by first | exact .inl rfl | exact .inr rfl)) (@pss_cons _ _ _ _ _ (@ps_set _ _ (3) _ _ _ _ sc_f_law_marks.nd rfl (Or.inl rfl) (@pe_int _ _ _ _) (by rfl) (by first | exact .inl rfl | exact .inr rfl)) (@pss_one _ _ _ (@ps_for _ _ _ _ _ _ _ _ PassesOwn.never rfl (@pi_range2 _ _ _ _ _ _ _ (by rfl) T.b_range (@pa_cons _ _ _ _ _ (@pe_int _ _ _ _) (@pa_cons _ _ _ _ _ (@pe_op _ _ _ _ _ _ _ _ op_add (@pe_callB _ _ _ _ _ _ _ _ _ call_len_seq (by rfl) T.b_len boot_len (@pa_cons _ _ _ _ _ (@pv _ 0 _ _ rfl (Or.inl rfl) rfl rfl) (@pa_nil _) (by rfl)) (by decide) (by decide) (by rfl) (by rfl)) (@pe_int _ _ _ _)) (@pa_nil _) (by rfl)) (by rfl)) (by rfl) (by rfl)) (@pg_name _ _ (4) _ sc_f_law_marks.nd rfl (Or.inl rfl) (by first | exact .inl rfl | exact .inr rfl)) (@pss_cons _ _ _ _ _ (@ps_set _ _ (5) _ _ _ _ sc_f_law_marks.nd rfl (Or.inl rfl) (@pe_call _ _ _ _ _ _ _ _ _ _ _ _ _ _ _ _ gf_law_value (hr.mono (by decide)) (by rfl) T.m_f_law_value T.k_f_law_value T.d_f_law_value .nil pass0 (@pa_cons _ _ _ _ _ (@pe_ix _ _ _ _ _ _ _ ix_list (@pv _ 0 _ _ rfl (Or.inl rfl) rfl rfl) (@pv _ 3 _ _ rfl (Or.inl rfl) rfl rfl) (fun _ _ => rfl)) (@pa_cons _ _ _ _ _ (@pv _ 2 _ _ rfl (Or.inl rfl) rfl rfl) (@pa_nil _) (by rfl)) (by rfl)) (by decide) (by rfl) (by rfl)) (by rfl) (by first | exact .inl rfl | exact .inr rfl)) (@pss_one _ _ _ (@ps_if _ _ _ _ _ _ _ _ (@pt_post _ _ _ (@PW.pt _ _ _ (@pw_or _ _ _ _ _ _ _ (@pt_cmpR _ _ _ _ _ _ _ _ op_eq (@pv _ 4 _ _ rfl (Or.inl rfl) rfl rfl) (@pe_callB _ _ _ _ _ _ _ _ _ call_len_seq (by rfl) T.b_len boot_len (@pa_cons _ _ _ _ _ (@pv _ 0 _ _ rfl (Or.inl rfl) rfl rfl) (@pa_nil _) (by rfl)) (by decide) (by decide) (by rfl) (by rfl)) (nomark _)) (@pw_or1 _ _ _ _ (@pt_cmpR _ _ _ _ _ _ _ _ op_ne (@pe_call _ _ _ _ _ _ _ _ _ _ _ _ _ _ _ _ gf_law_value (hr.mono (by decide)) (by rfl) T.m_f_law_value T.k_f_law_value T.d_f_law_value .nil pass0 (@pa_cons _ _ _ _ _ (@pe_ix _ _ _ _ _ _ _ ix_list (@pv _ 0 _ _ rfl (Or.inl rfl) rfl rfl) (@pv _ 4 _ _ rfl (Or.inl rfl) rfl rfl) (fun _ _ => rfl)) (@pa_cons _ _ _ _ _ (@pv _ 2 _ _ rfl (Or.inl rfl) rfl rfl) (@pa_nil _) (by rfl)) (by rfl)) (by decide) (by rfl) (by rfl)) (@pv _ 5 _ _ rfl (Or.inl rfl) rfl rfl) (nomark _)))))) (@pss_cons _ _ _ _ _ (@ps_if _ _ _ _ _ _ _ _ (@pt_cmpR _ _ _ _ _ _ _ _ op_ne (@pv _ 5 _ _ rfl (Or.inl rfl) rfl rfl) (@pe_str _ _ _ _) (nomark _)) (@pss_one _ _ _ (@ps_expr _ _ _ _ (@pe_bm _ _ _ _ _ _ _ _ _ _ _ _ PySem.F.plainAttrs_list PySem.F.slot_list_append PySem.F.type_list_append mt_append (@pv _ 1 _ _ rfl (Or.inl rfl) rfl rfl) (@pa_cons _ _ _ _ _ (@pe_bm _ _ _ _ _ _ _ _ _ _ _ _ PySem.F.plainAttrs_str PySem.F.slot_str_join PySem.F.type_str_join mt_join (@pe_str _ _ _ _) (@pa_cons _ _ _ _ _ (@pe_lstA _ _ _ _ (@pa_cons _ _ _ _ _ (@pe_str _ _ _ _) (@pa_cons _ _ _ _ _ (@pv _ 2 _ _ rfl (Or.inl rfl) rfl rfl) (@pa_cons _ _ _ _ _ (@pv _ 5 _ _ rfl (Or.inl rfl) rfl rfl) (@pa_cons _ _ _ _ _ (@pe_callTy _ _ _ _ _ _ _ _ _ call_strV (by rfl) T.b_str boot_str (@pa_cons _ _ _ _ _ (@pv _ 3 _ _ rfl (Or.inl rfl) rfl rfl) (@pa_nil _) (by rfl)) (by decide) (by decide) (by rfl) (by rfl)) (@pa_cons _ _ _ _ _ (@pe_callTy _ _ _ _ _ _ _ _ _ call_strV (by rfl) T.b_str boot_str (@pa_cons _ _ _ _ _ (@pe_op _ _ _ _ _ _ _ _ op_sub (@pv _ 4 _ _ rfl (Or.inl rfl) rfl rfl) (@pe_int _ _ _ _)) (@pa_nil _) (by rfl)) (by decide) (by decide) (by rfl) (by rfl)) (@pa_nil _) (by rfl)) (by rfl)) (by rfl)) (by rfl)) (by rfl))) (@pa_nil _) (by rfl)) (by rfl) (by rfl) (by rfl) (by rfl) (by rfl)) (@pa_nil _) (by rfl)) (by rfl) (by rfl) (by rfl) (by rfl) (by rfl)) (by rfl))) (@pss_nil _)) (@pss_one _ _ _ (@ps_set _ _ (3) _ _ _ _ sc_f_law_marks.nd rfl (Or.inl rfl) (@pv _ 4 _ _ rfl (Or.inl rfl) rfl rfl) (by rfl) (by first | exact .inl rfl | exact .inr rfl)))) (@pss_nil _)))) (by intro _; rfl)))) (by intro _; rfl)) (@pss_one _ _ _ (@ps_ret _ _ _ _ (@pv _ 1 _ _ rfl (Or.inl rfl) rfl rfl))))), ?_⟩
  obtain ⟨v, n, t, ww, rfl, hv, hn, hw, kk⟩ := h
  obtain ⟨p, rs, rfl, er, dr⟩ := hv.lst_inv
  have hrl : rs.length = n := by rw [dr.len]; unfold rwD; rw [List.length_map, List.length_range]
  refine ⟨szOk rfl, fun rw H1 g1 s1 e1 => ?_⟩
  refine ⟨szOk rfl, fun kp H2 g2 s2 e2 => ?_⟩
  have nkr : kp ≠ rw := (ne_of_none e1 g2).symm
  refine ⟨kp, rfl, ⟨_, SqL.of e2⟩, for_list (xs := kds.map V.str) (fun i σ X => ∃ u2 u3 u4 u5, σ = [some (.ref p), some (.ref rw), u2, u3, u4, u5] ∧ Same H X ∧ X kp = some (.lst (kds.map V.str)) ∧ X rw = some (.lst ((rpr ww n i).map fun c => .str (mT ww c)))) ⟨none, none, none, none, rfl, s1.trans s2, e2, s2 _ _ e1⟩ (fun i σ X _ ⟨_, _, _, _, _, _, s', _⟩ => SqL.of s') ?_ ?_⟩
  · rintro i x σ X hx ⟨u2, u3, u4, u5, rfl, sX, eXk, eXr⟩
    have hi : i < 3 := (List.getElem?_eq_some_iff.mp hx).1
    have ex : x = .str (kiS i) := by
      rw [List.getElem?_map] at hx
      unfold kiS
      rw [List.getD_eq_getElem?_getD]
      cases q : kds[i]? with
      | none => rw [q] at hx; cases hx
      | some z => rw [q] at hx; exact (Option.some.inj hx).symm
    subst ex
    have eXp := sX _ _ er
    refine ⟨_, rfl, p, _, rfl, .inl (SqL.of eXp), _, _, rfl, rfl, ?_⟩
    refine ⟨_, _, rfl, ⟨by decide, by decide, by omega, by omega⟩, ?_⟩
    rw [show (((rs.length : Nat) : Int) + 1 - 1).toNat = n from by omega]
    refine for_range (lo := 1) (n := n) (fun j σ Y => ∃ bg u4 u5, σ = [some (.ref p), some (.ref rw), some (.str (kiS i)), some (.int ((bg : Nat) : Int)), u4, u5] ∧ Same H Y ∧ Y kp = some (.lst (kds.map V.str)) ∧ Y rw = some (.lst ((rpr ww n i ++ acc ww n i j).map fun c => .str (mT ww c))) ∧ (j < n → bg = fb ww i j)) ⟨0, u4, u5, rfl, sX, eXk, by rw [acc_0, List.append_nil]; exact eXr, fun _ => rfl⟩ ?_ ?_
    · rintro j σ Y hj ⟨bg, u4, u5, rfl, sY, eYk, eYr, hbg⟩
      have hb := hbg hj
      subst hb
      have hfj := fb_le (W := ww) i j
      obtain ⟨x1, hx1, dx1⟩ := sg_at dr (k := fb ww i j) (by omega)
      have eYp := sY _ _ er
      refine ⟨_, rfl, _, rfl, p, _, _, x1, rfl, rfl, SqL.of eYp, atI_nat hx1, _, rfl, x1, i, t, ww, fb ww i j, rfl, dx1.same sY, hi, fun _ => hw _ _, fun Z sZ => ?_⟩
      rw [fb_w (W := ww)]
      have fZ := sY.trans sZ
      have eZr := sZ _ _ eYr
      have eZk := sZ _ _ eYk
      have hrp := rpr_len ww n i
      have hac := acc_mem (W := ww) (n := n) (i := i) (j := j) (by omega)
      have h3 : i * (n + 1) ≤ 2 * (n + 1) := Nat.mul_le_mul_right _ (by omega)
      have ek1 : ((1 : Int) + (j : Int)) = ((j + 1 : Nat) : Int) := by omega
      refine ⟨fun b G => Same Z G ∧ (b = true → j + 1 = n ∨ ww i (j + 1) ≠ ww i j) ∧ (b = false → j + 1 < n ∧ ww i (j + 1) = ww i j), ?_, ?_⟩
      · refine ⟨_, rfl, _, rfl, p, _, rfl, .inl (SqL.of (fZ _ _ er)), rfl, _, rfl, ?_⟩
        by_cases hjn : j + 1 = n
        · exact itT (decide_eq_true (by rw [hrl, ← hjn, ek1])) ⟨Same.refl _, fun _ => .inl hjn, fun z => by cases z⟩
        · refine itF (decide_eq_false fun z => hjn (by injection z; omega)) ?_
          obtain ⟨x2, hx2, dx2⟩ := sg_at dr (k := j + 1) (by omega)
          refine ⟨_, rfl, _, rfl, p, _, _, x2, rfl, rfl, SqL.of (fZ _ _ er), by rw [ek1]; exact atI_nat hx2, _, rfl, x2, i, t, ww, j + 1, rfl, dx2.same fZ, hi, fun _ => hw _ _, fun G sG => ?_⟩
          refine ⟨_, rfl, rfl, _, rfl, ?_⟩
          by_cases hc : ww i (j + 1) = ww i j
          · refine ⟨sG, fun z => ?_, fun _ => ⟨by omega, hc⟩⟩
            rw [hc] at z
            rw [decide_eq_true rfl] at z
            cases z
          · refine ⟨sG, fun _ => .inr hc, fun z => ?_⟩
            rw [decide_eq_false fun y => hc (vl_inj (hw _ _) (hw _ _) (by injection y))] at z
            cases z
      · rintro b G ⟨sG, hT, hF⟩
        have fG := fZ.trans sG
        have eGr := sG _ _ eZr
        have eGk := sG _ _ eZk
        cases b with
        | false =>
          refine itF rfl ?_
          obtain ⟨h1, h2⟩ := hF rfl
          refine ⟨fb ww i j, _, _, rfl, fG, eGk, ?_, fun _ => ?_⟩
          · rw [acc_go h1, if_pos h2, List.append_nil]; exact eGr
          · rw [fb, if_pos h2]
        | true =>
          refine itT rfl ?_
          have hac2 : acc ww n i (j + 1) = acc ww n i j ++ op ww i (j + 1) := by
            rcases hT rfl with h1 | h1
            · exact acc_end h1
            · by_cases h2 : j + 1 = n
              · exact acc_end h2
              · rw [acc_go (by omega), if_neg h1]
          have hfb : j + 1 < n → j + 1 = fb ww i (j + 1) := fun h2 => by
            rcases hT rfl with h1 | h1
            · omega
            · rw [fb, if_neg h1]
          refine ⟨_, rfl, rfl, _, rfl, ?_⟩
          by_cases h0 : ww i j = 0
          · refine itF (by rw [h0]; decide +kernel) ?_
            refine ⟨_, rfl, ?_⟩
            show ∃ _, _
            refine ⟨j + 1, _, _, by rw [ek1]; rfl, fG, eGk, ?_, hfb⟩
            rw [hac2, op_succ, if_pos h0, List.append_nil]
            exact eGr
          · refine itT ?_ ?_
            · rw [decide_eq_false fun y => h0 (vl_inj (hw _ _) (by decide) (by injection y))]
              rfl
            have ej : (1 : Int) + (j : Int) - 1 = ((j : Nat) : Int) := by omega
            refine ⟨_, rfl, .inl ⟨rfl, _, SqL.of eGr⟩, rfl, _, rfl, _, rfl, _, rfl, _, rfl, .inr ⟨_, rfl, log_small (by omega)⟩, _, rfl, _, _, rfl, rfl, _, rfl, .inr ⟨_, rfl, by rw [ej]; exact log_small (by omega)⟩, szOk rfl, fun lq F gq fq eq => ?_⟩
            dsimp only at eq
            rw [ej] at eq
            have b1 := ki_len i
            have b2 := vl_len (ww i j)
            have b3 := sN_len (k := fb ww i j) (by omega)
            have b4 := sN_len (k := j) (by omega)
            have l1 : ("mark" : Str).length = 4 := by decide
            have l2 : (" " : Str).length = 1 := by decide
            refine ⟨_, lq, ["mark", kiS i, vl (ww i j), sN (fb ww i j), sN j], rfl, rfl, SqL.of eq, ?_, ?_⟩
            · simp only [List.map_cons, List.map_nil, List.sum_cons, List.sum_nil, List.length_cons, List.length_nil, l1, l2]
              omega
            refine ⟨rw, _, _, rfl, rfl, fq _ _ eGr, huge (by rw [List.length_map, List.length_append]; omega), ?_⟩
            have em : Txt.join " " ["mark", kiS i, vl (ww i j), sN (fb ww i j), sN j] = mT ww (i, fb ww i j, j) := by
              rw [← mark_join, fb_w (W := ww)]
            rw [em]
            refine ⟨_, rfl, ?_⟩
            show ∃ _, _
            refine ⟨j + 1, _, _, by rw [ek1]; rfl, (fG.trans fq).wr g1, by rw [upd_ne nkr]; exact fq _ _ eGk, ?_, hfb⟩
            rw [upd_same, hac2, op_succ, if_neg h0, ← List.append_assoc, List.map_append (l₂ := [_])]
            rfl
    · rintro σ Y ⟨bg, u4, u5, rfl, sY, eYk, eYr, hbg⟩
      refine ⟨_, _, _, _, rfl, sY, eYk, ?_⟩
      rw [show acc ww n i n = ed ww i n ++ op ww i n from if_pos rfl] at eYr
      exact eYr
  · rintro σ X ⟨u2, u3, u4, u5, rfl, sX, eXk, eXr⟩
    refine ⟨_, rfl, kk X rw sX ?_⟩
    rw [← rpr_3]
    exact eXr
theorem ok_fshown (T : Txt K mg d tk) (gfrows_of_entry : FnOk P w K mg base CX0 2 d.frows_of_entry d.frows_of_entryd ["entry"] (sp_frows_of_entry K)) : FnOk P w K mg base CX0 3 d.fshown d.fshownd ["entries"] (sp_fshown K) := by
  refine T.F_fshown.ok sc_fshown (fun vs H Q E h => len_fshown h) (fun cdv A outer s H vs Q E hr h => ?_)
  have hu : (A.deeper (envOfC "shown" (defScope s_fshown) s.heap.objs.size d.fshown cdv)).units < cLine := hr.units0
  refine ⟨_, (@pss_cons _ _ _ _ _ (@ps_set _ _ (1) _ _ _ _ sc_fshown.nd rfl (Or.inl rfl) (@pe_lstA _ _ _ _ (@pa_nil _)) (by rfl) (by first | exact .inl rfl | exact .inr rfl)) (@pss_cons _ _ _ _ _ (@ps_for _ _ _ _ _ _ _ _ PassesOwn.never rfl (@pi_list _ _ _ _ (@pv _ 0 _ _ rfl (Or.inl rfl) rfl rfl)) (@pg_name _ _ (2) _ sc_fshown.nd rfl (Or.inl rfl) (by first | exact .inl rfl | exact .inr rfl)) (@pss_one _ _ _ (@ps_expr _ _ _ _ (@pe_bm _ _ _ _ _ _ _ _ _ _ _ _ PySem.F.plainAttrs_list PySem.F.slot_list_extend PySem.F.type_list_extend mt_extend (@pv _ 1 _ _ rfl (Or.inl rfl) rfl rfl) (@pa_cons _ _ _ _ _ (@pe_call _ _ _ _ _ _ _ _ _ _ _ _ _ _ _ _ gfrows_of_entry (hr.mono (by decide)) (by rfl) T.m_frows_of_entry T.k_frows_of_entry T.d_frows_of_entry .nil pass0 (@pa_cons _ _ _ _ _ (@pv _ 2 _ _ rfl (Or.inl rfl) rfl rfl) (@pa_nil _) (by rfl)) (by decide) (by rfl) (by rfl)) (@pa_nil _) (by rfl)) (by rfl) (by rfl) (by rfl) (by rfl) (by rfl)) (by rfl))) (by intro _; rfl)) (@pss_one _ _ _ (@ps_ret _ _ _ _ (@pe_bm _ _ _ _ _ _ _ _ _ _ _ _ PySem.F.plainAttrs_str PySem.F.slot_str_join PySem.F.type_str_join mt_join (@pe_str _ _ _ _) (@pa_cons _ _ _ _ _ (@pv _ 1 _ _ rfl (Or.inl rfl) rfl rfl) (@pa_nil _) (by rfl)) (by rfl) (by rfl) (by rfl) (by rfl) (by rfl)))))), ?_⟩
  obtain ⟨v, N, En, rfl, hv, hN, hE, kk⟩ := h
  obtain ⟨p, xs, rfl, er, dr⟩ := hv.lst_inv
  have hrl : xs.length = N := by rw [dr.len, List.length_map, List.length_range]
  refine ⟨szOk rfl, fun rw H1 g1 s1 e1 => ?_⟩
  refine ⟨_, rfl, p, rfl, ⟨_, SqL.of (s1 _ _ er)⟩, for_list (xs := xs) (fun i σ X => ∃ u2, σ = [some (.ref p), some (.ref rw), u2] ∧ Same H X ∧ X rw = some (.lst (((List.range i).flatMap fun k => rowsT k (En k)).map V.str))) ⟨none, rfl, s1, e1⟩ (fun i σ X _ ⟨_, _, s', _⟩ => SqL.of (s' _ _ er)) ?_ ?_⟩
  · rintro i x σ X hx ⟨u2, rfl, sX, eX⟩
    have hi : i < N := by rw [← hrl]; exact (List.getElem?_eq_some_iff.mp hx).1
    obtain ⟨dd, hd, hdx⟩ := dr.get hx
    rw [List.getElem?_map, List.getElem?_range hi] at hd
    cases hd
    refine ⟨_, rfl, .inl ⟨rfl, _, SqL.of eX⟩, _, rfl, x, i, En i, rfl, hdx.same sX, hE i, fun X1 q sq eq => ?_⟩
    have l1 := docR_len hE i
    have l2 := (rowsT_len (k := i) (hE i)).2
    refine ⟨rw, q, _, _, rfl, rfl, sq _ _ eX, eq, big (by rw [List.length_map, List.length_map]; omega), ⟨_, rfl, (sX.trans sq).wr g1, ?_⟩⟩
    rw [upd_same, List.range_succ, List.flatMap_append, List.map_append, List.flatMap_singleton]
  · rintro σ X ⟨u2, rfl, sX, eX⟩
    rw [hrl] at eX
    refine ⟨rfl, _, rfl, _, rw, _, rfl, rfl, SqL.of eX, docR_sum hE hN, kk X sX⟩
theorem ok_f_law_document (T : Txt K mg d tk) (gf_law_cell_at : FnOk P w K mg base CX0 1 d.f_law_cell_at d.f_law_cell_atd ["_law_script", "_law_k"] (sp_f_law_cell_at K)) (gf_law_draw : FnOk P w K mg base CX0 1 d.f_law_draw d.f_law_drawd ["_law_drawn_here", "_law_many"] (sp_f_law_draw K)) (gf_law_drawn : FnOk P w K mg base CX0 1 d.f_law_drawn d.f_law_drawnd ["_law_cell", "_law_digits"] (sp_f_law_drawn K)) (gf_law_notes : FnOk P w K mg base CX0 2 d.f_law_notes d.f_law_notesd ["_law_drawn_here", "_law_row_here"] (sp_f_law_notes K)) (gf_law_row : FnOk P w K mg base CX0 2 d.f_law_row d.f_law_rowd ["_law_drawn_here"] (sp_f_law_row K)) (gf_law_table : FnOk P w K mg base CX0 2 d.f_law_table d.f_law_tabled ["_law_drawn_here"] (sp_f_law_table K)) : FnOk P w K mg base CX0 3 d.f_law_document d.f_law_documentd ["_law_script"] (sp_f_law_document K) := by
  refine T.F_f_law_document.ok sc_f_law_document (fun vs H Q E h => len_f_law_document h) (fun cdv A outer s H vs Q E hr h => ?_)
  have hu : (A.deeper (envOfC "_law_document" (defScope s_f_law_document) s.heap.objs.size d.f_law_document cdv)).units < cLine := hr.units0
  refine ⟨_, (@pss_cons _ _ _ _ _ (@ps_set _ _ (1) _ _ _ _ sc_f_law_document.nd rfl (Or.inl rfl) (@pe_cmpR _ _ _ _ _ _ _ _ op_eq (@pe_op _ _ _ _ _ _ _ _ op_mod (@pe_call _ _ _ _ _ _ _ _ _ _ _ _ _ _ _ _ gf_law_cell_at (hr.mono (by decide)) (by rfl) T.m_f_law_cell_at T.k_f_law_cell_at T.d_f_law_cell_at .nil pass0 (@pa_cons _ _ _ _ _ (@pv _ 0 _ _ rfl (Or.inl rfl) rfl rfl) (@pa_cons _ _ _ _ _ (@pe_int _ _ _ _) (@pa_nil _) (by rfl)) (by rfl)) (by decide) (by rfl) (by rfl)) (@pe_int _ _ _ _)) (@pe_int _ _ _ _) (nomark _)) (by rfl) (by first | exact .inl rfl | exact .inr rfl)) (@pss_cons _ _ _ _ _ (@ps_set _ _ (2) _ _ _ _ sc_f_law_document.nd rfl (Or.inl rfl) (@pe_lstA _ _ _ _ (@pa_nil _)) (by rfl) (by first | exact .inl rfl | exact .inr rfl)) (@pss_cons _ _ _ _ _ (@ps_for _ _ _ _ _ _ _ _ PassesOwn.never rfl (@pi_range1 _ _ _ _ _ _ (by rfl) T.b_range (@pa_cons _ _ _ _ _ (@pe_op _ _ _ _ _ _ _ _ op_add (@pe_int _ _ _ _) (@pe_op _ _ _ _ _ _ _ _ op_mod (@pe_op _ _ _ _ _ _ _ _ op_fdiv (@pe_call _ _ _ _ _ _ _ _ _ _ _ _ _ _ _ _ gf_law_cell_at (hr.mono (by decide)) (by rfl) T.m_f_law_cell_at T.k_f_law_cell_at T.d_f_law_cell_at .nil pass0 (@pa_cons _ _ _ _ _ (@pv _ 0 _ _ rfl (Or.inl rfl) rfl rfl) (@pa_cons _ _ _ _ _ (@pe_int _ _ _ _) (@pa_nil _) (by rfl)) (by rfl)) (by decide) (by rfl) (by rfl)) (@pe_int _ _ _ _)) (@pe_int _ _ _ _))) (@pa_nil _) (by rfl)) (by rfl)) (@pg_name _ _ (3) _ sc_f_law_document.nd rfl (Or.inl rfl) (by first | exact .inl rfl | exact .inr rfl)) (@pss_cons _ _ _ _ _ (@ps_set _ _ (4) _ _ _ _ sc_f_law_document.nd rfl (Or.inl rfl) (@pe_call _ _ _ _ _ _ _ _ _ _ _ _ _ _ _ _ gf_law_drawn (hr.mono (by decide)) (by rfl) T.m_f_law_drawn T.k_f_law_drawn T.d_f_law_drawn .nil pass0 (@pa_cons _ _ _ _ _ (@pe_call _ _ _ _ _ _ _ _ _ _ _ _ _ _ _ _ gf_law_cell_at (hr.mono (by decide)) (by rfl) T.m_f_law_cell_at T.k_f_law_cell_at T.d_f_law_cell_at .nil pass0 (@pa_cons _ _ _ _ _ (@pv _ 0 _ _ rfl (Or.inl rfl) rfl rfl) (@pa_cons _ _ _ _ _ (@pe_op _ _ _ _ _ _ _ _ op_add (@pe_int _ _ _ _) (@pv _ 3 _ _ rfl (Or.inl rfl) rfl rfl)) (@pa_nil _) (by rfl)) (by rfl)) (by decide) (by rfl) (by rfl)) (@pa_cons _ _ _ _ _ (@pv _ 1 _ _ rfl (Or.inl rfl) rfl rfl) (@pa_nil _) (by rfl)) (by rfl)) (by decide) (by rfl) (by rfl)) (by rfl) (by first | exact .inl rfl | exact .inr rfl)) (@pss_cons _ _ _ _ _ (@ps_set _ _ (5) _ _ _ _ sc_f_law_document.nd rfl (Or.inl rfl) (@pe_ix _ _ _ _ _ _ _ ix_list (@pe_lstA _ _ _ _ (@pa_cons _ _ _ _ _ (@pe_str _ _ _ _) (@pa_cons _ _ _ _ _ (@pe_str _ _ _ _) (@pa_cons _ _ _ _ _ (@pe_str _ _ _ _) (@pa_cons _ _ _ _ _ (@pe_str _ _ _ _) (@pa_cons _ _ _ _ _ (@pe_str _ _ _ _) (@pa_nil _) (by rfl)) (by rfl)) (by rfl)) (by rfl)) (by rfl))) (@pv _ 3 _ _ rfl (Or.inl rfl) rfl rfl) (fun _ _ => rfl)) (by rfl) (by first | exact .inl rfl | exact .inr rfl)) (@pss_cons _ _ _ _ _ (@ps_set _ _ (6) _ _ _ _ sc_f_law_document.nd rfl (Or.inl rfl) (@pe_ix _ _ _ _ _ _ _ ix_list (@pe_lstA _ _ _ _ (@pa_cons _ _ _ _ _ (@pe_tupA _ _ _ _ _ (@pa_cons _ _ _ _ _ (@pe_str _ _ _ _) (@pa_cons _ _ _ _ _ (@pe_int _ _ _ _) (@pa_nil _) (by rfl)) (by rfl))) (@pa_cons _ _ _ _ _ (@pe_tupA _ _ _ _ _ (@pa_cons _ _ _ _ _ (@pe_str _ _ _ _) (@pa_cons _ _ _ _ _ (@pe_op _ _ _ _ _ _ _ _ op_add (@pe_int _ _ _ _) (@pv _ 3 _ _ rfl (Or.inl rfl) rfl rfl)) (@pa_nil _) (by rfl)) (by rfl))) (@pa_nil _) (by rfl)) (by rfl))) (@pe_callTy _ _ _ _ _ _ _ _ _ call_int1 (by rfl) T.b_int boot_int (@pa_cons _ _ _ _ _ (@pe_cmpR _ _ _ _ _ _ _ _ op_gt (@pv _ 3 _ _ rfl (Or.inl rfl) rfl rfl) (@pe_int _ _ _ _) (nomark _)) (@pa_nil _) (by rfl)) (by decide) (by decide) (by rfl) (by rfl)) (fun _ _ => rfl)) (by rfl) (by first | exact .inl rfl | exact .inr rfl)) (@pss_one _ _ _ (@ps_if _ _ _ _ _ _ _ _ (@pt_cmpR _ _ _ _ _ _ _ _ op_eq (@pe_call _ _ _ _ _ _ _ _ _ _ _ _ _ _ _ _ gf_law_draw (hr.mono (by decide)) (by rfl) T.m_f_law_draw T.k_f_law_draw T.d_f_law_draw .nil pass0 (@pa_cons _ _ _ _ _ (@pv _ 4 _ _ rfl (Or.inl rfl) rfl rfl) (@pa_cons _ _ _ _ _ (@pe_int _ _ _ _) (@pa_nil _) (by rfl)) (by rfl)) (by decide) (by rfl) (by rfl)) (@pe_int _ _ _ _) (nomark _)) (@pss_one _ _ _ (@ps_expr _ _ _ _ (@pe_bm _ _ _ _ _ _ _ _ _ _ _ _ PySem.F.plainAttrs_list PySem.F.slot_list_append PySem.F.type_list_append mt_append (@pv _ 2 _ _ rfl (Or.inl rfl) rfl rfl) (@pa_cons _ _ _ _ _ (@pe_tupA _ _ _ _ _ (@pa_cons _ _ _ _ _ (@pv _ 5 _ _ rfl (Or.inl rfl) rfl rfl) (@pa_cons _ _ _ _ _ (@pv _ 6 _ _ rfl (Or.inl rfl) rfl rfl) (@pa_cons _ _ _ _ _ (@pe_non _ _ _) (@pa_cons _ _ _ _ _ (@pe_non _ _ _) (@pa_cons _ _ _ _ _ (@pe_non _ _ _) (@pa_nil _) (by rfl)) (by rfl)) (by rfl)) (by rfl)) (by rfl))) (@pa_nil _) (by rfl)) (by rfl) (by rfl) (by rfl) (by rfl) (by rfl)) (by rfl))) (@pss_cons _ _ _ _ _ (@ps_set _ _ (7) _ _ _ _ sc_f_law_document.nd rfl (Or.inl rfl) (@pe_call _ _ _ _ _ _ _ _ _ _ _ _ _ _ _ _ gf_law_row (hr.mono (by decide)) (by rfl) T.m_f_law_row T.k_f_law_row T.d_f_law_row .nil pass0 (@pa_cons _ _ _ _ _ (@pv _ 4 _ _ rfl (Or.inl rfl) rfl rfl) (@pa_nil _) (by rfl)) (by decide) (by rfl) (by rfl)) (by rfl) (by first | exact .inl rfl | exact .inr rfl)) (@pss_one _ _ _ (@ps_expr _ _ _ _ (@pe_bm _ _ _ _ _ _ _ _ _ _ _ _ PySem.F.plainAttrs_list PySem.F.slot_list_append PySem.F.type_list_append mt_append (@pv _ 2 _ _ rfl (Or.inl rfl) rfl rfl) (@pa_cons _ _ _ _ _ (@pe_tupA _ _ _ _ _ (@pa_cons _ _ _ _ _ (@pv _ 5 _ _ rfl (Or.inl rfl) rfl rfl) (@pa_cons _ _ _ _ _ (@pv _ 6 _ _ rfl (Or.inl rfl) rfl rfl) (@pa_cons _ _ _ _ _ (@pv _ 7 _ _ rfl (Or.inl rfl) rfl rfl) (@pa_cons _ _ _ _ _ (@pe_call _ _ _ _ _ _ _ _ _ _ _ _ _ _ _ _ gf_law_notes (hr.mono (by decide)) (by rfl) T.m_f_law_notes T.k_f_law_notes T.d_f_law_notes .nil pass0 (@pa_cons _ _ _ _ _ (@pv _ 4 _ _ rfl (Or.inl rfl) rfl rfl) (@pa_cons _ _ _ _ _ (@pv _ 7 _ _ rfl (Or.inl rfl) rfl rfl) (@pa_nil _) (by rfl)) (by rfl)) (by decide) (by rfl) (by rfl)) (@pa_cons _ _ _ _ _ (@pe_call _ _ _ _ _ _ _ _ _ _ _ _ _ _ _ _ gf_law_table (hr.mono (by decide)) (by rfl) T.m_f_law_table T.k_f_law_table T.d_f_law_table .nil pass0 (@pa_cons _ _ _ _ _ (@pv _ 4 _ _ rfl (Or.inl rfl) rfl rfl) (@pa_nil _) (by rfl)) (by decide) (by rfl) (by rfl)) (@pa_nil _) (by rfl)) (by rfl)) (by rfl)) (by rfl)) (by rfl))) (@pa_nil _) (by rfl)) (by rfl) (by rfl) (by rfl) (by rfl) (by rfl)) (by rfl))))))))) (by intro _; rfl)) (@pss_one _ _ _ (@ps_ret _ _ _ _ (@pv _ 2 _ _ rfl (Or.inl rfl) rfl rfl)))))), ?_⟩
  obtain ⟨sp, ns, rfl, hq, kk⟩ := h
  refine ⟨_, rfl, sp, ns, 0, rfl, hq, _, _, rfl, rfl, (by show (0 : Int) < 2; decide), rfl, ?_⟩
  refine ⟨szOk rfl, fun ep H1 g1 s1 e1 => ?_⟩
  refine ⟨_, rfl, sp, ns, 0, rfl, hq.same s1, _, _, rfl, rfl, ⟨by decide, by decide⟩, _, _, rfl, rfl, (by show (0 : Int) < 5; decide), _, _, rfl, rfl, ?_⟩
  have hN := docN_le ns
  have h1 := Int.emod_nonneg (cellN ns 0 / 2) (b := 5) (by decide)
  have h2 := Int.emod_lt_of_pos (cellN ns 0 / 2) (b := 5) (by decide)
  refine ⟨_, rfl, by omega, by omega, for_range (lo := 0) (n := docN ns) (fun j σ X => ∃ (xs : List V) (u3 u4 u5 u6 u7 : Option V), σ = [some (.ref sp), some (.bl (decide (V.int (cellN ns 0 % 2) = V.int 1))), some (.ref ep), u3, u4, u5, u6, u7] ∧ Same H (dels X (· = ep)) ∧ X ep = some (.lst xs) ∧ xs.length = j ∧ DXs (dels X (· = ep)) xs ((List.range j).map fun k => enD k (docE ns k))) ⟨[], none, none, none, none, none, rfl, ?_, e1, rfl, .nil⟩ ?_ ?_⟩
  · intro b o e
    have : b ≠ ep := ne_of_none e g1
    exact ds_get (s1 _ _ e) this
  · rintro j σ X hj ⟨xs, u3, u4, u5, u6, u7, rfl, sX, eXe, hxl, dX⟩
    have hj5 : j < 5 := by omega
    have hX : Same H X := sX.trans dels_same
    refine ⟨_, rfl, _, rfl, _, _, rfl, rfl, sp, ns, 1 + j, congrArg (fun z => [V.ref sp, V.int z]) (by omega : (1 : Int) + (0 + (j : Int)) = ((1 + j : Nat) : Int)), hq.same hX, _, rfl, _, _, rfl, fun X1 p s1' gp ep1 => ?_⟩
    have npe : p ≠ ep := (ne_of_none eXe gp).symm
    have c1 : Same (dels X (· = ep)) (dels X1 (fun b => b = p ∨ b = ep)) := ds_grow s1' fun b z => by
      rcases z with z | z
      · rw [z]; exact .inr gp
      · exact .inl z
    refine ⟨szOk rfl, fun l1 X2 g2 s2 e2 => ⟨_, rfl, l1, _, _, .str (nu j), rfl, rfl, SqL.of e2, ?_, ?_⟩⟩
    · rw [show (0 : Int) + (j : Int) = (j : Int) from by omega]
      exact nu_at hj5
    refine ⟨szOk rfl, fun t1 X3 g3 s3 e3 => ?_⟩
    refine ⟨_, rfl, _, _, rfl, rfl, szOk rfl, fun t2 X4 g4 s4 e4 => ?_⟩
    refine ⟨szOk rfl, fun l2 X5 g5 s5 e5 => ?_⟩
    obtain ⟨pv, hpv, dpv⟩ : ∃ pv, atI [V.ref t1, V.ref t2] (if decide ((0 : Int) < 0 + (j : Int)) = true then 1 else 0) = some pv ∧ DX (dels X5 (fun b => b = p ∨ b = ep)) pv (ptD j) := by
      have n1p : t1 ≠ p := (ne_of_none (s2 _ _ ep1) g3).symm
      have n1e : t1 ≠ ep := (ne_of_none (s2 _ _ (s1' _ _ eXe)) g3).symm
      have n2p : t2 ≠ p := (ne_of_none (s3 _ _ (s2 _ _ ep1)) g4).symm
      have n2e : t2 ≠ ep := (ne_of_none (s3 _ _ (s2 _ _ (s1' _ _ eXe))) g4).symm
      unfold ptD
      by_cases hz : j > 0
      · rw [if_pos hz, if_pos (decide_eq_true (by omega))]
        refine ⟨.ref t2, rfl, .tup (ds_get (s5 _ _ e4) fun z => ?_) (.cons (.str _) (.cons ?_ .nil))⟩
        · rcases z with z | z
          · exact n2p z
          · exact n2e z
        · rw [show (70 : Int) + (j : Int) = 70 + (0 + (j : Int)) from by omega]
          exact .int _
      · rw [if_neg hz, if_neg (by rw [decide_eq_false (by omega)]; exact Bool.false_ne_true)]
        refine ⟨.ref t1, rfl, .tup (ds_get (s5 _ _ (s4 _ _ e3)) fun z => ?_) (.cons (.str _) (.cons (.int _) .nil))⟩
        rcases z with z | z
        · exact n1p z
        · exact n1e z
    refine ⟨_, rfl, _, _, rfl, rfl, .inr ⟨_, rfl, l2, _, _, pv, rfl, rfl, SqL.of e5, hpv, ?_⟩⟩
    have s25 := ((s2.trans s3).trans s4).trans s5
    have c5 := c1.trans (Same.dels (S := fun b => b = p ∨ b = ep) s25)
    have e5p := s25 _ _ ep1
    have e5e := s25 _ _ (s1' _ _ eXe)
    have hnu : DX (dels X5 (fun b => b = p ∨ b = ep)) (.str (nu j)) (.str (nu j)) := .str _
    generalize hs0 : dOf (cellN ns (1 + j)) (decide (V.int (cellN ns 0 % 2) = V.int 1)) = s0 at ep1 e5p
    have hE : docE ns j = enOf s0 := by unfold docE; rw [hs0]
    refine ⟨_, rfl, p, s0, 5, rfl, e5p, by decide, by decide, rfl, _, rfl, ?_⟩
    have c6 : Same (dels X5 (fun b => b = p ∨ b = ep)) (dels (upd X5 p (dl (ds s0 5))) (fun b => b = p ∨ b = ep)) := ds_wr (.inl rfl)
    have e6p : (upd X5 p (dl (ds s0 5))) p = some (dl (ds s0 5)) := upd_same
    have e6e : (upd X5 p (dl (ds s0 5))) ep = some (.lst xs) := by rw [upd_ne npe.symm]; exact e5e
    generalize upd X5 p (dl (ds s0 5)) = X6 at c6 e6p e6e
    have dpv6 := dpv.same c6
    have c16 := c5.trans c6
    have fin : ∀ (F : Hp) (tq : Addr), Same (dels X6 (fun b => b = p ∨ b = ep)) (dels F (fun b => b = p ∨ b = ep)) → F ep = some (.lst xs) → DX (dels F (fun b => b = p ∨ b = ep)) (.ref tq) (enD j (enOf s0)) → ∀ a b c d f, ∃ (xs' : List V) (u3 u4 u5 u6 u7 : Option V), [some (V.ref sp), some (.bl (decide (V.int (cellN ns 0 % 2) = V.int 1))), some (.ref ep), a, b, c, d, f] = [some (.ref sp), some (.bl (decide (V.int (cellN ns 0 % 2) = V.int 1))), some (.ref ep), u3, u4, u5, u6, u7] ∧ Same H (dels (upd F ep (.lst (xs ++ [.ref tq]))) (· = ep)) ∧ (upd F ep (.lst (xs ++ [.ref tq]))) ep = some (.lst xs') ∧ xs'.length = j + 1 ∧ DXs (dels (upd F ep (.lst (xs ++ [.ref tq]))) (· = ep)) xs' ((List.range (j + 1)).map fun k => enD k (docE ns k)) := by
      intro F tq cF eF dF a b c d f
      have cU : Same (dels F (fun b => b = p ∨ b = ep)) (dels (upd F ep (.lst (xs ++ [.ref tq]))) (· = ep)) := (ds_wr (.inr rfl)).trans (dels_up fun b z => .inr z)
      have call := (c16.trans cF).trans cU
      refine ⟨xs ++ [.ref tq], a, b, c, d, f, rfl, sX.trans call, upd_same, by rw [List.length_append, hxl]; rfl, ?_⟩
      rw [List.range_succ, List.map_append]
      refine (dX.same call).snoc ?_
      show DX _ _ (enD j (docE ns j))
      rw [hE]
      exact dF.same cU
    by_cases h4 : dv s0 5 = 4
    · refine itT (by rw [h4]; rfl) ?_
      refine ⟨_, rfl, .inl ⟨rfl, _, SqL.of e6e⟩, _, rfl, _, rfl, szOk rfl, fun t3 F g6 s6 w6 => ?_⟩
      refine ⟨ep, _, _, rfl, rfl, s6 _ _ e6e, huge (by omega), fin F t3 (Same.dels s6) (s6 _ _ e6e) ?_ _ _ _ _ _⟩
      have n3p : t3 ≠ p := (ne_of_none e6p g6).symm
      have n3e : t3 ≠ ep := (ne_of_none e6e g6).symm
      unfold enD
      rw [if_pos (by exact decide_eq_true h4)]
      refine .tup (ds_get w6 fun z => ?_) (.cons (.str _) (.cons (dpv6.same (Same.dels s6)) (.cons .non (.cons .non (.cons .non .nil)))))
      rcases z with z | z
      · exact n3p z
      · exact n3e z
    · refine itF (decide_eq_false fun z => h4 (by injection z)) ?_
      have hSS : ∀ {Z : Hp}, Z p ≠ none → Z ep ≠ none → ∀ b, (b = p ∨ b = ep) → Z b ≠ none := fun h1 h2 b z => by
        rcases z with z | z
        · rw [z]; exact h1
        · rw [z]; exact h2
      have ne : ∀ {Z : Hp} {b : Addr} {o : HO}, Z b = some o → Z b ≠ none := fun h z => by rw [h] at z; cases z
      have ke : ∀ {Z Z' : Hp}, Same (del Z p) Z' → Z ep = some (.lst xs) → Z' ep = some (.lst xs) := fun c e => c _ _ (by rw [del_ne npe.symm]; exact e)
      have kd : ∀ {Z Z' : Hp}, Same (del Z p) Z' → Same (dels Z (fun b => b = p ∨ b = ep)) (dels Z' (fun b => b = p ∨ b = ep)) := fun c b o e => by
        by_cases z : b = p ∨ b = ep
        · rw [dels_at (S := fun b => b = p ∨ b = ep) z] at e; cases e
        · rw [dels_ne (S := fun b => b = p ∨ b = ep) z] at e ⊢
          exact c _ _ (by rw [del_ne fun y => z (.inl y)]; exact e)
      refine ⟨_, rfl, p, _, (fun b => b = p ∨ b = ep), rfl, e6p, .inl rfl, hSS (ne e6p) (ne e6e), fun R rq cR eRp dR => ?_⟩
      have eRe := ke cR e6e
      have hn14 : dn (ds s0 5) 15 ≤ 14 := Nat.le_of_lt_succ (dn_hi _ (by decide))
      refine ⟨_, rfl, .inl ⟨rfl, _, SqL.of eRe⟩, _, rfl, _, rfl, _, rfl, _, rfl, _, rfl, p, _, .ref rq, _, _, _, (fun b => b = p ∨ b = ep), rfl, eRp, .inl rfl, hSS (ne eRp) (ne eRe), dR, hn14, fun N nq cN eNp dN => ?_⟩
      have eNe := ke cN eRe
      refine ⟨_, rfl, p, _, (fun b => b = p ∨ b = ep), rfl, eNp, .inl rfl, hSS (ne eNp) (ne eNe), fun B bq s' cB eBp dB => ?_⟩
      have eBe := ke cB eNe
      refine ⟨szOk rfl, fun t3 F g6 s6 w6 => ?_⟩
      have kF := (kd cB).trans (Same.dels s6)
      have kRF := (kd cN).trans kF
      refine ⟨ep, _, _, rfl, rfl, s6 _ _ eBe, huge (by omega), fin F t3 ((kd cR).trans kRF) (s6 _ _ eBe) ?_ _ _ _ _ _⟩
      have n3p : t3 ≠ p := (ne_of_none eBp g6).symm
      have n3e : t3 ≠ ep := (ne_of_none eBe g6).symm
      unfold enD
      rw [if_neg (by show ¬ decide (dv s0 5 = 4) = true; rw [decide_eq_false h4]; exact Bool.false_ne_true)]
      refine .tup (ds_get w6 fun z => ?_) (.cons (.str _) (.cons (dpv6.same ((kd cR).trans kRF)) (.cons (dR.same kRF) (.cons (dN.same kF) (.cons (dB.same (Same.dels s6)) .nil)))))
      rcases z with z | z
      · exact n3p z
      · exact n3e z
  · rintro σ X ⟨xs, u3, u4, u5, u6, u7, rfl, sX, eXe, hxl, dX⟩
    refine ⟨_, rfl, kk X ep (sX.trans dels_same) (.lst eXe (dX.same dels_same))⟩
theorem ok_f_law_due (T : Txt K mg d tk) (gf_law_marks : FnOk P w K mg base CX0 2 d.f_law_marks d.f_law_marksd ["_law_row_here"] (sp_f_law_marks K)) : FnOk P w K mg base CX0 3 d.f_law_due d.f_law_dued ["_law_entries"] (sp_f_law_due K) := by
  refine T.F_f_law_due.ok sc_f_law_due (fun vs H Q E h => len_f_law_due h) (fun cdv A outer s H vs Q E hr h => ?_)
  have hu : (A.deeper (envOfC "_law_due" (defScope s_f_law_due) s.heap.objs.size d.f_law_due cdv)).units < cLine := hr.units0
  refine ⟨_, (@pss_cons _ _ _ _ _ (@ps_set _ _ (1) _ _ _ _ sc_f_law_due.nd rfl (Or.inl rfl) (@pe_lstA _ _ _ _ (@pa_nil _)) (by rfl) (by first | exact .inl rfl | exact .inr rfl)) (@pss_cons _ _ _ _ _ (@ps_for _ _ _ _ _ _ _ _ PassesOwn.never rfl (@pi_list _ _ _ _ (@pv _ 0 _ _ rfl (Or.inl rfl) rfl rfl)) (@pg_tup _ _ _ _ _ _ rfl (@pgs_cons _ _ _ _ _ (@pg_name _ _ (2) _ sc_f_law_due.nd rfl (Or.inl rfl) (by first | exact .inl rfl | exact .inr rfl)) (@pgs_cons _ _ _ _ _ (@pg_name _ _ (3) _ sc_f_law_due.nd rfl (Or.inl rfl) (by first | exact .inl rfl | exact .inr rfl)) (@pgs_cons _ _ _ _ _ (@pg_name _ _ (4) _ sc_f_law_due.nd rfl (Or.inr rfl) (by first | exact .inl rfl | exact .inr rfl)) (@pgs_cons _ _ _ _ _ (@pg_name _ _ (5) _ sc_f_law_due.nd rfl (Or.inl rfl) (by first | exact .inl rfl | exact .inr rfl)) (@pgs_cons _ _ _ _ _ (@pg_name _ _ (6) _ sc_f_law_due.nd rfl (Or.inl rfl) (by first | exact .inl rfl | exact .inr rfl)) (@pgs_nil _) (by rfl)) (by rfl)) (by rfl)) (by rfl)) (by rfl)) (by rfl) (by rfl)) (@pss_cons _ _ _ _ _ (@ps_expr _ _ _ _ (@pe_bm _ _ _ _ _ _ _ _ _ _ _ _ PySem.F.plainAttrs_list PySem.F.slot_list_append PySem.F.type_list_append mt_append (@pv _ 1 _ _ rfl (Or.inl rfl) rfl rfl) (@pa_cons _ _ _ _ _ (@pe_op _ _ _ _ _ _ _ _ op_add_str (@pe_op _ _ _ _ _ _ _ _ op_add_str (@pe_str _ _ _ _) (@pv _ 2 _ _ rfl (Or.inl rfl) rfl rfl)) (@pe_op _ _ _ _ _ _ _ _ op_repS (@pe_str _ _ _ _) (@pe_callTy _ _ _ _ _ _ _ _ _ call_int1 (by rfl) T.b_int boot_int (@pa_cons _ _ _ _ _ (@pe_cmpR _ _ _ _ _ _ _ _ op_eq (@pv _ 2 _ _ rfl (Or.inl rfl) rfl rfl) (@pe_str _ _ _ _) (nomark _)) (@pa_nil _) (by rfl)) (by decide) (by decide) (by rfl) (by rfl)))) (@pa_nil _) (by rfl)) (by rfl) (by rfl) (by rfl) (by rfl) (by rfl)) (by rfl)) (@pss_one _ _ _ (@ps_if _ _ _ _ _ _ _ _ (@pt_cmpR _ _ _ _ _ _ _ _ op_isN (@pv _ 4 _ _ rfl (Or.inr (Or.inl rfl)) rfl rfl) (@pe_non _ _ _) (nomark _)) (@pss_one _ _ _ (@ps_expr _ _ _ _ (@pe_bm _ _ _ _ _ _ _ _ _ _ _ _ PySem.F.plainAttrs_list PySem.F.slot_list_append PySem.F.type_list_append mt_append (@pv _ 1 _ _ rfl (Or.inl rfl) rfl rfl) (@pa_cons _ _ _ _ _ (@pe_str _ _ _ _) (@pa_nil _) (by rfl)) (by rfl) (by rfl) (by rfl) (by rfl) (by rfl)) (by rfl))) (@pss_cons _ _ _ _ _ (@ps_set _ _ (7) _ _ _ _ sc_f_law_due.nd rfl (Or.inl rfl) (@pe_str _ _ _ _) (by rfl) (by first | exact .inl rfl | exact .inr rfl)) (@pss_cons _ _ _ _ _ (@ps_for _ _ _ _ _ _ _ _ PassesOwn.never rfl (@pi_list _ _ _ _ (@pv _ 4 _ _ rfl (Or.inr (Or.inl rfl)) rfl rfl)) (@pg_name _ _ (8) _ sc_f_law_due.nd rfl (Or.inl rfl) (by first | exact .inl rfl | exact .inr rfl)) (@pss_one _ _ _ (@ps_set _ _ (7) _ _ _ _ sc_f_law_due.nd rfl (Or.inl rfl) (@pe_op _ _ _ _ _ _ _ _ op_add_str (@pv _ 7 _ _ rfl (Or.inl rfl) rfl rfl) (@pe_ix _ _ _ _ _ _ _ ix_tup (@pv _ 8 _ _ rfl (Or.inl rfl) rfl rfl) (@pe_int _ _ _ _) (fun _ _ => rfl))) (by rfl) (by first | exact .inl rfl | exact .inr rfl))) (by intro _; rfl)) (@pss_cons _ _ _ _ _ (@ps_set _ _ (1) _ _ _ _ sc_f_law_due.nd rfl (Or.inl rfl) (@pe_op _ _ _ _ _ _ _ _ op_catA (@pe_op _ _ _ _ _ _ _ _ op_catA (@pv _ 1 _ _ rfl (Or.inl rfl) rfl rfl) (@pe_op _ _ _ _ _ _ _ _ op_repA (@pe_lstA _ _ _ _ (@pa_cons _ _ _ _ _ (@pe_op _ _ _ _ _ _ _ _ op_add_str (@pe_str _ _ _ _) (@pv _ 7 _ _ rfl (Or.inl rfl) rfl rfl)) (@pa_nil _) (by rfl))) (@pe_callTy _ _ _ _ _ _ _ _ _ call_int1 (by rfl) T.b_int boot_int (@pa_cons _ _ _ _ _ (@pe_cmpR _ _ _ _ _ _ _ _ (op_neD (hu64 hr)) (@pv _ 4 _ _ rfl (Or.inr (Or.inl rfl)) rfl rfl) (@pe_lstA _ _ _ _ (@pa_nil _)) (nomark _)) (@pa_nil _) (by rfl)) (by decide) (by decide) (by rfl) (by rfl)))) (@pe_call _ _ _ _ _ _ _ _ _ _ _ _ _ _ _ _ gf_law_marks (hr.mono (by decide)) (by rfl) T.m_f_law_marks T.k_f_law_marks T.d_f_law_marks .nil pass0 (@pa_cons _ _ _ _ _ (@pv _ 4 _ _ rfl (Or.inr (Or.inl rfl)) rfl rfl) (@pa_nil _) (by rfl)) (by decide) (by rfl) (by rfl))) (by rfl) (by first | exact .inl rfl | exact .inr rfl)) (@pss_cons _ _ _ _ _ (@ps_for _ _ _ _ _ _ _ _ PassesOwn.never rfl (@pi_list _ _ _ _ (@pv _ 5 _ _ rfl (Or.inl rfl) rfl rfl)) (@pg_tup _ _ _ _ _ _ rfl (@pgs_cons _ _ _ _ _ (@pg_name _ _ (9) _ sc_f_law_due.nd rfl (Or.inl rfl) (by first | exact .inl rfl | exact .inr rfl)) (@pgs_cons _ _ _ _ _ (@pg_name _ _ (10) _ sc_f_law_due.nd rfl (Or.inl rfl) (by first | exact .inl rfl | exact .inr rfl)) (@pgs_cons _ _ _ _ _ (@pg_name _ _ (11) _ sc_f_law_due.nd rfl (Or.inr rfl) (by first | exact .inl rfl | exact .inr rfl)) (@pgs_nil _) (by rfl)) (by rfl)) (by rfl)) (by rfl) (by rfl)) (@pss_cons _ _ _ _ _ (@ps_setC _ (12) _ _ _ _ _ _ _ _ _ (["_law_k"]) ([("_law_sign", 11), ("_law_row_here", 4)]) _ _ _ _ _ sc_f_law_due.nd rfl (Or.inl rfl) rfl (@pi_range1 _ _ _ _ _ _ (by rfl) T.b_range (@pa_cons _ _ _ _ _ (@pe_callB _ _ _ _ _ _ _ _ _ call_len_seq (by rfl) T.b_len boot_len (@pa_cons _ _ _ _ _ (@pv _ 4 _ _ rfl (Or.inr (Or.inl rfl)) rfl rfl) (@pa_nil _) (by rfl)) (by decide) (by decide) (by rfl) (by rfl)) (@pa_nil _) (by rfl)) (by rfl)) ⟨rfl, by decide +kernel, by decide +kernel⟩ (caps_def (defScope s_f_law_due) ["_law_entries", "_law_rows", "_law_number", "_law_part", "_law_row_here", "_law_notes_here", "_law_table_here", "_law_text", "_law_told", "_law_name", "_law_word", "_law_sign", "_law_places", "_law_line_words", "_law_cells"] rfl rfl (fun _ h => cell_has h) (by decide +kernel) (by decide +kernel) (by decide +kernel)) (fun _ _ _ => (@pg_name _ _ (0) _ (by show List.Nodup (["_law_k", "_law_sign", "_law_row_here"] : List Str); decide +kernel) rfl (Or.inl rfl) (by first | exact .inl rfl | exact .inr rfl))) (fun _ => fresh_name rfl) (fun _ _ _ => (@pts_one _ _ _ (@pt_cmpR _ _ _ _ _ _ _ _ (op_eqDK (K := K) rfl (hu64 hr)) (@pe_ix _ _ _ _ _ _ _ (ix_tupK (K := K) rfl) (@pe_ix _ _ _ _ _ _ _ (ix_listK (K := K) rfl) (@pv _ 2 _ _ rfl (Or.inr (Or.inl rfl)) rfl rfl) (@pv _ 0 _ _ rfl (Or.inl rfl) rfl rfl) (fun _ _ => rfl)) (@pe_int _ _ _ _) (fun _ _ => rfl)) (@pv _ 1 _ _ rfl (Or.inr (Or.inl rfl)) rfl rfl) (nomark _)))) (fun _ _ _ => (@pv _ 0 _ _ rfl (Or.inl rfl) rfl rfl)) (by intro _; rfl) (by rfl) (by first | exact .inl rfl | exact .inr rfl)) (@pss_one _ _ _ (@ps_expr _ _ _ _ (@pe_bm _ _ _ _ _ _ _ _ _ _ _ _ PySem.F.plainAttrs_list PySem.F.slot_list_append PySem.F.type_list_append mt_append (@pv _ 1 _ _ rfl (Or.inl rfl) rfl rfl) (@pa_cons _ _ _ _ _ (@pe_op _ _ _ _ _ _ _ _ op_add_str (@pe_op _ _ _ _ _ _ _ _ op_add_str (@pe_op _ _ _ _ _ _ _ _ op_add_str (@pe_str _ _ _ _) (@pv _ 10 _ _ rfl (Or.inl rfl) rfl rfl)) (@pe_str _ _ _ _)) (@pe_ix _ _ _ _ _ _ _ ix_list (@pe_op _ _ _ _ _ _ _ _ op_catA (@pe_lcomp _ _ _ _ _ _ _ (["_law_k"]) ([]) _ _ _ _ _ rfl (@pi_list _ _ _ _ (@pv _ 12 _ _ rfl (Or.inl rfl) rfl rfl)) ⟨rfl, by decide +kernel, by decide +kernel⟩ (caps0 (by decide +kernel)) (fun _ _ _ => (@pg_name _ _ (0) _ (by show List.Nodup (["_law_k"] : List Str); decide +kernel) rfl (Or.inl rfl) (by first | exact .inl rfl | exact .inr rfl))) (fun _ => fresh_name rfl) (fun _ _ _ => (@pts_nil _)) (fun _ _ _ => (@pe_callTy _ _ _ _ _ _ _ _ _ call_strV (by rfl) T.b_str boot_str (@pa_cons _ _ _ _ _ (@pv _ 0 _ _ rfl (Or.inl rfl) rfl rfl) (@pa_nil _) (by rfl)) (by decide) (by decide) (by rfl) (by rfl))) (by intro _; rfl)) (@pe_lstA _ _ _ _ (@pa_cons _ _ _ _ _ (@pe_str _ _ _ _) (@pa_nil _) (by rfl)))) (@pe_int _ _ _ _) (fun _ _ => rfl))) (@pa_nil _) (by rfl)) (by rfl) (by rfl) (by rfl) (by rfl) (by rfl)) (by rfl)))) (by intro _; rfl)) (@pss_one _ _ _ (@ps_for _ _ _ _ _ _ _ _ PassesOwn.never rfl (@pi_list _ _ _ _ (@pe_ix _ _ _ _ _ _ _ ix_tup (@pv _ 6 _ _ rfl (Or.inl rfl) rfl rfl) (@pe_int _ _ _ _) (fun _ _ => rfl))) (@pg_name _ _ (13) _ sc_f_law_due.nd rfl (Or.inl rfl) (by first | exact .inl rfl | exact .inr rfl)) (@pss_cons _ _ _ _ _ (@ps_setC _ (14) _ _ _ _ _ _ _ _ _ (["_law_word"]) ([]) _ _ _ _ _ sc_f_law_due.nd rfl (Or.inl rfl) rfl (@pi_list _ _ _ _ (@pv _ 13 _ _ rfl (Or.inl rfl) rfl rfl)) ⟨rfl, by decide +kernel, by decide +kernel⟩ (caps0 (by decide +kernel)) (fun _ _ _ => (@pg_name _ _ (0) _ (by show List.Nodup (["_law_word"] : List Str); decide +kernel) rfl (Or.inl rfl) (by first | exact .inl rfl | exact .inr rfl))) (fun _ => fresh_name rfl) (fun _ _ _ => (@pts_nil _)) (fun _ _ _ => (@pe_op _ _ _ _ _ _ _ _ op_add_str (@pv _ 0 _ _ rfl (Or.inl rfl) rfl rfl) (@pe_op _ _ _ _ _ _ _ _ op_repS (@pe_str _ _ _ _) (@pe_callTy _ _ _ _ _ _ _ _ _ call_int1 (by rfl) T.b_int boot_int (@pa_cons _ _ _ _ _ (@pe_cmpR _ _ _ _ _ _ _ _ op_eq (@pv _ 0 _ _ rfl (Or.inl rfl) rfl rfl) (@pe_str _ _ _ _) (nomark _)) (@pa_nil _) (by rfl)) (by decide) (by decide) (by rfl) (by rfl))))) (by intro _; rfl) (by rfl) (by first | exact .inl rfl | exact .inr rfl)) (@pss_one _ _ _ (@ps_set _ _ (1) _ _ _ _ sc_f_law_due.nd rfl (Or.inl rfl) (@pe_op _ _ _ _ _ _ _ _ op_catA (@pv _ 1 _ _ rfl (Or.inl rfl) rfl rfl) (@pe_op _ _ _ _ _ _ _ _ op_repA (@pe_lstA _ _ _ _ (@pa_cons _ _ _ _ _ (@pe_op _ _ _ _ _ _ _ _ op_add_str (@pe_str _ _ _ _) (@pe_bm _ _ _ _ _ _ _ _ _ _ _ _ PySem.F.plainAttrs_str PySem.F.slot_str_join PySem.F.type_str_join mt_join (@pe_str _ _ _ _) (@pa_cons _ _ _ _ _ (@pv _ 14 _ _ rfl (Or.inl rfl) rfl rfl) (@pa_nil _) (by rfl)) (by rfl) (by rfl) (by rfl) (by rfl) (by rfl))) (@pa_nil _) (by rfl))) (@pe_callTy _ _ _ _ _ _ _ _ _ call_int1 (by rfl) T.b_int boot_int (@pa_cons _ _ _ _ _ (@pe_cmpR _ _ _ _ _ _ _ _ (op_neD (hu64 hr)) (@pe_ix _ _ _ _ _ _ _ ix_tup (@pv _ 6 _ _ rfl (Or.inl rfl) rfl rfl) (@pe_int _ _ _ _) (fun _ _ => rfl)) (@pe_lstA _ _ _ _ (@pa_nil _)) (nomark _)) (@pa_nil _) (by rfl)) (by decide) (by decide) (by rfl) (by rfl)))) (by rfl) (by first | exact .inl rfl | exact .inr rfl)))) (by intro _; rfl)))))))))) (by intro _; rfl)) (@pss_one _ _ _ (@ps_ret _ _ _ _ (@pe_bm _ _ _ _ _ _ _ _ _ _ _ _ PySem.F.plainAttrs_str PySem.F.slot_str_join PySem.F.type_str_join mt_join (@pe_str _ _ _ _) (@pa_cons _ _ _ _ _ (@pv _ 1 _ _ rfl (Or.inl rfl) rfl rfl) (@pa_nil _) (by rfl)) (by rfl) (by rfl) (by rfl) (by rfl) (by rfl)))))), ?_⟩
  obtain ⟨v, N, En, rfl, hv, hN, hE, kk⟩ := h
  obtain ⟨p, xs, rfl, er, dr⟩ := hv.lst_inv
  have hrl : xs.length = N := by rw [dr.len, List.length_map, List.length_range]
  refine ⟨szOk rfl, fun rw H1 g1 s1 e1 => ?_⟩
  refine ⟨_, rfl, p, rfl, ⟨_, SqL.of (s1 _ _ er)⟩, for_list (xs := xs) (fun i σ X => ∃ rw u2 u3 u4 u5 u6 u7 u8 u9 u10 u11 u12 u13 u14, σ = [some (.ref p), some (.ref rw), u2, u3, u4, u5, u6, u7, u8, u9, u10, u11, u12, u13, u14] ∧ Same H X ∧ H rw = none ∧ X rw = some (.lst (((List.range i).flatMap fun k => rowsT k (En k)).map V.str))) ⟨rw, none, none, none, none, none, none, none, none, none, none, none, none, none, rfl, s1, g1, e1⟩ (fun i σ X _ ⟨_, _, _, _, _, _, _, _, _, _, _, _, _, _, _, s', _⟩ => SqL.of (s' _ _ er)) ?_ ?_⟩
  · rintro i x σ X hx ⟨rq, u2, u3, u4, u5, u6, u7, u8, u9, u10, u11, u12, u13, u14, rfl, sX, hrq, eX⟩
    have hi : i < N := by rw [← hrl]; exact (List.getElem?_eq_some_iff.mp hx).1
    obtain ⟨dd, hd, hdx⟩ := dr.get hx
    rw [List.getElem?_map, List.getElem?_range hi] at hd
    cases hd
    have hEi := hE i
    have hdx' : DX H x (enD i (En i)) := hdx
    clear hdx
    have hR : (((List.range (i + 1)).flatMap fun k => rowsT k (En k)).map V.str) = (((List.range i).flatMap fun k => rowsT k (En k)).map V.str) ++ (rowsT i (En i)).map V.str := by
      rw [List.range_succ, List.flatMap_append, List.map_append, List.flatMap_singleton]
    generalize hei : En i = e at hdx' hEi hR
    have l5 : ("part " : Str).length = 5 := by decide
    have nl := nu_len i
    have l1 := docR_len hE i
    have l2 := (rowsT_len (k := i) hEi).2
    obtain ⟨q0, x1, x2, x3, x4, rfl, ep, hxx⟩ : ∃ p x1 x2 x3 x4, x = .ref p ∧ H p = some (.tup [.str (nu i), x1, x2, x3, x4]) ∧ ((e.cl = true ∧ x2 = .non) ∨ (e.cl = false ∧ DX H x2 (.list (rwD e.n e.t e.w)) ∧ DX H x3 (.list ((List.range e.m).map (ntD e.n e.g))) ∧ DX H x4 (tbD e.r e.c e.x))) := en_parts hdx'
    refine ⟨q0, _, rfl, SqT.of (sX _ _ ep), rfl, _, _, rfl, _, _, rfl, _, _, rfl, _, _, rfl, _, _, rfl, rfl, ?_⟩
    refine ⟨_, rfl, .inl ⟨rfl, _, SqL.of eX⟩, _, rfl, _, _, rfl, rfl, (by rw [sizeLine_eq]; omega), _, rfl, rfl, .inr ⟨_, rfl, _, _, rfl, rfl, _, _, rfl, rfl, ?_, ?_⟩⟩
    · rw [sizeLine_eq, Str.length_append]
      have l1 : ("." : Str).length = 1 := by decide
      have l0 : Str.empty.length = 0 := by decide
      split <;> omega
    rw [hd_text]
    generalize hR0 : (((List.range i).flatMap fun k => rowsT k (En k)).map V.str) = R0 at eX hR
    have hR0l : R0.length ≤ 300 := by rw [← hR0, List.length_map]; omega
    refine ⟨rq, _, _, rfl, rfl, eX, huge (by omega), ?_⟩
    have sX1 : Same H (upd X rq (.lst (R0 ++ [.str (hdT i)]))) := sX.wr hrq
    have eX1 : (upd X rq (.lst (R0 ++ [.str (hdT i)]))) rq = some (.lst (R0 ++ [.str (hdT i)])) := upd_same
    generalize upd X rq (.lst (R0 ++ [.str (hdT i)])) = X1 at sX1 eX1
    refine ⟨_, rfl, rfl, _, rfl, ?_⟩
    rcases hxx with ⟨hc, rfl⟩ | ⟨hc, d3, d4, d5⟩
    · refine itT rfl ⟨_, rfl, .inl ⟨rfl, _, SqL.of eX1⟩, rq, _, _, rfl, rfl, eX1, huge (by rw [List.length_append, List.length_singleton]; omega), ?_⟩
      refine ⟨rq, _, _, _, _, _, _, _, _, _, _, _, _, _, rfl, sX1.wr hrq, hrq, ?_⟩
      rw [hR, upd_same, List.append_assoc]
      unfold rowsT
      rw [if_pos hc]
      rfl
    have hrT : rowsT i e = [hdT i] ++ (if e.n > 0 then [txT e.n e.t] else []) ++ (runs e.w e.n).map (mT e.w) ++ (List.range e.m).map (ntT e.n e.g) ++ (if e.c > 0 then (List.range e.r).map fun i => clT e.c (e.x i) else []) := by
      unfold rowsT
      rw [if_neg (by rw [hc]; exact Bool.false_ne_true)]
    obtain ⟨rp, rs, rfl, er', dr'⟩ := d3.lst_inv
    obtain ⟨np, nts, rfl, en, dn'⟩ := d4.lst_inv
    obtain ⟨tp, y1, y2, y3, rfl, et, dt1, dt2, dt3⟩ := d5.three
    obtain ⟨cp, cs, rfl, ec, dc⟩ := dt2.lst_inv
    obtain ⟨wp, wss, rfl, ew, dw⟩ := dt3.lst_inv
    have hrl' : rs.length = e.n := by rw [dr'.len]; unfold rwD; rw [List.length_map, List.length_range]
    have hnl : nts.length = e.m := by rw [dn'.len, List.length_map, List.length_range]
    have hcl : cs.length = e.c := by rw [dc.len, List.length_map, List.length_range]
    have hwl : wss.length = e.r := by rw [dw.len, List.length_map, List.length_range]
    have bn := hEi.n
    have bm := hEi.m
    have br := hEi.r
    have bc := hEi.c
    refine itF rfl ?_
    refine ⟨_, rfl, rp, rfl, ⟨_, SqL.of (sX1 _ _ er')⟩, for_list (xs := rs) (fun j σ Y => ∃ u8, σ = [some (.ref p), some (.ref rq), some (.str (nu i)), some x1, some (.ref rp), some (.ref np), some (.ref tp), some (.str (Txt.join "" ((List.range j).map fun k => tx (e.t k)))), u8, u9, u10, u11, u12, u13, u14] ∧ Y = X1) ⟨u8, rfl, rfl⟩ (fun j σ Y _ ⟨_, _, h⟩ => by rw [h]; exact SqL.of (sX1 _ _ er')) ?_ ?_⟩
    · rintro j y σ Y hy ⟨u8, rfl, rfl⟩
      have hj : j < e.n := by rw [← hrl']; exact (List.getElem?_eq_some_iff.mp hy).1
      obtain ⟨dd, hd, hdy⟩ := dr'.get hy
      unfold rwD at hd
      rw [List.getElem?_map, List.getElem?_range hj] at hd
      cases hd
      obtain ⟨b, z1, z2, z3, rfl, eb, _, w2, _⟩ := hdy.three
      rw [w2.str_inv] at eb
      have a1 := tj_len j e.t
      have a2 := tx_len (e.t j)
      refine ⟨_, rfl, _, rfl, b, _, 1, _, rfl, rfl, SqT.of (sX1 _ _ eb), rfl, _, _, rfl, rfl, (by rw [sizeLine_eq]; omega), ?_⟩
      refine ⟨some (.ref b), ?_, rfl⟩
      rw [List.range_succ, List.map_append, List.map_singleton, join0_snoc]
      rfl
    · rintro σ Y ⟨u8, rfl, rfl⟩
      rw [hrl']
      have a1 := tj_len e.n e.t
      have lt : ("text " : Str).length = 5 := by decide
      refine ⟨_, rfl, _, rfl, _, _, rfl, rfl, (by rw [sizeLine_eq]; omega), szOk rfl, fun l1 Y1 h1 z1 w1 => ?_⟩
      refine ⟨_, rfl, szOk rfl, fun l2 Y2 h2 z2 w2 => ⟨.list (rwD e.n e.t e.w), .list [], .lst (SqL.of ((sX1.trans (z1.trans z2)) _ _ er')) (dr'.same (sX1.trans (z1.trans z2))).dv, .lst (SqL.of w2) .nil, (gd_rw _ _ _).lay, rfl, Nat.le_trans (Nat.min_le_left _ _) (Nat.le_trans (gd_rw _ _ _).dep (by decide)), .inr ⟨_, rfl, ?_⟩⟩⟩
      rw [if_pos rfl, nil_eqv (gd_rw _ _ _), show (rwD e.n e.t e.w).length = e.n from by unfold rwD; rw [List.length_map, List.length_range]]
      have z12 := z1.trans z2
      refine ⟨l1, _, _, rfl, rfl, z2 _ _ w1, by split <;> decide, by split <;> decide, (by rw [sizeLine_eq]; split <;> simp), fun l3 Y3 h3 z3 w3 => ?_⟩
      have w3' : Y3 l3 = some (.lst ((if e.n > 0 then [txT e.n e.t] else []).map V.str)) := by
        rw [w3]
        by_cases h0 : e.n > 0
        · rw [if_pos h0, if_pos (by simp; omega)]; rfl
        · rw [if_neg h0, if_neg (by simp; omega)]; rfl
      have z13 := z12.trans z3
      have hif : ((if e.n > 0 then [txT e.n e.t] else []).map V.str).length ≤ 1 := by split <;> simp
      refine ⟨rq, l3, _, _, rfl, rfl, z13 _ _ eX1, w3', big (by rw [List.length_append, List.length_singleton]; omega), fun l4 Y4 h4 z4 w4 => ?_⟩
      have z14 := z13.trans z4
      have sX4 := sX1.trans z14
      refine ⟨_, rfl, .ref rp, e.n, e.t, e.w, rfl, .lst (sX4 _ _ er') (dr'.same sX4), bn, hEi.w, fun Y5 mq s5 e5 => ?_⟩
      have hrn := runs_len (W := e.w) e.n
      refine ⟨l4, mq, _, _, rfl, rfl, s5 _ _ w4, e5, big (by simp only [List.length_append, List.length_map, List.length_singleton] at *; omega), fun rq2 Y6 h6 z6 w6 => ?_⟩
      have sX6 := (sX4.trans s5).trans z6
      have hrq2 : H rq2 = none := (sX4.trans s5).free h6
      generalize hR1 : R0 ++ [V.str (hdT i)] ++ (if e.n > 0 then [txT e.n e.t] else []).map V.str ++ (runs e.w e.n).map (fun c => V.str (mT e.w c)) = R1 at w6
      have hR1l : R1.length ≤ 400 := by rw [← hR1]; simp only [List.length_append, List.length_map, List.length_singleton] at *; omega
      refine ⟨_, rfl, np, rfl, ⟨_, SqL.of (sX6 _ _ en)⟩, for_list (xs := nts) (fun j σ Z => ∃ u9 u10 u11 u12, σ = [some (.ref p), some (.ref rq2), some (.str (nu i)), some x1, some (.ref rp), some (.ref np), some (.ref tp), some (.str (Txt.join "" ((List.range e.n).map fun k => tx (e.t k)))), u8, u9, u10, u11, u12, u13, u14] ∧ Same H Z ∧ Z rq2 = some (.lst (R1 ++ (List.range j).map fun k => V.str (ntT e.n e.g k)))) ⟨u9, u10, u11, u12, rfl, sX6, by rw [w6]; simp⟩ (fun j σ Z _ ⟨_, _, _, _, _, h, _⟩ => SqL.of (h _ _ en)) ?_ ?_⟩
      · rintro j y σ Z hy ⟨u9, u10, u11, u12, rfl, sZ, eZ⟩
        have hj : j < e.m := by rw [← hnl]; exact (List.getElem?_eq_some_iff.mp hy).1
        obtain ⟨dd, hd, hdy⟩ := dn'.get hy
        rw [List.getElem?_map, List.getElem?_range hj] at hd
        cases hd
        obtain ⟨b, z1', z2', z3', rfl, eb, w1', w2', w3s⟩ := hdy.three
        rw [w2'.str_inv] at eb
        refine ⟨b, _, rfl, SqT.of (sZ _ _ eb), rfl, _, _, rfl, _, _, rfl, _, _, rfl, rfl, ?_⟩
        have gS : GD 1 (if e.g j < e.n then nmD (e.g j) else .none) := by split; exact gd_nm _; exact gd_non 1
        refine ⟨_, rfl, rp, rs, rfl, .inl (SqL.of (sZ _ _ er')), _, rfl, by omega, by omega, lc_range (n := rs.length) (big (by omega)) (fun m ys W => W = Z ∧ ys = ((List.range m).filter fun a => decide (a = e.g j)).map fun a => V.int (a : Nat)) ⟨rfl, rfl⟩ (fun m ys W K1 K0 hm ⟨hW, hys⟩ k1 k0 => ?_) fun W pq ys ⟨hW, hys⟩ _ hq => ?_⟩
        · subst hW
          have hmn : m < e.n := by omega
          obtain ⟨x5, hx5, dx5⟩ := sg_at dr' hmn
          obtain ⟨b5, v1, v2, v3, rfl, eb5, dv1, _, _⟩ := dx5.three
          refine ⟨_, rfl, _, rfl, rp, _, _, _, rfl, rfl, SqL.of (sZ _ _ er'), (by rw [show (0 : Int) + (m : Int) = (m : Int) from by omega]; exact atI_nat hx5), b5, _, 0, v1, rfl, rfl, SqT.of (sZ _ _ eb5), rfl, _, rfl, nmD m, _, (dv1.same sZ).dv, (w3s.same sZ).dv, (gd_nm m).lay, gS.lay, Nat.le_trans (Nat.min_le_left _ _) (Nat.le_trans (gd_nm m).dep (by decide)), _, rfl, ?_⟩
          have hev : PyData.eqv (nmD m) (if e.g j < e.n then nmD (e.g j) else .none) = decide (m = e.g j) := by
            by_cases hg : e.g j < e.n
            · rw [if_pos hg]; exact nm_eqv m (e.g j)
            · rw [if_neg hg, decide_eq_false (by omega)]; rfl
          rw [if_neg (by decide), hev]
          by_cases hmg : m = e.g j
          · refine itT (decide_eq_true hmg) ⟨_, rfl, k1 _ _ ⟨rfl, ?_⟩⟩
            rw [hys, List.range_succ, List.filter_append, List.filter_cons_of_pos (by simpa using hmg), List.map_append, show (0 : Int) + (m : Int) = (m : Int) from by omega]
            rfl
          · refine itF (decide_eq_false hmg) (k0 _ ⟨rfl, ?_⟩)
            rw [hys, List.range_succ, List.filter_append, List.filter_cons_of_neg (by simpa using hmg), List.filter_nil, List.append_nil]
        · subst hW
          rw [hrl', filt_eq] at hys
          have sP : Same W (upd W pq (.lst ys)) := Same.new hq
          have eP : (upd W pq (.lst ys)) pq = some (.lst ys) := upd_same
          generalize upd W pq (.lst ys) = W1 at sP eP
          have sW1 := sZ.trans sP
          have eW1 := sP _ _ eZ
          have hyl : ys.length ≤ 1 := by rw [hys, List.length_map]; split <;> simp
          have b1 := ntW_len j
          have ln : ("note " : Str).length = 5 := by decide
          have lb : (" " : Str).length = 1 := by decide
          refine ⟨_, rfl, .inl ⟨rfl, _, SqL.of eW1⟩, _, rfl, _, _, rfl, rfl, (by rw [sizeLine_eq]; omega), _, _, rfl, rfl, (by rw [sizeLine_eq, Str.length_append]; omega), ?_⟩
          refine ⟨_, rfl, pq, rfl, ⟨_, SqL.of eP⟩, lc_any (xs := ys) (big (by omega)) (fun m zs V1 => V1 = W1 ∧ zs = (ys.take m).map fun v => V.str (strV v)) ⟨rfl, rfl⟩ (fun _ _ V1 ⟨h, _⟩ => by rw [h]; exact SqL.of eP) (fun m v zs V1 K1 K0 hv ⟨hV, hz⟩ k1 k0 => ?_) fun V1 sq zs ⟨hV, hz⟩ _ hsq => ?_⟩
          · subst hV
            have hvm : ∃ a : Nat, v = .int (a : Nat) ∧ a < 64 := by
              have hvm := List.mem_of_getElem? hv
              rw [hys] at hvm
              obtain ⟨a, ha, rfl⟩ := List.mem_map.mp hvm
              split at ha
              · rw [List.mem_singleton.mp ha]; exact ⟨e.g j, rfl, by omega⟩
              · cases ha
            obtain ⟨a, rfl, ha⟩ := hvm
            refine ⟨_, rfl, _, rfl, .inr ⟨_, rfl, log_small ha⟩, k1 _ _ ⟨rfl, ?_⟩⟩
            rw [hz, List.take_add_one, hv, List.map_append]
            rfl
          · subst hV
            rw [List.take_length] at hz
            have sQ : Same V1 (upd V1 sq (.lst zs)) := Same.new hsq
            refine ⟨szOk rfl, fun l5 V2 h5 z5 w5 => ⟨sq, l5, _, _, rfl, rfl, z5 _ _ upd_same, w5, big (by rw [hz, List.length_map]; show ys.length + 1 ≤ 1000; omega), fun l6 V3 h6' z6' w6' => ?_⟩⟩
            have sV := (sQ.trans z5).trans z6'
            have hat : atI (zs ++ [V.str "loose"]) 0 = some (V.str (if e.g j < e.n then sN (e.g j) else ("loose" : Str))) := by
              rw [hz, hys]
              split <;> rfl
            have lo : ("loose" : Str).length = 5 := by decide
            have hsl : (if e.g j < e.n then sN (e.g j) else ("loose" : Str)).length ≤ 5 := by
              split
              · have := sN_len (k := e.g j) (by omega); omega
              · omega
            refine ⟨l6, _, 0, _, rfl, rfl, SqL.of w6', hat, _, _, rfl, rfl, (by rw [sizeLine_eq]; simp only [Str.length_append]; omega), ?_⟩
            refine ⟨rq2, _, _, rfl, rfl, sV _ _ eW1, huge (by rw [List.length_append, List.length_map, List.length_range]; omega), ?_⟩
            refine ⟨_, _, _, _, rfl, (sW1.trans sV).wr hrq2, ?_⟩
            rw [upd_same, List.range_succ, List.map_append, List.append_assoc]
            rfl
      · rintro σ Z ⟨u9, u10, u11, u12, rfl, sZ, eZ⟩
        rw [hnl] at eZ
        generalize hR2 : R1 ++ (List.range e.m).map (fun k => V.str (ntT e.n e.g k)) = R2 at eZ
        have hR2l : R2.length ≤ 500 := by rw [← hR2, List.length_append, List.length_map, List.length_range]; omega
        refine ⟨_, rfl, tp, _, 2, _, rfl, rfl, SqT.of (sZ _ _ et), rfl, wp, rfl, ⟨_, SqL.of (sZ _ _ ew)⟩, for_list (xs := wss) (fun j σ W => ∃ rq3 u13 u14, σ = [some (.ref p), some (.ref rq3), some (.str (nu i)), some x1, some (.ref rp), some (.ref np), some (.ref tp), some (.str (Txt.join "" ((List.range e.n).map fun k => tx (e.t k)))), u8, u9, u10, u11, u12, u13, u14] ∧ Same H W ∧ H rq3 = none ∧ W rq3 = some (.lst (R2 ++ (if e.c > 0 then (List.range j).map fun i => clT e.c (e.x i) else []).map V.str))) ⟨rq2, u13, u14, rfl, sZ, hrq2, by rw [eZ]; split <;> simp⟩ (fun j σ W _ ⟨_, _, _, _, h, _⟩ => SqL.of (h _ _ ew)) ?_ ?_⟩
        · rintro j y σ W hy ⟨rq3, u13, u14, rfl, sW, hrq3, eW⟩
          have hj : j < e.r := by rw [← hwl]; exact (List.getElem?_eq_some_iff.mp hy).1
          obtain ⟨dd, hd, hdy⟩ := dw.get hy
          rw [List.getElem?_map, List.getElem?_range hj] at hd
          cases hd
          obtain ⟨lp, ws, rfl, elp, dlp⟩ := hdy.lst_inv
          have hws : ws = (List.range e.c).map fun m => V.str (wd (e.x j m)) := strs_inv dlp
          have hwsl : ws.length = e.c := by rw [hws, List.length_map, List.length_range]
          refine ⟨_, rfl, lp, rfl, ⟨_, SqL.of (sW _ _ elp)⟩, lc_any (xs := ws) (big (by omega)) (fun m zs V1 => V1 = W ∧ zs = (List.range m).map fun a => V.str (wdT (e.x j a))) ⟨rfl, rfl⟩ (fun _ _ V1 ⟨h, _⟩ => by rw [h]; exact SqL.of (sW _ _ elp)) (fun m v zs V1 K1 K0 hv ⟨hV, hz⟩ k1 k0 => ?_) fun V1 cq zs ⟨hV, hz⟩ _ hcq => ?_⟩
          · subst hV
            have hm : m < e.c := by rw [← hwsl]; exact (List.getElem?_eq_some_iff.mp hv).1
            rw [hws, List.getElem?_map, List.getElem?_range hm] at hv
            cases hv
            refine ⟨_, rfl, _, rfl, rfl, .inr ⟨_, rfl, _, _, rfl, rfl, _, _, rfl, rfl, ?_, ?_⟩⟩
            · have a1 : (wd (e.x j m)).length ≤ 8 := getD_all (P := fun s => s.length ≤ 8) (l := wds) (by decide +kernel) (by decide) _
              have l1 : ("-" : Str).length = 1 := by decide
              have l0 : Str.empty.length = 0 := by decide
              rw [sizeLine_eq]
              split <;> omega
            · show K1 (V.str (wd (e.x j m) ++ (if decide (V.str (wd (e.x j m)) = V.str "") = true then ("-" : Str) else Str.empty))) _
              rw [wd_text]
              refine k1 _ _ ⟨rfl, ?_⟩
              rw [hz, List.range_succ, List.map_append]
              rfl
          · subst hV
            rw [hwsl] at hz
            have sQ : Same V1 (upd V1 cq (.lst zs)) := Same.new hcq
            have eQ : (upd V1 cq (.lst zs)) cq = some (.lst (((List.range e.c).map fun a => wdT (e.x j a)).map V.str)) := by rw [upd_same, hz, List.map_map]; rfl
            generalize upd V1 cq (.lst zs) = V2 at sQ eQ
            have sV2 := sW.trans sQ
            have bs := sums_le (f := fun a => wdT (e.x j a)) (c := 8) (fun a => wdT_len _) (List.range e.c)
            rw [List.length_range] at bs
            have lb : (" " : Str).length = 1 := by decide
            have lc : ("cells " : Str).length = 6 := by decide
            have bj := join_le " " ((List.range e.c).map fun a => wdT (e.x j a))
            rw [lb, List.length_map, List.length_range] at bj
            refine ⟨_, rfl, rfl, _, rfl, _, cq, (List.range e.c).map (fun a => wdT (e.x j a)), rfl, rfl, SqL.of eQ, (by rw [lb, List.length_map, List.length_range]; omega), _, _, rfl, rfl, (by rw [sizeLine_eq]; omega), szOk rfl, fun l1 V3 h1' z1' w1' => ?_⟩
            have sV3 := sV2.trans z1'
            refine ⟨_, rfl, tp, _, 1, _, rfl, rfl, SqT.of (sV3 _ _ et), rfl, szOk rfl, fun l2 V4 h2' z2' w2' => ⟨.list ((List.range e.c).map (liD 60)), .list [], .lst (SqL.of ((sV3.trans z2') _ _ ec)) (dc.same (sV3.trans z2')).dv, .lst (SqL.of w2') .nil, (GD.lst (allM (gd_li 60) _)).lay, rfl, Nat.le_trans (Nat.min_le_left _ _) (Nat.le_trans (GD.lst (allM (gd_li 60) _)).dep (by decide)), .inr ⟨_, rfl, ?_⟩⟩⟩
            rw [if_pos rfl, nil_eqv (GD.lst (allM (gd_li 60) _)), List.length_map, List.length_range]
            refine ⟨l1, _, _, rfl, rfl, z2' _ _ w1', by split <;> decide, by split <;> decide, (by rw [sizeLine_eq]; split <;> simp), fun l3 V5 h3' z3' w3q => ?_⟩
            have w3' : V5 l3 = some (.lst ((if e.c > 0 then [clT e.c (e.x j)] else []).map V.str)) := by
              rw [w3q]
              by_cases h0 : e.c > 0
              · rw [if_pos h0, if_pos (by simp; omega), cells_join h0]; rfl
              · rw [if_neg h0, if_neg (by simp; omega)]; rfl
            have sVV := ((sQ.trans z1').trans z2').trans z3'
            have hif1 : ((if e.c > 0 then (List.range j).map fun i => clT e.c (e.x i) else []).map V.str).length ≤ j := by split <;> simp
            have hif2 : ((if e.c > 0 then [clT e.c (e.x j)] else []).map V.str).length ≤ 1 := by split <;> simp
            refine ⟨rq3, l3, _, _, rfl, rfl, sVV _ _ eW, w3', big (by rw [List.length_append]; omega), fun rq4 V6 h4' z4' w4' => ?_⟩
            refine ⟨rq4, _, _, rfl, (sW.trans sVV).trans z4', (sW.trans sVV).free h4', ?_⟩
            rw [w4', List.append_assoc]
            by_cases h0 : e.c > 0
            · simp only [if_pos h0, List.range_succ, List.map_append, List.map_cons, List.map_nil]
            · simp only [if_neg h0, List.map_nil, List.append_nil]
        · rintro σ W ⟨rq3, u13, u14, rfl, sW, hrq3, eW⟩
          rw [hwl] at eW
          refine ⟨rq3, _, _, _, _, _, _, _, _, _, _, _, _, _, rfl, sW, hrq3, ?_⟩
          rw [hR, eW, hrT, ← hR2, ← hR1]
          simp only [List.map_append, List.map_map, List.append_assoc, List.map_cons, List.map_nil]
          rfl
  · rintro σ X ⟨rq, u2, u3, u4, u5, u6, u7, u8, u9, u10, u11, u12, u13, u14, rfl, sX, hrq, eX⟩
    rw [hrl] at eX
    refine ⟨rfl, _, rfl, _, rq, _, rfl, rfl, SqL.of eX, docR_sum hE hN, kk X sX⟩
theorem ok_flaw (T : Txt K mg d tk) (gf_law_document : FnOk P w K mg base CX0 3 d.f_law_document d.f_law_documentd ["_law_script"] (sp_f_law_document K)) (gf_law_due : FnOk P w K mg base CX0 3 d.f_law_due d.f_law_dued ["_law_entries"] (sp_f_law_due K)) (gfshown : FnOk P w K mg base CX0 3 d.fshown d.fshownd ["entries"] (sp_fshown K)) : FnOk P w K mg base CX0 4 d.flaw d.flawd ["_law_script"] (sp_flaw K) := by
  refine T.F_flaw.ok sc_flaw (fun vs H Q E h => len_flaw h) (fun cdv A outer s H vs Q E hr h => ?_)
  have hu : (A.deeper (envOfC "law" (defScope s_flaw) s.heap.objs.size d.flaw cdv)).units < cLine := hr.units0
  refine ⟨_, (@pss_cons _ _ _ _ _ (@ps_set _ _ (1) _ _ _ _ sc_flaw.nd rfl (Or.inl rfl) (@pe_call _ _ _ _ _ _ _ _ _ _ _ _ _ _ _ _ gf_law_document (hr.mono (by decide)) (by rfl) T.m_f_law_document T.k_f_law_document T.d_f_law_document .nil pass0 (@pa_cons _ _ _ _ _ (@pv _ 0 _ _ rfl (Or.inl rfl) rfl rfl) (@pa_nil _) (by rfl)) (by decide) (by rfl) (by rfl)) (by rfl) (by first | exact .inl rfl | exact .inr rfl)) (@pss_cons _ _ _ _ _ (@ps_set _ _ (2) _ _ _ _ sc_flaw.nd rfl (Or.inl rfl) (@pe_call _ _ _ _ _ _ _ _ _ _ _ _ _ _ _ _ gf_law_document (hr.mono (by decide)) (by rfl) T.m_f_law_document T.k_f_law_document T.d_f_law_document .nil pass0 (@pa_cons _ _ _ _ _ (@pv _ 0 _ _ rfl (Or.inl rfl) rfl rfl) (@pa_nil _) (by rfl)) (by decide) (by rfl) (by rfl)) (by rfl) (by first | exact .inl rfl | exact .inr rfl)) (@pss_cons _ _ _ _ _ (@ps_set _ _ (3) _ _ _ _ sc_flaw.nd rfl (Or.inl rfl) (@pe_call _ _ _ _ _ _ _ _ _ _ _ _ _ _ _ _ gfshown (hr.mono (by decide)) (by rfl) T.m_fshown T.k_fshown T.d_fshown .nil pass0 (@pa_cons _ _ _ _ _ (@pv _ 1 _ _ rfl (Or.inl rfl) rfl rfl) (@pa_nil _) (by rfl)) (by decide) (by rfl) (by rfl)) (by rfl) (by first | exact .inl rfl | exact .inr rfl)) (@pss_one _ _ _ (@ps_ret _ _ _ _ (@pe_and _ _ _ _ _ _ _ (@pe_callB _ _ _ _ _ _ _ _ _ call_isinst (by rfl) T.b_isinstance boot_isinstance (@pa_cons _ _ _ _ _ (@pv _ 3 _ _ rfl (Or.inl rfl) rfl rfl) (@pa_cons _ _ _ _ _ (@pe_bltn _ _ (.ty "str") _ _ (by rfl) T.b_str boot_str rfl (by decide) (by decide)) (@pa_nil _) (by rfl)) (by rfl)) (by decide) (by decide) (by rfl) (by rfl)) (@pe_and _ _ _ _ _ _ _ (@pe_cmpR _ _ _ _ _ _ _ _ op_eq (@pv _ 3 _ _ rfl (Or.inl rfl) rfl rfl) (@pe_call _ _ _ _ _ _ _ _ _ _ _ _ _ _ _ _ gf_law_due (hr.mono (by decide)) (by rfl) T.m_f_law_due T.k_f_law_due T.d_f_law_due .nil pass0 (@pa_cons _ _ _ _ _ (@pv _ 1 _ _ rfl (Or.inl rfl) rfl rfl) (@pa_nil _) (by rfl)) (by decide) (by rfl) (by rfl)) (nomark _)) (@pe_one _ _ _ _ _ (@pe_cmpR _ _ _ _ _ _ _ _ (op_eqD (hu64 hr)) (@pv _ 1 _ _ rfl (Or.inl rfl) rfl rfl) (@pv _ 2 _ _ rfl (Or.inl rfl) rfl rfl) (nomark _)))))))))), ?_⟩
  obtain ⟨sp, ns, rfl, hq, hl, kk⟩ := h
  refine ⟨_, rfl, sp, ns, rfl, hq, fun H1 q1 s1 d1 => ?_⟩
  refine ⟨_, rfl, sp, ns, rfl, hq.same s1, fun H2 q2 s2 d2 => ?_⟩
  have hN := docN_le ns
  have hE : ∀ k, EnW (docE ns k) := fun k => enW _
  refine ⟨_, rfl, .ref q1, docN ns, docE ns, rfl, d1.same s2, hN, hE, fun H3 s3 => ?_⟩
  have d13 := (d1.same s2).same s3
  have gd : GD 6 (docD (docN ns) (docE ns)) := .lst (allM (fun k => gd_en k _) _)
  refine ⟨_, rfl, _, "str", _, true, rfl, .str _, by rfl, true, rfl, itT rfl ?_⟩
  refine ⟨_, rfl, _, rfl, .ref q1, docN ns, docE ns, rfl, d13, hN, hE, fun H4 s4 => ⟨rfl, _, rfl, itT (decide_eq_true rfl) ?_⟩⟩
  refine ⟨_, rfl, _, rfl, _, _, (d13.same s4).dv, ((d2.same s3).same s4).dv, gd.lay, gd.lay, Nat.le_trans (Nat.min_le_left _ _) (Nat.le_trans gd.dep (by decide)), ?_⟩
  rw [if_neg (by decide), gd_self gd]
  exact kk _
end
theorem all_mk {l : PySem.W.OpenLaw} {w : World} {K : PySem.W.Frag} {h : Heap} {mg : Str → Option Value} {fa : Addr} (X : K.In h) (G : h.Ns mainGlobals mg) (hfa : mg "law" = some (.ref fa))
    {a_fstretches_of : Addr} {od_fstretches_of an_fstretches_of : Option Addr} {sl_fstretches_of : Array (Option Value)} {oc_fstretches_of kV_fstretches_of dc_fstretches_of pm_fstretches_of cd_fstretches_of ct_fstretches_of : Value} {a_fshown_mark : Addr} {od_fshown_mark an_fshown_mark : Option Addr} {sl_fshown_mark : Array (Option Value)} {oc_fshown_mark kV_fshown_mark dc_fshown_mark pm_fshown_mark cd_fshown_mark ct_fshown_mark : Value} {a_fshown_note : Addr} {od_fshown_note an_fshown_note : Option Addr} {sl_fshown_note : Array (Option Value)} {oc_fshown_note kV_fshown_note dc_fshown_note pm_fshown_note cd_fshown_note ct_fshown_note : Value} {a_fshown_cells : Addr} {od_fshown_cells an_fshown_cells : Option Addr} {sl_fshown_cells : Array (Option Value)} {oc_fshown_cells kV_fshown_cells dc_fshown_cells pm_fshown_cells cd_fshown_cells ct_fshown_cells : Value} {a_frows_of_entry : Addr} {od_frows_of_entry an_frows_of_entry : Option Addr} {sl_frows_of_entry : Array (Option Value)} {oc_frows_of_entry kV_frows_of_entry dc_frows_of_entry pm_frows_of_entry cd_frows_of_entry ct_frows_of_entry : Value} {a_fshown : Addr} {od_fshown an_fshown : Option Addr} {sl_fshown : Array (Option Value)} {oc_fshown kV_fshown dc_fshown pm_fshown cd_fshown ct_fshown : Value} {a_f_law_cell_at : Addr} {od_f_law_cell_at an_f_law_cell_at : Option Addr} {sl_f_law_cell_at : Array (Option Value)} {oc_f_law_cell_at kV_f_law_cell_at dc_f_law_cell_at pm_f_law_cell_at cd_f_law_cell_at ct_f_law_cell_at : Value} {a_f_law_drawn : Addr} {od_f_law_drawn an_f_law_drawn : Option Addr} {sl_f_law_drawn : Array (Option Value)} {oc_f_law_drawn kV_f_law_drawn dc_f_law_drawn pm_f_law_drawn cd_f_law_drawn ct_f_law_drawn : Value} {a_f_law_draw : Addr} {od_f_law_draw an_f_law_draw : Option Addr} {sl_f_law_draw : Array (Option Value)} {oc_f_law_draw kV_f_law_draw dc_f_law_draw pm_f_law_draw cd_f_law_draw ct_f_law_draw : Value} {a_f_law_row : Addr} {od_f_law_row an_f_law_row : Option Addr} {sl_f_law_row : Array (Option Value)} {oc_f_law_row kV_f_law_row dc_f_law_row pm_f_law_row cd_f_law_row ct_f_law_row : Value} {a_f_law_notes : Addr} {od_f_law_notes an_f_law_notes : Option Addr} {sl_f_law_notes : Array (Option Value)} {oc_f_law_notes kV_f_law_notes dc_f_law_notes pm_f_law_notes cd_f_law_notes ct_f_law_notes : Value} {a_f_law_table : Addr} {od_f_law_table an_f_law_table : Option Addr} {sl_f_law_table : Array (Option Value)} {oc_f_law_table kV_f_law_table dc_f_law_table pm_f_law_table cd_f_law_table ct_f_law_table : Value} {a_f_law_document : Addr} {od_f_law_document an_f_law_document : Option Addr} {sl_f_law_document : Array (Option Value)} {oc_f_law_document kV_f_law_document dc_f_law_document pm_f_law_document cd_f_law_document ct_f_law_document : Value} {a_f_law_value : Addr} {od_f_law_value an_f_law_value : Option Addr} {sl_f_law_value : Array (Option Value)} {oc_f_law_value kV_f_law_value dc_f_law_value pm_f_law_value cd_f_law_value ct_f_law_value : Value} {a_f_law_marks : Addr} {od_f_law_marks an_f_law_marks : Option Addr} {sl_f_law_marks : Array (Option Value)} {oc_f_law_marks kV_f_law_marks dc_f_law_marks pm_f_law_marks cd_f_law_marks ct_f_law_marks : Value} {a_f_law_due : Addr} {od_f_law_due an_f_law_due : Option Addr} {sl_f_law_due : Array (Option Value)} {oc_f_law_due kV_f_law_due dc_f_law_due pm_f_law_due cd_f_law_due ct_f_law_due : Value} {a_flaw : Addr} {od_flaw an_flaw : Option Addr} {sl_flaw : Array (Option Value)} {oc_flaw kV_flaw dc_flaw pm_flaw cd_flaw ct_flaw : Value}
    (zb_dict : PySem.W.nsIn K mainGlobals "dict" = some none)
    (zb_enumerate : PySem.W.nsIn K mainGlobals "enumerate" = some none)
    (zb_int : PySem.W.nsIn K mainGlobals "int" = some none)
    (zb_isinstance : PySem.W.nsIn K mainGlobals "isinstance" = some none)
    (zb_len : PySem.W.nsIn K mainGlobals "len" = some none)
    (zb_list : PySem.W.nsIn K mainGlobals "list" = some none)
    (zb_range : PySem.W.nsIn K mainGlobals "range" = some none)
    (zb_sorted : PySem.W.nsIn K mainGlobals "sorted" = some none)
    (zb_str : PySem.W.nsIn K mainGlobals "str" = some none)
    (z1_fstretches_of : PySem.W.nsIn K mainGlobals "stretches_of" = some (some (.ref a_fstretches_of)))
    (z2_fstretches_of : K.lookup a_fstretches_of = some ⟨oc_fstretches_of, od_fstretches_of, .func (PySem.W.fnOf "stretches_of" "stretches_of" (defArgs s_fstretches_of) (defBody s_fstretches_of) (defScope s_fstretches_of) .none kV_fstretches_of dc_fstretches_of pm_fstretches_of an_fstretches_of cd_fstretches_of ct_fstretches_of), sl_fstretches_of⟩)
    (z3_fstretches_of : PySem.W.codeIn K cd_fstretches_of "stretches_of" = true) (z4_fstretches_of : PySem.W.keepIn K (.ref a_fstretches_of) = true)
    (z1_fshown_mark : PySem.W.nsIn K mainGlobals "shown_mark" = some (some (.ref a_fshown_mark)))
    (z2_fshown_mark : K.lookup a_fshown_mark = some ⟨oc_fshown_mark, od_fshown_mark, .func (PySem.W.fnOf "shown_mark" "shown_mark" (defArgs s_fshown_mark) (defBody s_fshown_mark) (defScope s_fshown_mark) .none kV_fshown_mark dc_fshown_mark pm_fshown_mark an_fshown_mark cd_fshown_mark ct_fshown_mark), sl_fshown_mark⟩)
    (z3_fshown_mark : PySem.W.codeIn K cd_fshown_mark "shown_mark" = true) (z4_fshown_mark : PySem.W.keepIn K (.ref a_fshown_mark) = true)
    (z1_fshown_note : PySem.W.nsIn K mainGlobals "shown_note" = some (some (.ref a_fshown_note)))
    (z2_fshown_note : K.lookup a_fshown_note = some ⟨oc_fshown_note, od_fshown_note, .func (PySem.W.fnOf "shown_note" "shown_note" (defArgs s_fshown_note) (defBody s_fshown_note) (defScope s_fshown_note) .none kV_fshown_note dc_fshown_note pm_fshown_note an_fshown_note cd_fshown_note ct_fshown_note), sl_fshown_note⟩)
    (z3_fshown_note : PySem.W.codeIn K cd_fshown_note "shown_note" = true) (z4_fshown_note : PySem.W.keepIn K (.ref a_fshown_note) = true)
    (z1_fshown_cells : PySem.W.nsIn K mainGlobals "shown_cells" = some (some (.ref a_fshown_cells)))
    (z2_fshown_cells : K.lookup a_fshown_cells = some ⟨oc_fshown_cells, od_fshown_cells, .func (PySem.W.fnOf "shown_cells" "shown_cells" (defArgs s_fshown_cells) (defBody s_fshown_cells) (defScope s_fshown_cells) .none kV_fshown_cells dc_fshown_cells pm_fshown_cells an_fshown_cells cd_fshown_cells ct_fshown_cells), sl_fshown_cells⟩)
    (z3_fshown_cells : PySem.W.codeIn K cd_fshown_cells "shown_cells" = true) (z4_fshown_cells : PySem.W.keepIn K (.ref a_fshown_cells) = true)
    (z1_frows_of_entry : PySem.W.nsIn K mainGlobals "rows_of_entry" = some (some (.ref a_frows_of_entry)))
    (z2_frows_of_entry : K.lookup a_frows_of_entry = some ⟨oc_frows_of_entry, od_frows_of_entry, .func (PySem.W.fnOf "rows_of_entry" "rows_of_entry" (defArgs s_frows_of_entry) (defBody s_frows_of_entry) (defScope s_frows_of_entry) .none kV_frows_of_entry dc_frows_of_entry pm_frows_of_entry an_frows_of_entry cd_frows_of_entry ct_frows_of_entry), sl_frows_of_entry⟩)
    (z3_frows_of_entry : PySem.W.codeIn K cd_frows_of_entry "rows_of_entry" = true) (z4_frows_of_entry : PySem.W.keepIn K (.ref a_frows_of_entry) = true)
    (z1_fshown : PySem.W.nsIn K mainGlobals "shown" = some (some (.ref a_fshown)))
    (z2_fshown : K.lookup a_fshown = some ⟨oc_fshown, od_fshown, .func (PySem.W.fnOf "shown" "shown" (defArgs s_fshown) (defBody s_fshown) (defScope s_fshown) .none kV_fshown dc_fshown pm_fshown an_fshown cd_fshown ct_fshown), sl_fshown⟩)
    (z3_fshown : PySem.W.codeIn K cd_fshown "shown" = true) (z4_fshown : PySem.W.keepIn K (.ref a_fshown) = true)
    (z1_f_law_cell_at : PySem.W.nsIn K mainGlobals "_law_cell_at" = some (some (.ref a_f_law_cell_at)))
    (z2_f_law_cell_at : K.lookup a_f_law_cell_at = some ⟨oc_f_law_cell_at, od_f_law_cell_at, .func (PySem.W.fnOf "_law_cell_at" "_law_cell_at" (defArgs s_f_law_cell_at) (defBody s_f_law_cell_at) (defScope s_f_law_cell_at) .none kV_f_law_cell_at dc_f_law_cell_at pm_f_law_cell_at an_f_law_cell_at cd_f_law_cell_at ct_f_law_cell_at), sl_f_law_cell_at⟩)
    (z3_f_law_cell_at : PySem.W.codeIn K cd_f_law_cell_at "_law_cell_at" = true) (z4_f_law_cell_at : PySem.W.keepIn K (.ref a_f_law_cell_at) = true)
    (z1_f_law_drawn : PySem.W.nsIn K mainGlobals "_law_drawn" = some (some (.ref a_f_law_drawn)))
    (z2_f_law_drawn : K.lookup a_f_law_drawn = some ⟨oc_f_law_drawn, od_f_law_drawn, .func (PySem.W.fnOf "_law_drawn" "_law_drawn" (defArgs s_f_law_drawn) (defBody s_f_law_drawn) (defScope s_f_law_drawn) .none kV_f_law_drawn dc_f_law_drawn pm_f_law_drawn an_f_law_drawn cd_f_law_drawn ct_f_law_drawn), sl_f_law_drawn⟩)
    (z3_f_law_drawn : PySem.W.codeIn K cd_f_law_drawn "_law_drawn" = true) (z4_f_law_drawn : PySem.W.keepIn K (.ref a_f_law_drawn) = true)
    (z1_f_law_draw : PySem.W.nsIn K mainGlobals "_law_draw" = some (some (.ref a_f_law_draw)))
    (z2_f_law_draw : K.lookup a_f_law_draw = some ⟨oc_f_law_draw, od_f_law_draw, .func (PySem.W.fnOf "_law_draw" "_law_draw" (defArgs s_f_law_draw) (defBody s_f_law_draw) (defScope s_f_law_draw) .none kV_f_law_draw dc_f_law_draw pm_f_law_draw an_f_law_draw cd_f_law_draw ct_f_law_draw), sl_f_law_draw⟩)
    (z3_f_law_draw : PySem.W.codeIn K cd_f_law_draw "_law_draw" = true) (z4_f_law_draw : PySem.W.keepIn K (.ref a_f_law_draw) = true)
    (z1_f_law_row : PySem.W.nsIn K mainGlobals "_law_row" = some (some (.ref a_f_law_row)))
    (z2_f_law_row : K.lookup a_f_law_row = some ⟨oc_f_law_row, od_f_law_row, .func (PySem.W.fnOf "_law_row" "_law_row" (defArgs s_f_law_row) (defBody s_f_law_row) (defScope s_f_law_row) .none kV_f_law_row dc_f_law_row pm_f_law_row an_f_law_row cd_f_law_row ct_f_law_row), sl_f_law_row⟩)
    (z3_f_law_row : PySem.W.codeIn K cd_f_law_row "_law_row" = true) (z4_f_law_row : PySem.W.keepIn K (.ref a_f_law_row) = true)
    (z1_f_law_notes : PySem.W.nsIn K mainGlobals "_law_notes" = some (some (.ref a_f_law_notes)))
    (z2_f_law_notes : K.lookup a_f_law_notes = some ⟨oc_f_law_notes, od_f_law_notes, .func (PySem.W.fnOf "_law_notes" "_law_notes" (defArgs s_f_law_notes) (defBody s_f_law_notes) (defScope s_f_law_notes) .none kV_f_law_notes dc_f_law_notes pm_f_law_notes an_f_law_notes cd_f_law_notes ct_f_law_notes), sl_f_law_notes⟩)
    (z3_f_law_notes : PySem.W.codeIn K cd_f_law_notes "_law_notes" = true) (z4_f_law_notes : PySem.W.keepIn K (.ref a_f_law_notes) = true)
    (z1_f_law_table : PySem.W.nsIn K mainGlobals "_law_table" = some (some (.ref a_f_law_table)))
    (z2_f_law_table : K.lookup a_f_law_table = some ⟨oc_f_law_table, od_f_law_table, .func (PySem.W.fnOf "_law_table" "_law_table" (defArgs s_f_law_table) (defBody s_f_law_table) (defScope s_f_law_table) .none kV_f_law_table dc_f_law_table pm_f_law_table an_f_law_table cd_f_law_table ct_f_law_table), sl_f_law_table⟩)
    (z3_f_law_table : PySem.W.codeIn K cd_f_law_table "_law_table" = true) (z4_f_law_table : PySem.W.keepIn K (.ref a_f_law_table) = true)
    (z1_f_law_document : PySem.W.nsIn K mainGlobals "_law_document" = some (some (.ref a_f_law_document)))
    (z2_f_law_document : K.lookup a_f_law_document = some ⟨oc_f_law_document, od_f_law_document, .func (PySem.W.fnOf "_law_document" "_law_document" (defArgs s_f_law_document) (defBody s_f_law_document) (defScope s_f_law_document) .none kV_f_law_document dc_f_law_document pm_f_law_document an_f_law_document cd_f_law_document ct_f_law_document), sl_f_law_document⟩)
    (z3_f_law_document : PySem.W.codeIn K cd_f_law_document "_law_document" = true) (z4_f_law_document : PySem.W.keepIn K (.ref a_f_law_document) = true)
    (z1_f_law_value : PySem.W.nsIn K mainGlobals "_law_value" = some (some (.ref a_f_law_value)))
    (z2_f_law_value : K.lookup a_f_law_value = some ⟨oc_f_law_value, od_f_law_value, .func (PySem.W.fnOf "_law_value" "_law_value" (defArgs s_f_law_value) (defBody s_f_law_value) (defScope s_f_law_value) .none kV_f_law_value dc_f_law_value pm_f_law_value an_f_law_value cd_f_law_value ct_f_law_value), sl_f_law_value⟩)
    (z3_f_law_value : PySem.W.codeIn K cd_f_law_value "_law_value" = true) (z4_f_law_value : PySem.W.keepIn K (.ref a_f_law_value) = true)
    (z1_f_law_marks : PySem.W.nsIn K mainGlobals "_law_marks" = some (some (.ref a_f_law_marks)))
    (z2_f_law_marks : K.lookup a_f_law_marks = some ⟨oc_f_law_marks, od_f_law_marks, .func (PySem.W.fnOf "_law_marks" "_law_marks" (defArgs s_f_law_marks) (defBody s_f_law_marks) (defScope s_f_law_marks) .none kV_f_law_marks dc_f_law_marks pm_f_law_marks an_f_law_marks cd_f_law_marks ct_f_law_marks), sl_f_law_marks⟩)
    (z3_f_law_marks : PySem.W.codeIn K cd_f_law_marks "_law_marks" = true) (z4_f_law_marks : PySem.W.keepIn K (.ref a_f_law_marks) = true)
    (z1_f_law_due : PySem.W.nsIn K mainGlobals "_law_due" = some (some (.ref a_f_law_due)))
    (z2_f_law_due : K.lookup a_f_law_due = some ⟨oc_f_law_due, od_f_law_due, .func (PySem.W.fnOf "_law_due" "_law_due" (defArgs s_f_law_due) (defBody s_f_law_due) (defScope s_f_law_due) .none kV_f_law_due dc_f_law_due pm_f_law_due an_f_law_due cd_f_law_due ct_f_law_due), sl_f_law_due⟩)
    (z3_f_law_due : PySem.W.codeIn K cd_f_law_due "_law_due" = true) (z4_f_law_due : PySem.W.keepIn K (.ref a_f_law_due) = true)
    (z1_flaw : PySem.W.nsIn K mainGlobals "law" = some (some (.ref a_flaw)))
    (z2_flaw : K.lookup a_flaw = some ⟨oc_flaw, od_flaw, .func (PySem.W.fnOf "law" "law" (defArgs s_flaw) (defBody s_flaw) (defScope s_flaw) .none kV_flaw dc_flaw pm_flaw an_flaw cd_flaw ct_flaw), sl_flaw⟩)
    (z3_flaw : PySem.W.codeIn K cd_flaw "law" = true) (z4_flaw : PySem.W.keepIn K (.ref a_flaw) = true) :
    ∃ fd : FuncData, (∀ (s : Shared) (v : Value), BindsTo s fd ⟨[v], []⟩ [("_law_script", v)]) ∧ ∀ base : Heap, K.In base → base.Ns mainGlobals mg → FnOk l.prog w K mg base CX0 4 fa fd ["_law_script"] (sp_flaw K) := by
  have e := hfa.symm.trans (PySem.W.mg_of X G z1_flaw)
  cases e
  have T : Txt K mg ⟨a_fstretches_of, PySem.W.fnOf "stretches_of" "stretches_of" (defArgs s_fstretches_of) (defBody s_fstretches_of) (defScope s_fstretches_of) .none kV_fstretches_of dc_fstretches_of pm_fstretches_of an_fstretches_of cd_fstretches_of ct_fstretches_of, a_fshown_mark, PySem.W.fnOf "shown_mark" "shown_mark" (defArgs s_fshown_mark) (defBody s_fshown_mark) (defScope s_fshown_mark) .none kV_fshown_mark dc_fshown_mark pm_fshown_mark an_fshown_mark cd_fshown_mark ct_fshown_mark, a_fshown_note, PySem.W.fnOf "shown_note" "shown_note" (defArgs s_fshown_note) (defBody s_fshown_note) (defScope s_fshown_note) .none kV_fshown_note dc_fshown_note pm_fshown_note an_fshown_note cd_fshown_note ct_fshown_note, a_fshown_cells, PySem.W.fnOf "shown_cells" "shown_cells" (defArgs s_fshown_cells) (defBody s_fshown_cells) (defScope s_fshown_cells) .none kV_fshown_cells dc_fshown_cells pm_fshown_cells an_fshown_cells cd_fshown_cells ct_fshown_cells, a_frows_of_entry, PySem.W.fnOf "rows_of_entry" "rows_of_entry" (defArgs s_frows_of_entry) (defBody s_frows_of_entry) (defScope s_frows_of_entry) .none kV_frows_of_entry dc_frows_of_entry pm_frows_of_entry an_frows_of_entry cd_frows_of_entry ct_frows_of_entry, a_fshown, PySem.W.fnOf "shown" "shown" (defArgs s_fshown) (defBody s_fshown) (defScope s_fshown) .none kV_fshown dc_fshown pm_fshown an_fshown cd_fshown ct_fshown, a_f_law_cell_at, PySem.W.fnOf "_law_cell_at" "_law_cell_at" (defArgs s_f_law_cell_at) (defBody s_f_law_cell_at) (defScope s_f_law_cell_at) .none kV_f_law_cell_at dc_f_law_cell_at pm_f_law_cell_at an_f_law_cell_at cd_f_law_cell_at ct_f_law_cell_at, a_f_law_drawn, PySem.W.fnOf "_law_drawn" "_law_drawn" (defArgs s_f_law_drawn) (defBody s_f_law_drawn) (defScope s_f_law_drawn) .none kV_f_law_drawn dc_f_law_drawn pm_f_law_drawn an_f_law_drawn cd_f_law_drawn ct_f_law_drawn, a_f_law_draw, PySem.W.fnOf "_law_draw" "_law_draw" (defArgs s_f_law_draw) (defBody s_f_law_draw) (defScope s_f_law_draw) .none kV_f_law_draw dc_f_law_draw pm_f_law_draw an_f_law_draw cd_f_law_draw ct_f_law_draw, a_f_law_row, PySem.W.fnOf "_law_row" "_law_row" (defArgs s_f_law_row) (defBody s_f_law_row) (defScope s_f_law_row) .none kV_f_law_row dc_f_law_row pm_f_law_row an_f_law_row cd_f_law_row ct_f_law_row, a_f_law_notes, PySem.W.fnOf "_law_notes" "_law_notes" (defArgs s_f_law_notes) (defBody s_f_law_notes) (defScope s_f_law_notes) .none kV_f_law_notes dc_f_law_notes pm_f_law_notes an_f_law_notes cd_f_law_notes ct_f_law_notes, a_f_law_table, PySem.W.fnOf "_law_table" "_law_table" (defArgs s_f_law_table) (defBody s_f_law_table) (defScope s_f_law_table) .none kV_f_law_table dc_f_law_table pm_f_law_table an_f_law_table cd_f_law_table ct_f_law_table, a_f_law_document, PySem.W.fnOf "_law_document" "_law_document" (defArgs s_f_law_document) (defBody s_f_law_document) (defScope s_f_law_document) .none kV_f_law_document dc_f_law_document pm_f_law_document an_f_law_document cd_f_law_document ct_f_law_document, a_f_law_value, PySem.W.fnOf "_law_value" "_law_value" (defArgs s_f_law_value) (defBody s_f_law_value) (defScope s_f_law_value) .none kV_f_law_value dc_f_law_value pm_f_law_value an_f_law_value cd_f_law_value ct_f_law_value, a_f_law_marks, PySem.W.fnOf "_law_marks" "_law_marks" (defArgs s_f_law_marks) (defBody s_f_law_marks) (defScope s_f_law_marks) .none kV_f_law_marks dc_f_law_marks pm_f_law_marks an_f_law_marks cd_f_law_marks ct_f_law_marks, a_f_law_due, PySem.W.fnOf "_law_due" "_law_due" (defArgs s_f_law_due) (defBody s_f_law_due) (defScope s_f_law_due) .none kV_f_law_due dc_f_law_due pm_f_law_due an_f_law_due cd_f_law_due ct_f_law_due, fa, PySem.W.fnOf "law" "law" (defArgs s_flaw) (defBody s_flaw) (defScope s_flaw) .none kV_flaw dc_flaw pm_flaw an_flaw cd_flaw ct_flaw⟩ (fun x => 0) := by
    refine ⟨PySem.W.mg_none_of X G zb_dict, PySem.W.mg_none_of X G zb_enumerate, PySem.W.mg_none_of X G zb_int, PySem.W.mg_none_of X G zb_isinstance, PySem.W.mg_none_of X G zb_len, PySem.W.mg_none_of X G zb_list, PySem.W.mg_none_of X G zb_range, PySem.W.mg_none_of X G zb_sorted, PySem.W.mg_none_of X G zb_str, fun_mk (st := s_fstretches_of) z2_fstretches_of z3_fstretches_of z4_fstretches_of, PySem.W.mg_of X G z1_fstretches_of, z4_fstretches_of, (fun_mk (st := s_fstretches_of) z2_fstretches_of z3_fstretches_of z4_fstretches_of).binds (ps := ["row"]) fun _ _ _ _ _ _ us hl => match us, hl with | [_], _ => rfl, fun_mk (st := s_fshown_mark) z2_fshown_mark z3_fshown_mark z4_fshown_mark, PySem.W.mg_of X G z1_fshown_mark, z4_fshown_mark, (fun_mk (st := s_fshown_mark) z2_fshown_mark z3_fshown_mark z4_fshown_mark).binds (ps := ["told"]) fun _ _ _ _ _ _ us hl => match us, hl with | [_], _ => rfl, fun_mk (st := s_fshown_note) z2_fshown_note z3_fshown_note z4_fshown_note, PySem.W.mg_of X G z1_fshown_note, z4_fshown_note, (fun_mk (st := s_fshown_note) z2_fshown_note z3_fshown_note z4_fshown_note).binds (ps := ["places", "note"]) fun _ _ _ _ _ _ us hl => match us, hl with | [_, _], _ => rfl, fun_mk (st := s_fshown_cells) z2_fshown_cells z3_fshown_cells z4_fshown_cells, PySem.W.mg_of X G z1_fshown_cells, z4_fshown_cells, (fun_mk (st := s_fshown_cells) z2_fshown_cells z3_fshown_cells z4_fshown_cells).binds (ps := ["words"]) fun _ _ _ _ _ _ us hl => match us, hl with | [_], _ => rfl, fun_mk (st := s_frows_of_entry) z2_frows_of_entry z3_frows_of_entry z4_frows_of_entry, PySem.W.mg_of X G z1_frows_of_entry, z4_frows_of_entry, (fun_mk (st := s_frows_of_entry) z2_frows_of_entry z3_frows_of_entry z4_frows_of_entry).binds (ps := ["entry"]) fun _ _ _ _ _ _ us hl => match us, hl with | [_], _ => rfl, fun_mk (st := s_fshown) z2_fshown z3_fshown z4_fshown, PySem.W.mg_of X G z1_fshown, z4_fshown, (fun_mk (st := s_fshown) z2_fshown z3_fshown z4_fshown).binds (ps := ["entries"]) fun _ _ _ _ _ _ us hl => match us, hl with | [_], _ => rfl, fun_mk (st := s_f_law_cell_at) z2_f_law_cell_at z3_f_law_cell_at z4_f_law_cell_at, PySem.W.mg_of X G z1_f_law_cell_at, z4_f_law_cell_at, (fun_mk (st := s_f_law_cell_at) z2_f_law_cell_at z3_f_law_cell_at z4_f_law_cell_at).binds (ps := ["_law_script", "_law_k"]) fun _ _ _ _ _ _ us hl => match us, hl with | [_, _], _ => rfl, fun_mk (st := s_f_law_drawn) z2_f_law_drawn z3_f_law_drawn z4_f_law_drawn, PySem.W.mg_of X G z1_f_law_drawn, z4_f_law_drawn, (fun_mk (st := s_f_law_drawn) z2_f_law_drawn z3_f_law_drawn z4_f_law_drawn).binds (ps := ["_law_cell", "_law_digits"]) fun _ _ _ _ _ _ us hl => match us, hl with | [_, _], _ => rfl, fun_mk (st := s_f_law_draw) z2_f_law_draw z3_f_law_draw z4_f_law_draw, PySem.W.mg_of X G z1_f_law_draw, z4_f_law_draw, (fun_mk (st := s_f_law_draw) z2_f_law_draw z3_f_law_draw z4_f_law_draw).binds (ps := ["_law_drawn_here", "_law_many"]) fun _ _ _ _ _ _ us hl => match us, hl with | [_, _], _ => rfl, fun_mk (st := s_f_law_row) z2_f_law_row z3_f_law_row z4_f_law_row, PySem.W.mg_of X G z1_f_law_row, z4_f_law_row, (fun_mk (st := s_f_law_row) z2_f_law_row z3_f_law_row z4_f_law_row).binds (ps := ["_law_drawn_here"]) fun _ _ _ _ _ _ us hl => match us, hl with | [_], _ => rfl, fun_mk (st := s_f_law_notes) z2_f_law_notes z3_f_law_notes z4_f_law_notes, PySem.W.mg_of X G z1_f_law_notes, z4_f_law_notes, (fun_mk (st := s_f_law_notes) z2_f_law_notes z3_f_law_notes z4_f_law_notes).binds (ps := ["_law_drawn_here", "_law_row_here"]) fun _ _ _ _ _ _ us hl => match us, hl with | [_, _], _ => rfl, fun_mk (st := s_f_law_table) z2_f_law_table z3_f_law_table z4_f_law_table, PySem.W.mg_of X G z1_f_law_table, z4_f_law_table, (fun_mk (st := s_f_law_table) z2_f_law_table z3_f_law_table z4_f_law_table).binds (ps := ["_law_drawn_here"]) fun _ _ _ _ _ _ us hl => match us, hl with | [_], _ => rfl, fun_mk (st := s_f_law_document) z2_f_law_document z3_f_law_document z4_f_law_document, PySem.W.mg_of X G z1_f_law_document, z4_f_law_document, (fun_mk (st := s_f_law_document) z2_f_law_document z3_f_law_document z4_f_law_document).binds (ps := ["_law_script"]) fun _ _ _ _ _ _ us hl => match us, hl with | [_], _ => rfl, fun_mk (st := s_f_law_value) z2_f_law_value z3_f_law_value z4_f_law_value, PySem.W.mg_of X G z1_f_law_value, z4_f_law_value, (fun_mk (st := s_f_law_value) z2_f_law_value z3_f_law_value z4_f_law_value).binds (ps := ["_law_told", "_law_kind"]) fun _ _ _ _ _ _ us hl => match us, hl with | [_, _], _ => rfl, fun_mk (st := s_f_law_marks) z2_f_law_marks z3_f_law_marks z4_f_law_marks, PySem.W.mg_of X G z1_f_law_marks, z4_f_law_marks, (fun_mk (st := s_f_law_marks) z2_f_law_marks z3_f_law_marks z4_f_law_marks).binds (ps := ["_law_row_here"]) fun _ _ _ _ _ _ us hl => match us, hl with | [_], _ => rfl, fun_mk (st := s_f_law_due) z2_f_law_due z3_f_law_due z4_f_law_due, PySem.W.mg_of X G z1_f_law_due, z4_f_law_due, (fun_mk (st := s_f_law_due) z2_f_law_due z3_f_law_due z4_f_law_due).binds (ps := ["_law_entries"]) fun _ _ _ _ _ _ us hl => match us, hl with | [_], _ => rfl, fun_mk (st := s_flaw) z2_flaw z3_flaw z4_flaw, PySem.W.mg_of X G z1_flaw, z4_flaw, (fun_mk (st := s_flaw) z2_flaw z3_flaw z4_flaw).binds (ps := ["_law_script"]) fun _ _ _ _ _ _ us hl => match us, hl with | [_], _ => rfl⟩
  refine ⟨PySem.W.fnOf "law" "law" (defArgs s_flaw) (defBody s_flaw) (defScope s_flaw) .none kV_flaw dc_flaw pm_flaw an_flaw cd_flaw ct_flaw, fun s v => .of_eq rfl, fun base _ _ => ?_⟩
  have r_fstretches_of := ok_fstretches_of (P := l.prog) (w := w) (base := base) T
  have r_fshown_mark := ok_fshown_mark (P := l.prog) (w := w) (base := base) T
  have r_fshown_note := ok_fshown_note (P := l.prog) (w := w) (base := base) T
  have r_fshown_cells := ok_fshown_cells (P := l.prog) (w := w) (base := base) T
  have r_f_law_cell_at := ok_f_law_cell_at (P := l.prog) (w := w) (base := base) T
  have r_f_law_drawn := ok_f_law_drawn (P := l.prog) (w := w) (base := base) T
  have r_f_law_draw := ok_f_law_draw (P := l.prog) (w := w) (base := base) T
  have r_f_law_value := ok_f_law_value (P := l.prog) (w := w) (base := base) T
  have r_frows_of_entry := ok_frows_of_entry (P := l.prog) (w := w) (base := base) T r_fshown_cells r_fshown_mark r_fshown_note r_fstretches_of
  have r_f_law_row := ok_f_law_row (P := l.prog) (w := w) (base := base) T r_f_law_draw
  have r_f_law_notes := ok_f_law_notes (P := l.prog) (w := w) (base := base) T r_f_law_draw
  have r_f_law_table := ok_f_law_table (P := l.prog) (w := w) (base := base) T r_f_law_draw
  have r_f_law_marks := ok_f_law_marks (P := l.prog) (w := w) (base := base) T r_f_law_value
  have r_fshown := ok_fshown (P := l.prog) (w := w) (base := base) T r_frows_of_entry
  have r_f_law_document := ok_f_law_document (P := l.prog) (w := w) (base := base) T r_f_law_cell_at r_f_law_draw r_f_law_drawn r_f_law_notes r_f_law_row r_f_law_table
  have r_f_law_due := ok_f_law_due (P := l.prog) (w := w) (base := base) T r_f_law_marks
  exact ok_flaw T r_f_law_document r_f_law_due r_fshown
end My
open PySem PySem.W PyProof.Rows
set_option maxRecDepth 100000 in
set_option maxHeartbeats 0 in
theorem PySem.Challenge.cw_pagefolk_k47_shown_as_text_holds : PySem.Challenge.rw_pagefolk_k47_shown_as_text.Holds := by
  w_on; o_law; k_head; (case hw => w_witness2)
  k_fill
  refine L2.walk_ofK (l := PySem.Challenge.rw_pagefolk_k47_shown_as_text) (n := 63) (k := 4) (x := "_law_script") (CX := L2.CX0) (sp := My.sp_flaw) rfl (by decide) rfl ⟨rfl, by decide, by decide⟩ (fun w h Y => PySem.W.kIn_of Y) ?F My.law_spec (fun _ _ _ _ z => z)
  case F =>
    intro w mg fa h KX G hmg
    refine' My.all_mk KX G hmg ?zb_dict ?zb_enumerate ?zb_int ?zb_isinstance ?zb_len ?zb_list ?zb_range ?zb_sorted ?zb_str ?z1_fstretches_of ?z2_fstretches_of ?z3_fstretches_of ?z4_fstretches_of ?z1_fshown_mark ?z2_fshown_mark ?z3_fshown_mark ?z4_fshown_mark ?z1_fshown_note ?z2_fshown_note ?z3_fshown_note ?z4_fshown_note ?z1_fshown_cells ?z2_fshown_cells ?z3_fshown_cells ?z4_fshown_cells ?z1_frows_of_entry ?z2_frows_of_entry ?z3_frows_of_entry ?z4_frows_of_entry ?z1_fshown ?z2_fshown ?z3_fshown ?z4_fshown ?z1_f_law_cell_at ?z2_f_law_cell_at ?z3_f_law_cell_at ?z4_f_law_cell_at ?z1_f_law_drawn ?z2_f_law_drawn ?z3_f_law_drawn ?z4_f_law_drawn ?z1_f_law_draw ?z2_f_law_draw ?z3_f_law_draw ?z4_f_law_draw ?z1_f_law_row ?z2_f_law_row ?z3_f_law_row ?z4_f_law_row ?z1_f_law_notes ?z2_f_law_notes ?z3_f_law_notes ?z4_f_law_notes ?z1_f_law_table ?z2_f_law_table ?z3_f_law_table ?z4_f_law_table ?z1_f_law_document ?z2_f_law_document ?z3_f_law_document ?z4_f_law_document ?z1_f_law_value ?z2_f_law_value ?z3_f_law_value ?z4_f_law_value ?z1_f_law_marks ?z2_f_law_marks ?z3_f_law_marks ?z4_f_law_marks ?z1_f_law_due ?z2_f_law_due ?z3_f_law_due ?z4_f_law_due ?z1_flaw ?z2_flaw ?z3_flaw ?z4_flaw
    (case zb_dict => k_is)
    (case zb_enumerate => k_is)
    (case zb_int => k_is)
    (case zb_isinstance => k_is)
    (case zb_len => k_is)
    (case zb_list => k_is)
    (case zb_range => k_is)
    (case zb_sorted => k_is)
    (case zb_str => k_is)
    (case z1_fstretches_of => k_is)
    (case z2_fstretches_of => k_is)
    (case z3_fstretches_of => k_is)
    (case z4_fstretches_of => k_is)
    (case z1_fshown_mark => k_is)
    (case z2_fshown_mark => k_is)
    (case z3_fshown_mark => k_is)
    (case z4_fshown_mark => k_is)
    (case z1_fshown_note => k_is)
    (case z2_fshown_note => k_is)
    (case z3_fshown_note => k_is)
    (case z4_fshown_note => k_is)
    (case z1_fshown_cells => k_is)
    (case z2_fshown_cells => k_is)
    (case z3_fshown_cells => k_is)
    (case z4_fshown_cells => k_is)
    (case z1_frows_of_entry => k_is)
    (case z2_frows_of_entry => k_is)
    (case z3_frows_of_entry => k_is)
    (case z4_frows_of_entry => k_is)
    (case z1_fshown => k_is)
    (case z2_fshown => k_is)
    (case z3_fshown => k_is)
    (case z4_fshown => k_is)
    (case z1_f_law_cell_at => k_is)
    (case z2_f_law_cell_at => k_is)
    (case z3_f_law_cell_at => k_is)
    (case z4_f_law_cell_at => k_is)
    (case z1_f_law_drawn => k_is)
    (case z2_f_law_drawn => k_is)
    (case z3_f_law_drawn => k_is)
    (case z4_f_law_drawn => k_is)
    (case z1_f_law_draw => k_is)
    (case z2_f_law_draw => k_is)
    (case z3_f_law_draw => k_is)
    (case z4_f_law_draw => k_is)
    (case z1_f_law_row => k_is)
    (case z2_f_law_row => k_is)
    (case z3_f_law_row => k_is)
    (case z4_f_law_row => k_is)
    (case z1_f_law_notes => k_is)
    (case z2_f_law_notes => k_is)
    (case z3_f_law_notes => k_is)
    (case z4_f_law_notes => k_is)
    (case z1_f_law_table => k_is)
    (case z2_f_law_table => k_is)
    (case z3_f_law_table => k_is)
    (case z4_f_law_table => k_is)
    (case z1_f_law_document => k_is)
    (case z2_f_law_document => k_is)
    (case z3_f_law_document => k_is)
    (case z4_f_law_document => k_is)
    (case z1_f_law_value => k_is)
    (case z2_f_law_value => k_is)
    (case z3_f_law_value => k_is)
    (case z4_f_law_value => k_is)
    (case z1_f_law_marks => k_is)
    (case z2_f_law_marks => k_is)
    (case z3_f_law_marks => k_is)
    (case z4_f_law_marks => k_is)
    (case z1_f_law_due => k_is)
    (case z2_f_law_due => k_is)
    (case z3_f_law_due => k_is)
    (case z4_f_law_due => k_is)
    (case z1_flaw => k_is)
    (case z2_flaw => k_is)
    (case z3_flaw => k_is)
    (case z4_flaw => k_is)
